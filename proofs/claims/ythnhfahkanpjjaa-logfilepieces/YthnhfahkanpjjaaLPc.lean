/- What is proved: plain facts on a scanner that is fed in pieces and read as far as it goes; the bounds that a machine's memory sets. -/
import Derived.Test.YthnhfahkanpjjaaLTell
namespace Go.Proofs.Ythnhfahkanpjjaa
open Go.RowKit

section
variable {base : Nat} {w W : World} {sb : Nat} {vs vl : Value} {d : List Int} {en : Bool} {s : Sc} {l : List TxR}
/-- A transaction was read: the world with its box. -/
theorem Rdg.read2 {W1 : World} {s' : Sc} {t : TxM} {a : Option Addr} {c : Nat} (h : Rdg base w W sb vs vl d en s l) (hl : Left base W sb vs d en s' W1) (hn : next7 d en s = (some t, s')) (ho : OwnO W.heap.size W1 (.slice a t.ops.length c) t.ops) (ty : TypeId) :
    ∃ v' w', (Builtin.append_ #[24, 24] ty #[vl, .slice (some ⟨W1.heap.size + 1, 0, none⟩) 1 1]).run Try.prog ((W1.alloc (⟨t, a, c⟩ : TxR).obj).alloc (⟨t, a, c⟩ : TxR).obj) = .ok v' w' ∧ (∃ vs' a' c', Rdg base w w' sb vs' v' d en s' (l ++ [⟨t, a, c⟩]) ∧ v' = .slice a' (l.length + 1) c' ∧ Same (fun k => k = sb ∨ vl.ownBlock = some k) W w' ∧ (∀ k, InL v' (l ++ [⟨t, a, c⟩]) k → InL vl l k ∨ W.heap.size ≤ k) ∧ (∀ k, vs'.ownBlock = some k → vs.ownBlock = some k)) := by
  obtain ⟨vs', a1, l1, k1, b1⟩ := h.left hl
  have hle := h.le
  have hsb := a1.sn.lt
  obtain ⟨v', w', hr, r1, r2, r3⟩ := app_tx_one (⟨t, a, c⟩ : TxR) (OwnT.on l1.row ((Same.refl _ W1).alloc (⟨t, a, c⟩ : TxR).obj)) (by omega) (by rw [World.size_alloc]; omega) ty
  rw [World.size_alloc] at hr
  refine ⟨v', w', hr, ?_⟩
  have hk2 : Kept W1 (W1.alloc (⟨t, a, c⟩ : TxR).obj) := (Same.refl _ W1).alloc _
  have hnb : Byts d := a1.byts
  have hn2 : next7 d false s = (some t, s') := by
    cases en with
    | false => exact hn
    | true => exact next_en hnb h.at_.ple hn
  have hf2 : Fed d ((l ++ [(⟨t, a, c⟩ : TxR)]).map TxR.t) s' := by
    rw [List.map_append]
    exact h.fed.some hnb hn2
  have hoW : OwnO W.heap.size (W1.alloc (⟨t, a, c⟩ : TxR).obj) (TxR.sl ⟨t, a, c⟩) t.ops := OwnO.on ho hk2
  have hWl : Lst (sb + 1) W vl l := h.lst
  obtain ⟨⟨_, a2, b2⟩, kk⟩ := hl
  have hkW : Same (fun k => k = sb) W (W1.alloc (⟨t, a, c⟩ : TxR).obj) := kk.alloc _
  have hs1 : W.heap.size ≤ W1.heap.size := kk.size
  -- the list behind the append
  have hne : ∀ x ∈ l ++ [(⟨t, a, c⟩ : TxR)], ∀ k, x.sl.ownBlock = some k → vl.ownBlock ≠ some k ∧ k < W1.heap.size + 1 ∧ (k < W.heap.size → InL vl l k) := fun x hx k hk => by
    rcases List.mem_append.1 hx with hx | hx
    · have := ((l1.ops x hx).block hk).2
      exact ⟨l1.ne x hx k hk, by omega, fun _ => .inr ⟨x, hx, hk⟩⟩
    · obtain rfl : x = ⟨t, a, c⟩ := by simpa using hx
      have := ho.block hk
      refine ⟨fun e => ?_, by omega, fun c => absurd c (Nat.not_lt.2 this.1)⟩
      have := (hWl.row.block e).2
      omega
  have hlst : Lst (sb + 1) w' v' (l ++ [⟨t, a, c⟩]) := by
    refine ⟨r1, fun x hx => ?_, fun x hx k hk e => ?_⟩
    · rcases List.mem_append.1 hx with hx' | hx'
      · exact ((l1.ops x hx').on hk2).kept r2 fun k hk => (hne x hx k hk).1
      · obtain rfl : x = ⟨t, a, c⟩ := by simpa using hx'
        exact (OwnO.kept hoW r2 fun k hk => (hne _ hx k hk).1).lower (by have := h.at_.sn.lt; omega)
    · obtain ⟨n1, n2, -⟩ := hne x hx k hk
      rcases r3 k e with e | e
      · exact n1 e
      · rw [World.size_alloc] at e
        omega
  have hin : ∀ k, InL v' (l ++ [⟨t, a, c⟩]) k → InL vl l k ∨ W.heap.size ≤ k := fun k hk => by
    rcases hk with hk | ⟨x, hx, hk⟩
    · rcases r3 k hk with e | e
      · exact .inl (.inl e)
      · rw [World.size_alloc] at e
        exact .inr (by omega)
    · by_cases c : k < W.heap.size
      · exact .inl ((hne x hx k hk).2.2 c)
      · exact .inr (Nat.not_lt.1 c)
  have hvb : ∀ k, vl.ownBlock = some k → sb < k := fun k e => (l1.row.block e).1
  have hat : At base w' sb vs' d en s' := (a1.on hk2).kept r2 (fun e => Nat.lt_irrefl _ (hvb sb e)) (fun k e1 e2 => h.ne k (b1 k e1) (.inl e2))
  obtain ⟨a', c', e', -⟩ := OwnT.txs r1
  refine ⟨vs', a', c', ⟨hat, hlst, hf2, (k1.trans' hk2).trans r2 (fun i hi e => ?_), fun k e1 e2 => ?_, h.sbw⟩, by rw [e', List.length_append]; rfl, (hkW.mono fun k _ e => .inl e).trans r2 (fun k _ e => .inr e), hin, b1⟩
  · have := hvb i e
    have := h.sbw
    omega
  · rcases hin k e2 with e2 | e2
    · exact h.ne k (b1 k e1) e2
    · have := h.at_.below (b1 k e1)
      omega
/-- What stands while pieces are fed and read: W0 was the world when it began. -/
structure Pc (w W0 W : World) (sb : Nat) (vs vl : Value) (d : List Int) (en : Bool) (s : Sc) (l : List TxR) : Prop where
  rdg : Rdg w.heap.size w W sb vs vl d en s l
  old : Same (fun k => k = sb) W0 W
  new : ∀ k, (vs.ownBlock = some k ∨ InL vl l k) → W0.heap.size ≤ k
  ctp : s.ct ≤ s.pl
variable {W0 : World}
theorem Pc.wait {W1 : World} {s' : Sc} (h : Pc w W0 W sb vs vl d en s l) (hl : Left w.heap.size W sb vs d en s' W1) (hf : Fed d (l.map TxR.t) s') (hc : s'.ct ≤ s'.pl) : ∃ vs', Pc w W0 W1 sb vs' vl d en s' l := by
  obtain ⟨vs', a1, l1, k1, b1⟩ := h.rdg.left hl
  exact ⟨vs', ⟨a1, l1, hf, k1, fun k e => h.rdg.ne k (b1 k e), h.rdg.sbw⟩, h.old.trans' hl.2, fun k e => h.new k (e.imp (b1 k) id), hc⟩
theorem Pc.read {W1 : World} {s' : Sc} {t : TxM} {a : Option Addr} {c : Nat} (h : Pc w W0 W sb vs vl d en s l) (hl : Left w.heap.size W sb vs d en s' W1) (hn : next7 d en s = (some t, s')) (ho : OwnO W.heap.size W1 (.slice a t.ops.length c) t.ops) (ty : TypeId) :
    ∃ v' w', (Builtin.append_ #[24, 24] ty #[vl, .slice (some ⟨W1.heap.size + 1, 0, none⟩) 1 1]).run Try.prog ((W1.alloc (⟨t, a, c⟩ : TxR).obj).alloc (⟨t, a, c⟩ : TxR).obj) = .ok v' w' ∧ (∃ vs' a' c', Pc w W0 w' sb vs' v' d en s' (l ++ [⟨t, a, c⟩]) ∧ v' = .slice a' (l.length + 1) c') := by
  obtain ⟨v', w', hr, vs', a', c', r1, r2, r3, r4, r5⟩ := h.rdg.read2 hl hn ho ty
  refine ⟨v', w', hr, vs', a', c', ⟨r1, h.old.trans r3 (fun i hi e => ?_), fun k e => ?_, next_ctp h.rdg.at_.byts h.rdg.at_.ple h.ctp hn (.inl (by simp))⟩, r2⟩
  · rcases e with e | e
    · exact e
    · exact absurd (h.new i (.inr (.inl e))) (Nat.not_le.2 hi)
  · rcases e with e | e
    · exact h.new k (.inl (r5 k e))
    · rcases r4 k e with e | e
      · exact h.new k (.inr e)
      · exact Nat.le_trans h.old.size e
/-- More bytes are fed. -/
theorem Pc.feed {p : List Int} {w' : World} (h : Pc w W0 W sb vs vl d false s l) (h0 : s.er = 0) (hb : (d ++ p).length ≤ 140737488355328) (hby : Byts p) (hf : FeedR w.heap.size W sb vs (partOf s) (restOf d s) s.pl s.ct false s.er p w') : ∃ vs', Pc w W0 w' sb vs' vl (d ++ p) false s l := by
  have hp3 : ¬ (partOf s = 3) := by
    unfold partOf
    rw [if_neg (by simpa using h0)]
    split
    · decide
    · split <;> decide
  unfold FeedR at hf
  rw [if_neg (by simpa using hp3)] at hf
  obtain ⟨v', s1, b1, k1⟩ := hf
  have hple := h.rdg.at_.ple
  have hr : restOf d s ++ p = restOf (d ++ p) s := by rw [rest_0 h0, rest_0 h0, List.drop_append_of_le_length hple]
  rw [hr] at s1
  have hlt := h.rdg.at_.sn.lt
  have hbel : ∀ k, InL vl l k → sb + 1 ≤ k ∧ k < W.heap.size := fun k e => h.rdg.lst.block e
  refine ⟨v', ⟨⟨s1, by rw [List.length_append]; omega, hb, h.rdg.at_.byts.append hby, h.rdg.at_.ftp⟩, h.rdg.lst.kept k1 (fun k e e2 => ?_), h.rdg.fed.feed p, h.rdg.kept.trans k1 (fun i hi e2 => ?_), fun k e e2 => ?_, h.rdg.sbw⟩, h.old.trans k1 (fun i hi e2 => ?_), fun k e => ?_, h.ctp⟩
  · rcases e2 with e2 | e2
    · have := (hbel k e).1
      omega
    · exact h.rdg.ne k e2 e
  · rcases e2 with e2 | e2
    · have := h.rdg.sbw
      omega
    · have := (h.rdg.at_.sn.row.block e2).1
      omega
  · rcases b1 k e with e3 | e3
    · exact h.rdg.ne k e3 e2
    · have := (hbel k e2).2
      omega
  · rcases e2 with e2 | e2
    · exact e2
    · exact absurd (h.new i (.inl e2)) (Nat.not_le.2 hi)
  · rcases e with e | e
    · rcases b1 k e with e3 | e3
      · exact h.new k (.inl e3)
      · exact Nat.le_trans h.old.size e3
    · exact h.new k (.inr e)
/-- The end is said. -/
theorem Pc.over {w' : World} (h : Pc w W0 W sb vs vl d false s l) (hs : Sn w.heap.size w' sb vs (partOf s) (restOf d s) s.pl s.ct true s.er) (hk : Same (fun k => k = sb) W w') : Pc w W0 w' sb vs vl d true s l :=
  ⟨⟨⟨hs, h.rdg.at_.ple, h.rdg.at_.len, h.rdg.at_.byts, h.rdg.at_.ftp⟩, h.rdg.lst.kept hk (fun k e (e2 : k = sb) => by have := (h.rdg.lst.block e).1; omega), h.rdg.fed, h.rdg.kept.trans hk (fun i hi (e : i = sb) => by have := h.rdg.sbw; omega), h.rdg.ne, h.rdg.sbw⟩, h.old.trans' hk, h.new, h.ctp⟩
theorem Pc.on {w' : World} (h : Pc w W0 W sb vs vl d en s l) (hk : Kept W w') : Pc w W0 w' sb vs vl d en s l :=
  ⟨⟨h.rdg.at_.on hk, h.rdg.lst.on hk, h.rdg.fed, h.rdg.kept.trans' hk, h.rdg.ne, h.rdg.sbw⟩, h.old.trans hk (fun _ _ f => f.elim), h.new, h.ctp⟩
/-- A fault was told: what the whole's reading tells. -/
structure Flt (w W0 W : World) (sb : Nat) (d : List Int) (z : Int) : Prop where
  at_ : ∃ vs D en s, At w.heap.size W sb vs D en s ∧ s.er = z ∧ dec7 d = .error (s.pl, z)
  nz : z ≠ 0
  kept : Kept w W
  old : Same (fun k => k = sb) W0 W
end
end Go.Proofs.Ythnhfahkanpjjaa
