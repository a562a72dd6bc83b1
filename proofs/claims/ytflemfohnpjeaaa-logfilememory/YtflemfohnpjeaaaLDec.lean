/- What is proved: Decode of a list of bytes that lies in memory; the bounds that a machine's memory sets. -/
import Derived.Test.YtflemfohnpjeaaaLNext
import Derived.Test.YtflemfohnpjeaaaLPiece
import Derived.Test.YtflemfohnpjeaaaLLst
namespace Go.Proofs.Ytflemfohnpjeaaa
open Go.RowKit

def valLen : Value → Nat
  | .slice _ n _ => n
  | _ => 0
theorem next_some {d : List Int} {en : Bool} {s s' : Sc} {t : TxM} (hb : Byts d) (h : next7 d en s = (some t, s')) : s'.er = 0 := by
  have hg : ∀ s : Sc, s.er = 0 → goOn d en s = (some t, s') → s'.er = 0 := fun s h0 h => by
    by_cases hf : s.ft = true
    · rw [go_foot hf] at h
      split at h <;> cases h
    · rw [go_entry (by simpa using hf)] at h
      obtain ⟨-, -, -, e⟩ := entry_one hb h
      rw [e]
      exact h0
  unfold next7 at h
  by_cases h0 : s.er ≠ 0
  · rw [if_pos h0] at h
    cases h
  rw [if_neg h0] at h
  have h0 : s.er = 0 := by simpa using h0
  split at h
  · split at h
    · cases h
    · exact hg { s with pl := 4 } h0 h
  · exact hg s h0 h
/-- What stands at the head of a loop that reads. -/
structure Rdg (base : Nat) (w W : World) (sb : Nat) (vs vl : Value) (d : List Int) (en : Bool) (s : Sc) (l : List TxR) : Prop where
  at_ : At base W sb vs d en s
  lst : Lst (sb + 1) W vl l
  fed : Fed d (l.map TxR.t) s
  kept : Kept w W
  ne : ∀ k, vs.ownBlock = some k → ¬ InL vl l k
  sbw : w.heap.size ≤ sb
section
variable {base : Nat} {w W : World} {sb : Nat} {vs vl : Value} {d : List Int} {en : Bool} {s : Sc} {l : List TxR}
theorem Rdg.le (h : Rdg base w W sb vs vl d en s l) : l.length ≤ 4096 := by
  have h1 := h.fed.1
  have h2 := h.fed.2.1
  rw [List.length_map] at h1
  omega
theorem Rdg.val (h : Rdg base w W sb vs vl d en s l) : ∃ a c, vl = .slice a l.length c := by
  obtain ⟨a, c, e, -⟩ := OwnT.txs h.lst.row
  exact ⟨a, c, e⟩
/-- The scanner read on, the list stays. -/
theorem Rdg.left {W1 : World} {s' : Sc} (h : Rdg base w W sb vs vl d en s l) (hl : Left base W sb vs d en s' W1) : ∃ vs', At base W1 sb vs' d en s' ∧ Lst (sb + 1) W1 vl l ∧ Kept w W1 ∧ (∀ k, vs'.ownBlock = some k → vs.ownBlock = some k) := by
  obtain ⟨⟨vs', a1, b1⟩, k1⟩ := hl
  refine ⟨vs', a1, h.lst.kept k1 (fun k hk (e : k = sb) => ?_), h.kept.trans k1 (fun i hi (e : i = sb) => ?_), b1⟩
  · have := (h.lst.block hk).1
    omega
  · have := h.sbw
    omega
/-- Nothing was read: what was waited for. -/
theorem Rdg.wait {W1 : World} {s' : Sc} (h : Rdg base w W sb vs vl d en s l) (hl : Left base W sb vs d en s' W1) (hf : Fed d (l.map TxR.t) s') : ∃ vs', Rdg base w W1 sb vs' vl d en s' l := by
  obtain ⟨vs', a1, l1, k1, b1⟩ := h.left hl
  exact ⟨vs', a1, l1, hf, k1, fun k e => h.ne k (b1 k e), h.sbw⟩
/-- A transaction was read: the world with its box. -/
theorem Rdg.read {W1 : World} {s' : Sc} {t : TxM} {a : Option Addr} {c : Nat} (h : Rdg base w W sb vs vl d en s l) (hl : Left base W sb vs d en s' W1) (hn : next7 d en s = (some t, s')) (ho : OwnO W.heap.size W1 (.slice a t.ops.length c) t.ops) (ty : TypeId) :
    ∃ v' w', (Builtin.append_ #[22, 22] ty #[vl, .slice (some ⟨W1.heap.size + 1, 0, none⟩) 1 1]).run Try.prog ((W1.alloc (⟨t, a, c⟩ : TxR).obj).alloc (⟨t, a, c⟩ : TxR).obj) = .ok v' w' ∧ (∃ vs' a' c', Rdg base w w' sb vs' v' d en s' (l ++ [⟨t, a, c⟩]) ∧ v' = .slice a' (l.length + 1) c') := by
  obtain ⟨vs', a1, l1, k1, b1⟩ := h.left hl
  have hle := h.le
  have hsb := a1.sn.lt
  obtain ⟨v', w', hr, r1, r2, r3⟩ := app_tx_one (⟨t, a, c⟩ : TxR) (OwnT.on l1.row ((Same.refl _ W1).alloc (⟨t, a, c⟩ : TxR).obj)) (by omega) (by rw [World.size_alloc]; omega) ty
  rw [World.size_alloc] at hr
  refine ⟨v', w', hr, ?_⟩
  have hk2 : Kept W1 (W1.alloc (⟨t, a, c⟩ : TxR).obj) := (Same.refl _ W1).alloc _
  have hnb : Byts d := a1.byts
  have hn2 : next7 d false s = (some t, s') := by
    cases en with
    | false => exact hn
    | true => exact next_en hnb h.at_.ple hn
  have hf2 : Fed d ((l ++ [(⟨t, a, c⟩ : TxR)]).map TxR.t) s' := by
    rw [List.map_append]
    exact h.fed.some hnb hn2
  have hoW : OwnO W.heap.size (W1.alloc (⟨t, a, c⟩ : TxR).obj) (TxR.sl ⟨t, a, c⟩) t.ops := OwnO.on ho hk2
  have hWl : Lst (sb + 1) W vl l := h.lst
  obtain ⟨⟨_, a2, b2⟩, kk⟩ := hl
  have hkW : Same (fun k => k = sb) W (W1.alloc (⟨t, a, c⟩ : TxR).obj) := kk.alloc _
  have hs1 : W.heap.size ≤ W1.heap.size := kk.size
  -- the list behind the append
  have hne : ∀ x ∈ l ++ [(⟨t, a, c⟩ : TxR)], ∀ k, x.sl.ownBlock = some k → vl.ownBlock ≠ some k ∧ k < W1.heap.size + 1 ∧ (k < W.heap.size → InL vl l k) := fun x hx k hk => by
    rcases List.mem_append.1 hx with hx | hx
    · have := ((l1.ops x hx).block hk).2
      exact ⟨l1.ne x hx k hk, by omega, fun _ => .inr ⟨x, hx, hk⟩⟩
    · obtain rfl : x = ⟨t, a, c⟩ := by simpa using hx
      have := ho.block hk
      refine ⟨fun e => ?_, by omega, fun c => absurd c (Nat.not_lt.2 this.1)⟩
      have := (hWl.row.block e).2
      omega
  have hlst : Lst (sb + 1) w' v' (l ++ [⟨t, a, c⟩]) := by
    refine ⟨r1, fun x hx => ?_, fun x hx k hk e => ?_, List.pairwise_append.2 ⟨hWl.ap, List.pairwise_singleton _ _, fun x hx y hy k hk e => ?_⟩⟩
    · rcases List.mem_append.1 hx with hx' | hx'
      · exact ((l1.ops x hx').on hk2).kept r2 fun k hk => (hne x hx k hk).1
      · obtain rfl : x = ⟨t, a, c⟩ := by simpa using hx'
        exact (OwnO.kept hoW r2 fun k hk => (hne _ hx k hk).1).lower (by have := h.at_.sn.lt; omega)
    · obtain ⟨n1, n2, -⟩ := hne x hx k hk
      rcases r3 k e with e | e
      · exact n1 e
      · rw [World.size_alloc] at e
        omega
    · obtain rfl : y = ⟨t, a, c⟩ := by simpa using hy
      have := ((hWl.ops x hx).block hk).2
      have := (ho.block e).1
      omega
  have hin : ∀ k, InL v' (l ++ [⟨t, a, c⟩]) k → InL vl l k ∨ W.heap.size ≤ k := fun k hk => by
    rcases hk with hk | ⟨x, hx, hk⟩
    · rcases r3 k hk with e | e
      · exact .inl (.inl e)
      · rw [World.size_alloc] at e
        exact .inr (by omega)
    · by_cases c : k < W.heap.size
      · exact .inl ((hne x hx k hk).2.2 c)
      · exact .inr (Nat.not_lt.1 c)
  have hvb : ∀ k, vl.ownBlock = some k → sb < k := fun k e => (l1.row.block e).1
  have hat : At base w' sb vs' d en s' := (a1.on hk2).kept r2 (fun e => Nat.lt_irrefl _ (hvb sb e)) (fun k e1 e2 => h.ne k (b1 k e1) (.inl e2))
  obtain ⟨a', c', e', -⟩ := OwnT.txs r1
  refine ⟨vs', a', c', ⟨hat, hlst, hf2, (k1.trans' hk2).trans r2 (fun i hi e => ?_), fun k e1 e2 => ?_, h.sbw⟩, by rw [e', List.length_append]; rfl⟩
  · have := hvb i e
    have := h.sbw
    omega
  · rcases hin k e2 with e2 | e2
    · exact h.ne k (b1 k e1) e2
    · have := h.at_.below (b1 k e1)
      omega
end
end Go.Proofs.Ytflemfohnpjeaaa
