/- What is proved: a forest in memory: what a look-up finds, what laying a root leaves, what taking a key out leaves. -/
import Derived.Test.YtaiaahcblohknaaYFp
import Derived.Test.YtaiaahcblohknaaYRel
import Derived.Maps.OwnSet
import Derived.Maps.RangeWalk
import Derived.Sort.KeysCollected
import Derived.DeepKeys4
namespace Go.Proofs.Ytaiaahcblohknaa
open Go.RowKit

/-- How an element reads: as the value that it is. -/
def rawE : Value → Option (DataW Value × List MemPlace) := fun v => some (.held v, [])
theorem Try.keyedS : Go.Maps.Keyed Try.prog 9 := Go.Maps.string_keyed Try.underlying9
theorem Try.zeroI (w : World) : (zeroValue 3).run Try.prog w = .ok (.int .i64 0) w := by kernel_rfl
/-- What a key reads as. -/
abbrev kl (k : ByteArray) : Lit := .string k.data.toList
theorem key_of {k : ByteArray} (h : k.size ≤ maxLen) : keyOf Try.prog 9 (.string k) = some (kl k) := by
  simp [keyOf, Try.underlying9, mapKey, h]
theorem kl_ne {k k' : ByteArray} (h : k.toList ≠ k'.toList) : kl k ≠ kl k' := fun e => h (by
  rw [ByteArray.toList_eq, ByteArray.toList_eq]
  simpa using e)
theorem kl_eq {k k' : ByteArray} (h : k.toList = k'.toList) : kl k = kl k' := by
  rw [ByteArray.toList_eq, ByteArray.toList_eq] at h
  simp [kl, h]
theorem kl_mk (x : List UInt8) : kl ⟨x.toArray⟩ = .string x := rfl
theorem kl_key (k : ByteArray) : WideAt.IsKeyLit (kl k) := trivial
/-- How many entries: just as many as it reads. -/
theorem tight {H : Type} {P : Program} {k : TypeId} {R : Value → Option (DataW H × List MemPlace)} {w : World} {b n : Nat} {D : DataW H} (h : w.ownsMap P k R b n D) : w.ownsMap P k R b (Go.Maps.size D) D := by
  obtain ⟨es, clock, hb, F, _, rfl⟩ := h
  exact ⟨es, clock, hb, F, by simp [Go.Maps.size, length_sorted], rfl⟩
theorem owns_same {H : Type} {P : Program} {k : TypeId} {R : Value → Option (DataW H × List MemPlace)} {w w' : World} {b n : Nat} {D : DataW H} (h : w.ownsMap P k R b n D) (hb : w'.heap[b]? = w.heap[b]?) : w'.ownsMap P k R b n D := by
  obtain ⟨es, clock, e, r⟩ := h
  exact ⟨es, clock, hb.trans e, r⟩
theorem same_turned {w w' : World} {b : Nat} (h : w.mapTurned w' b) : Same (fun k => k = b) w w' := Same.of_grown h.grown fun k e => by cases e; rfl
theorem nodup_le {α : Type} [DecidableEq α] : ∀ {l m : List α}, l.Nodup → (∀ x ∈ l, x ∈ m) → l.length ≤ m.length
  | [], _, _, _ => Nat.zero_le _
  | a :: l, m, hn, hs => by
    obtain ⟨h1, h2⟩ := List.nodup_cons.1 hn
    have ha := hs a (by simp)
    have := nodup_le (l := l) (m := m.erase a) h2 fun x hx => (List.mem_erase_of_ne (fun e => h1 (by rw [← e]; exact hx))).2 (hs x (by simp [hx]))
    rw [List.length_erase_of_mem ha] at this
    have := List.length_pos_of_mem ha
    simp only [List.length_cons]
    omega

theorem strKeys_mem {D : DataW Value} {w : World} {cb n : Nat} (h : w.ownsMap Try.prog 9 rawE cb n D) (x : List UInt8) : x ∈ strKeys D ↔ Go.Maps.has D (.string x) = true := by
  obtain ⟨es, hD, hpw, _⟩ := h.entries Try.keyedS
  obtain ⟨es', hD', hko⟩ := h.keysOf
  obtain rfl : es = es' := by rw [hD] at hD'; simpa using hD'
  subst hD
  have hk : ∀ p ∈ es, ∃ x, p.1 = .string x := fun p hp => by obtain ⟨v, hv⟩ := hko p hp; obtain ⟨x, _, hx, _⟩ := Maps.keyOf_str Try.underlying9 hv; exact ⟨x, hx⟩
  rw [Go.Maps.has_eq, List.any_eq_true]
  show x ∈ es.map (fun p => strOf p.1) ↔ _
  rw [List.mem_map]
  constructor
  · rintro ⟨p, hp', rfl⟩
    obtain ⟨a, ha⟩ := hk p hp'
    exact ⟨p, hp', by rw [ha]; simp [Lit.sameKey, strOf]⟩
  · rintro ⟨p, hp', hs⟩
    obtain ⟨a, ha⟩ := hk p hp'
    rw [ha] at hs
    exact ⟨p, hp', by rw [ha]; simpa [Lit.sameKey, strOf] using hs⟩
theorem strKeys_nodup {D : DataW Value} {w : World} {cb n : Nat} {R : Value → Option (DataW Value × List MemPlace)} (h : w.ownsMap Try.prog 9 R cb n D) : (strKeys D).Nodup ∧ (strKeys D).length = Go.Maps.size D := by
  obtain ⟨es, hD, hpw, _⟩ := h.entries Try.keyedS
  obtain ⟨es', hD', hko⟩ := h.keysOf
  obtain rfl : es = es' := by rw [hD] at hD'; simpa using hD'
  subst hD
  have hk : ∀ p ∈ es, ∃ x, p.1 = .string x := fun p hp => by obtain ⟨v, hv⟩ := hko p hp; obtain ⟨x, _, hx, _⟩ := Maps.keyOf_str Try.underlying9 hv; exact ⟨x, hx⟩
  refine ⟨?_, by simp [strKeys, Go.Maps.size]⟩
  show (es.map fun p => strOf p.1).Nodup
  refine List.pairwise_map.2 (hpw.imp_of_mem fun {p q} hp' hq' hne e => hne ?_)
  obtain ⟨a, ha⟩ := hk p hp'
  obtain ⟨b, hb⟩ := hk q hq'
  rw [ha, hb] at e ⊢
  exact congrArg _ e
/-- A forest in memory; c: what it holds as its count, e: as its earliest end; D: its map of roots. -/
structure Fm (F : Nat → Prop) (w : World) (fb nb cap fr mb : Nat) (c e : Int) (N : List Nd) (D : DataW Value) (R : List UInt8 → PT) : Prop where
  ar : Ar w fb nb cap fr (.map (some mb)) c e N
  own : w.ownsMap Try.prog 9 rawE mb (Go.Maps.size D) D
  look : ∀ k : ByteArray, (R k.toList = .nil ∧ Go.Maps.has D (kl k) = false) ∨ (R k.toList ≠ .nil ∧ ∀ zd, D.atKey (kl k) zd = .held (.int .i64 ((R k.toList).root : Nat)))
  ff : F fb
  fn : F nb
  fm : F mb
  lt : ∀ b, F b → b < w.heap.size
theorem Fm.mne {F : Nat → Prop} {w : World} {fb nb cap fr mb : Nat} {c e : Int} {N : List Nd} {D : DataW Value} {R : List UInt8 → PT} (h : Fm F w fb nb cap fr mb c e N D R) : fb ≠ mb ∧ nb ≠ mb := by
  obtain ⟨es, clock, hm, _⟩ := h.own
  refine ⟨fun x => ?_, fun x => ?_⟩
  · have := h.ar.obj
    rw [x, hm] at this
    cases this
  · obtain ⟨cur, hg, -⟩ := h.ar.nodes
    rw [x, hm] at hg
    cases hg
theorem Fm.off {F : Nat → Prop} {w w' : World} {fb nb cap fr mb : Nat} {c e : Int} {N : List Nd} {D : DataW Value} {R : List UInt8 → PT} (h : Fm F w fb nb cap fr mb c e N D R) {S : Nat → Prop} (hs : Same S w w') (hd : ∀ b, F b → ¬ S b) : Fm F w' fb nb cap fr mb c e N D R :=
  ⟨h.ar.kept hs (hd _ h.ff) (hd _ h.fn), owns_same h.own (hs.block _ h.own.lt (hd _ h.fm)), h.look, h.ff, h.fn, h.fm, fun b hb => Nat.lt_of_lt_of_le (h.lt b hb) hs.size⟩
theorem Fm.on {F : Nat → Prop} {w w' : World} {fb nb cap fr mb : Nat} {c e : Int} {N : List Nd} {D : DataW Value} {R : List UInt8 → PT} (h : Fm F w fb nb cap fr mb c e N D R) (k : Kept w w') : Fm F w' fb nb cap fr mb c e N D R := h.off k fun _ _ x => x
/-- What a look-up finds. -/
theorem Fm.find {F : Nat → Prop} {w : World} {fb nb cap fr mb : Nat} {c e : Int} {N : List Nd} {D : DataW Value} {R : List UInt8 → PT} (h : Fm F w fb nb cap fr mb c e N D R) {k : ByteArray} (hk : k.size ≤ maxLen) : (Instr.lookup 53 (.map (some mb)) (.string k) false).run Try.prog w = .ok (.int .i64 ((R k.toList).root : Nat)) w := by
  obtain ⟨v, ps, hrun, hv⟩ := h.own.lookup Try.keyedS Try.underlying53 (Try.zeroI w) (zd := .held (.int .i64 0)) (zp := []) rfl (key_of hk)
  simp only [rawE, Option.some.injEq, Prod.mk.injEq] at hv
  rcases h.look k with ⟨h1, h2⟩ | ⟨h1, h2⟩
  · have e := hv.1.trans (Go.Maps.atKey_of_not_has h2 _)
    simp only [DataW.held.injEq] at e
    subst e
    rw [h1]
    exact hrun
  · have e := hv.1.trans (h2 _)
    simp only [DataW.held.injEq] at e
    subst e
    exact hrun
/-- The list of nodes and the numbers turn, the map stays. -/
theorem Fm.turn {F : Nat → Prop} {w w' : World} {fb nb cap fr mb : Nat} {c e : Int} {N : List Nd} {D : DataW Value} {R : List UInt8 → PT} (h : Fm F w fb nb cap fr mb c e N D R) {nb' cap' fr' : Nat} {c' e' : Int} {N' : List Nd} (ha : Ar w' fb nb' cap' fr' (.map (some mb)) c' e' N') (hs : Same (fun k => k = nb ∨ k = fb) w w') (hn : nb' = nb ∨ w.heap.size ≤ nb') : Fm (fun b => F b ∨ b = nb') w' fb nb' cap' fr' mb c' e' N' D R :=
  ⟨ha, owns_same h.own (hs.block _ h.own.lt fun x => by rcases x with x | x; exact h.mne.2 x.symm; exact h.mne.1 x.symm), h.look, .inl h.ff, .inr rfl, .inl h.fm, fun b hb => by
    rcases hb with hb | rfl
    · exact Nat.lt_of_lt_of_le (h.lt b hb) hs.size
    · exact ha.cells.2.2⟩
/-- The same where the block stays. -/
theorem Fm.turn0 {F : Nat → Prop} {w w' : World} {fb nb cap fr mb : Nat} {c e : Int} {N : List Nd} {D : DataW Value} {R : List UInt8 → PT} (h : Fm F w fb nb cap fr mb c e N D R) {cap' fr' : Nat} {c' e' : Int} {N' : List Nd} (ha : Ar w' fb nb cap' fr' (.map (some mb)) c' e' N') (hs : Same (fun k => k = nb ∨ k = fb) w w') : Fm F w' fb nb cap' fr' mb c' e' N' D R :=
  ⟨ha, owns_same h.own (hs.block _ h.own.lt fun x => by rcases x with x | x; exact h.mne.2 x.symm; exact h.mne.1 x.symm), h.look, h.ff, h.fn, h.fm, fun b hb => Nat.lt_of_lt_of_le (h.lt b hb) hs.size⟩
/-- A root is laid. -/
theorem Fm.lays {F : Nat → Prop} {w : World} {fb nb cap fr mb : Nat} {c e : Int} {N : List Nd} {D : DataW Value} {R : List UInt8 → PT} (h : Fm F w fb nb cap fr mb c e N D R) {k : ByteArray} (hk : k.size ≤ maxLen) (hsz : Go.Maps.size D < maxLen) (T : PT) (hT : T ≠ .nil) :
    ∃ w', (Instr.mapUpdate 53 (.map (some mb)) (.string k) (.int .i64 (T.root : Nat))).run Try.prog w = .ok () w' ∧ Fm F w' fb nb cap fr mb c e N (D.put (kl k) (.held (.int .i64 (T.root : Nat)))) (upd R k.toList T) ∧ Same (fun b => b = mb) w w' := by
  obtain ⟨w', hrun, r1, r2⟩ := h.own.store Try.keyedS Try.underlying53 hsz (key_of hk) (d := .held (.int .i64 (T.root : Nat))) (ps := []) rfl
  have hs := same_turned r2
  refine ⟨w', hrun, ⟨h.ar.kept hs h.mne.1 h.mne.2, tight r1, fun k' => ?_, h.ff, h.fn, h.fm, fun b hb => Nat.lt_of_lt_of_le (h.lt b hb) hs.size⟩, hs⟩
  by_cases x : k'.toList = k.toList
  · rw [x, upd_same, kl_eq x]
    exact .inr ⟨hT, fun zd => Go.Maps.atKey_put_same h.own.isMap (kl_key k) _ _⟩
  · rw [upd_other R x]
    rcases h.look k' with ⟨h1, h2⟩ | ⟨h1, h2⟩
    · exact .inl ⟨h1, by rw [Go.Maps.has_put_other (kl_ne x)]; exact h2⟩
    · exact .inr ⟨h1, fun zd => by rw [Go.Maps.atKey_put_other (kl_ne x)]; exact h2 zd⟩
/-- How many keys there are. -/
theorem Fm.keys_le {F : Nat → Prop} {w : World} {fb nb cap fr mb : Nat} {c e : Int} {N : List Nd} {D : DataW Value} {R : List UInt8 → PT} (h : Fm F w fb nb cap fr mb c e N D R) {A : List Ks} (hl : ∀ k : ByteArray, (R k.toList).tr.list = kf A k) : Go.Maps.size D ≤ A.length := by
  obtain ⟨n1, n2⟩ := strKeys_nodup h.own
  rw [← n2]
  refine Nat.le_trans (nodup_le n1 (m := A.map (·.key.toList)) fun x hx => ?_) (by simp)
  have := (strKeys_mem h.own x).1 hx
  rcases h.look ⟨x.toArray⟩ with ⟨_, h2⟩ | ⟨h1, _⟩
  · rw [kl_mk, this] at h2; cases h2
  · have hne : kf A ⟨x.toArray⟩ ≠ [] := by
      rw [← hl]
      cases hq : R (ByteArray.toList ⟨x.toArray⟩) with
      | nil => exact absurd hq h1
      | node p l s r => simp [PT.tr, Tr.list]
    obtain ⟨s, hs⟩ := List.exists_mem_of_ne_nil _ hne
    unfold kf at hs
    obtain ⟨y, hy, _⟩ := List.mem_map.1 hs
    obtain ⟨hy1, hy2⟩ := List.mem_filter.1 hy
    exact List.mem_map.2 ⟨y, hy1, (beq_iff_eq.1 hy2).trans (ByteArray.toList_mk x)⟩
/-- A forest, with all that it holds; bd: how often spans were put in at most. -/
def Fo (F : Nat → Prop) (w : World) (fb : Nat) (A : List Ks) (bd : Nat) : Prop :=
  ∃ nb cap fr mb e N D R FL, Fm F w fb nb cap fr mb A.length e N D R ∧ Fp N fr R FL A ∧ (∀ y ∈ A, e ≤ y.s.t) ∧ (∀ y ∈ A, rightS y.s = true) ∧ N.length ≤ bd + 1 ∧ A.length ≤ bd
theorem Fo.off {F : Nat → Prop} {w w' : World} {fb : Nat} {A : List Ks} {bd : Nat} (h : Fo F w fb A bd) {S : Nat → Prop} (hs : Same S w w') (hd : ∀ b, F b → ¬ S b) : Fo F w' fb A bd := by
  obtain ⟨nb, cap, fr, mb, e, N, D, R, FL, h1, h2⟩ := h
  exact ⟨nb, cap, fr, mb, e, N, D, R, FL, h1.off hs hd, h2⟩
theorem Fo.on {F : Nat → Prop} {w w' : World} {fb : Nat} {A : List Ks} {bd : Nat} (h : Fo F w fb A bd) (k : Kept w w') : Fo F w' fb A bd := h.off k fun _ _ x => x
theorem Fo.lt {F : Nat → Prop} {w : World} {fb : Nat} {A : List Ks} {bd : Nat} (h : Fo F w fb A bd) : ∀ b, F b → b < w.heap.size := by
  obtain ⟨nb, cap, fr, mb, e, N, D, R, FL, h1, h2⟩ := h
  exact h1.lt
/-- What a step on a forest leaves. -/
def StpP (F : Nat → Prop) (w : World) (fb : Nat) (A' : List Ks) (bd : Nat) (w' : World) : Prop := ∃ F', Fo F' w' fb A' bd ∧ (∀ b, F' b → F b ∨ w.heap.size ≤ b) ∧ Same F w w'
theorem StpP.stays {F : Nat → Prop} {w w' : World} {fb : Nat} {A : List Ks} {bd : Nat} (h : Fo F w fb A bd) (k : Kept w w') : StpP F w fb A bd w' := ⟨F, h.on k, fun _ hb => .inl hb, k.to F⟩
theorem Fo.up {F : Nat → Prop} {w : World} {fb : Nat} {A : List Ks} {bd bd' : Nat} (h : Fo F w fb A bd) (hb : bd ≤ bd') : Fo F w fb A bd' := by
  obtain ⟨nb, cap, fr, mb, e, N, D, R, FL, h1, h2, h3, h4, h5, h6⟩ := h
  exact ⟨nb, cap, fr, mb, e, N, D, R, FL, h1, h2, h3, h4, by omega, by omega⟩
theorem StpP.up {F : Nat → Prop} {w w' : World} {fb : Nat} {A : List Ks} {bd bd' : Nat} (h : StpP F w fb A bd w') (hb : bd ≤ bd') : StpP F w fb A bd' w' := by
  obtain ⟨F', h1, h2, h3⟩ := h
  exact ⟨F', h1.up hb, h2, h3⟩
end Go.Proofs.Ytaiaahcblohknaa
