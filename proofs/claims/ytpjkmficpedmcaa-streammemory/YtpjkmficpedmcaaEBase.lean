/- What is proved: small laws on rows of extents in memory: what append, copy and clear make of a row whose block is known whole; no condition. -/
import Derived.Test.YtpjkmficpedmcaaDBase
import Derived.Lib.AppendZerosOnto
import Derived.Lib.Overlaps
import Derived.Lib.SliceRun
import Derived.Laws.Externs
import Derived.Laws.CopyRow
namespace Go.Proofs.Ytpjkmficpedmcaa
open Go.RowKit

theorem Try.infoExt : (Try.prog.info? 65).map (fun i => (i.zero, i.size, i.bytes)) = some (some (.agg #[.int .i64 0, .int .i64 0]), 2, 16) := by kernel_rfl

/-- An extent. -/
structure Ex where
  f : Int
  c : Int
def ecs (l : List Ex) : List Value := l.flatMap fun e => [.int .i64 e.f, .int .i64 e.c]
theorem ecs_nil : ecs [] = [] := rfl
theorem ecs_cons (a : Ex) (r : List Ex) : ecs (a :: r) = [.int .i64 a.f, .int .i64 a.c] ++ ecs r := rfl
theorem length_ecs (l : List Ex) : (ecs l).length = l.length * 2 := by
  induction l with
  | nil => rfl
  | cons a r ih => rw [ecs_cons, List.length_append, ih]; simp; omega
theorem ecs_append (a b : List Ex) : ecs (a ++ b) = ecs a ++ ecs b := by simp [ecs]
theorem ecs_one (l : List Ex) : ∀ v ∈ ecs l, v.oneCell' = true := by
  intro v hv
  obtain ⟨f, _, hf⟩ := List.mem_flatMap.1 hv
  simp only [List.mem_cons, List.not_mem_nil, or_false] at hf
  rcases hf with rfl | rfl <;> rfl
theorem ecs_take (l : List Ex) (i : Nat) : ecs (l.take i) = (ecs l).take (i * 2) := by
  induction l generalizing i with
  | nil => simp [ecs]
  | cons a r ih =>
    cases i with
    | zero => simp [ecs]
    | succ i => rw [List.take_succ_cons, ecs_cons, ecs_cons, ih, show (i + 1) * 2 = i * 2 + 1 + 1 by omega]; rfl
theorem ecs_drop (l : List Ex) (i : Nat) : ecs (l.drop i) = (ecs l).drop (i * 2) := by
  induction l generalizing i with
  | nil => simp [ecs]
  | cons a r ih =>
    cases i with
    | zero => simp [ecs]
    | succ i => rw [List.drop_succ_cons, ecs_cons, ih, show (i + 1) * 2 = i * 2 + 1 + 1 by omega]; rfl
theorem ecs_get {l : List Ex} {i : Nat} {e : Ex} (h : l[i]? = some e) : (ecs l)[i * 2]? = some (.int .i64 e.f) ∧ (ecs l)[i * 2 + 1]? = some (.int .i64 e.c) := by
  induction l generalizing i with
  | nil => simp at h
  | cons a r ih =>
    cases i with
    | zero =>
      simp only [List.getElem?_cons_zero, Option.some.injEq] at h
      subst h
      exact ⟨rfl, rfl⟩
    | succ i =>
      simp only [List.getElem?_cons_succ] at h
      rw [ecs_cons, show (i + 1) * 2 = i * 2 + 1 + 1 by omega, show i * 2 + 1 + 1 + 1 = (i * 2 + 1) + 1 + 1 by omega]
      exact ih h
theorem ecs_rep (n : Nat) : Builtin.zeroCells (Value.cells (.agg #[.int .i64 0, .int .i64 0])) n = (ecs (List.replicate n ⟨0, 0⟩)).toArray := by
  have hz : Value.cells (.agg #[.int .i64 0, .int .i64 0]) = #[.int .i64 0, .int .i64 0] := rfl
  rw [hz]
  apply Array.ext'
  apply List.ext_getElem?
  intro k
  simp only [Builtin.zeroCells]
  by_cases hk : k < n * 2
  · have hm : (List.replicate n (⟨0, 0⟩ : Ex))[k / 2]? = some ⟨0, 0⟩ := by rw [List.getElem?_replicate, if_pos (by omega)]
    obtain ⟨g0, g1⟩ := ecs_get hm
    have h2 : k % 2 = 0 ∨ k % 2 = 1 := by omega
    rcases h2 with h2 | h2
    · rw [show k / 2 * 2 = k by omega] at g0
      simp [hk, h2, g0]
    · rw [show k / 2 * 2 + 1 = k by omega] at g1
      simp [hk, h2, g1]
  · rw [List.getElem?_eq_none (by simp; omega), List.getElem?_eq_none (by simp [length_ecs]; omega)]

theorem esplice_get {α : Type} (L cs : List α) (off i : Nat) (hf : off + cs.length ≤ L.length) : (splice L off cs)[i]? = if off ≤ i ∧ i < off + cs.length then cs[i - off]? else L[i]? := by
  unfold splice
  by_cases h1 : i < off
  · rw [List.getElem?_append_left (by simp; omega), List.getElem?_take_of_lt h1, if_neg (by omega)]
  · rw [List.getElem?_append_right (by simp; omega), List.length_take, Nat.min_eq_left (by omega)]
    by_cases h2 : i < off + cs.length
    · rw [List.getElem?_append_left (by omega), if_pos (by omega)]
    · rw [List.getElem?_append_right (by omega), List.getElem?_drop, if_neg (by omega)]
      congr 1
      omega

/-- Block g is the row A of cells. -/
def Blk (w : World) (g : Nat) (A : List Value) : Prop := w.heap[g]? = some (.cells A.toArray 65 (0, 0))
theorem Blk.cell {w : World} {g : Nat} {A : List Value} (h : Blk w g A) (o : Nat) : w.cell? ⟨g, o, none⟩ = A[o]? := by
  rw [cell_of h]; simp
theorem Blk.lt {w : World} {g : Nat} {A : List Value} (h : Blk w g A) : g < w.heap.size := lt_of_heap h
theorem Blk.kept {S : Nat → Prop} {w w' : World} {g : Nat} {A : List Value} (h : Blk w g A) (k : Same S w w') (hn : ¬ S g) : Blk w' g A := (k.block _ h.lt hn).trans h

/-- The extents l lie in w from address a on. -/
def ExtsAt (w : World) (a : Option Addr) (l : List Ex) : Prop :=
  ∀ i e, l[i]? = some e → ∃ b off, a = some ⟨b, off, none⟩ ∧ b < w.heap.size ∧ w.cell? ⟨b, off + i * 2, none⟩ = some (.int .i64 e.f) ∧ w.cell? ⟨b, off + i * 2 + 1, none⟩ = some (.int .i64 e.c)
theorem ExtsAt.nil (w : World) (a : Option Addr) : ExtsAt w a [] := fun i x h => by simp at h
theorem ExtsAt.kept {S : Nat → Prop} {w w' : World} {a : Option Addr} {l : List Ex} (h : ExtsAt w a l) (hs : Same S w w') (hd : ∀ k, InB a l.length k → ¬ S k) : ExtsAt w' a l := fun i x hx => by
  obtain ⟨b, off, rfl, hb, c0, c1⟩ := h i x hx
  have hk := hd b ⟨pos_of_get hx, off, rfl⟩
  exact ⟨b, off, rfl, Nat.lt_of_lt_of_le hb hs.size, (hs.cell (p := ⟨b, _, none⟩) hb hk).trans c0, (hs.cell (p := ⟨b, _, none⟩) hb hk).trans c1⟩
theorem ExtsAt.lt {w : World} {a : Option Addr} {l : List Ex} (h : ExtsAt w a l) {k : Nat} (hk : InB a l.length k) : k < w.heap.size := by
  obtain ⟨h0, off, rfl⟩ := hk
  obtain ⟨b, off', e, hb, _⟩ := h 0 l[0] (List.getElem?_eq_getElem h0)
  cases e
  exact hb
/-- The cells of extents in memory, one by one. -/
theorem ExtsAt.cells {w : World} {b off : Nat} {l : List Ex} (h : ExtsAt w (some ⟨b, off, none⟩) l) {j : Nat} {u : Value} (hu : (ecs l)[j]? = some u) : w.cell? ⟨b, off + j, none⟩ = some u := by
  have hj := (List.getElem?_eq_some_iff.1 hu).1
  rw [length_ecs] at hj
  obtain ⟨e, he⟩ : ∃ e, l[j / 2]? = some e := ⟨_, List.getElem?_eq_getElem (by omega)⟩
  obtain ⟨b', off', q, _, c0, c1⟩ := h _ _ he
  obtain ⟨g0, g1⟩ := ecs_get he
  cases q
  have hm : j % 2 = 0 ∨ j % 2 = 1 := by omega
  rcases hm with hm | hm
  · have ej : j = j / 2 * 2 := by omega
    rw [ej] at hu ⊢
    exact c0.trans (g0.symm.trans hu)
  · have ej : j = j / 2 * 2 + 1 := by omega
    rw [ej] at hu ⊢
    exact c1.trans (g1.symm.trans hu)
theorem ExtsAt.of {w : World} {b off : Nat} {l : List Ex} (hb : b < w.heap.size) (h : ∀ j u, (ecs l)[j]? = some u → w.cell? ⟨b, off + j, none⟩ = some u) : ExtsAt w (some ⟨b, off, none⟩) l := fun i e he => by
  obtain ⟨g0, g1⟩ := ecs_get he
  exact ⟨b, off, rfl, hb, h _ _ g0, by rw [Nat.add_assoc]; exact h _ _ g1⟩

/-- The first of the c places of block g hold the extents L. -/
def Row (w : World) (g c : Nat) (L : List Ex) : Prop := ∃ A, Blk w g A ∧ A.length = c * 2 ∧ L.length ≤ c ∧ ∀ k, k < L.length * 2 → A[k]? = (ecs L)[k]?
theorem Row.lt {w : World} {g c : Nat} {L : List Ex} (h : Row w g c L) : g < w.heap.size := by
  obtain ⟨A, h, _⟩ := h
  exact h.lt
theorem Row.le {w : World} {g c : Nat} {L : List Ex} (h : Row w g c L) : L.length ≤ c := by
  obtain ⟨A, _, _, h, _⟩ := h
  exact h
theorem Row.kept {S : Nat → Prop} {w w' : World} {g c : Nat} {L : List Ex} (h : Row w g c L) (k : Same S w w') (hn : ¬ S g) : Row w' g c L := by
  obtain ⟨A, h1, h2⟩ := h
  exact ⟨A, h1.kept k hn, h2⟩
theorem Row.exts {w : World} {g c : Nat} {L : List Ex} (h : Row w g c L) : ExtsAt w (some ⟨g, 0, none⟩) L := by
  obtain ⟨A, h1, h2, h3, h4⟩ := h
  refine ExtsAt.of h1.lt fun j u hu => ?_
  have hj := (List.getElem?_eq_some_iff.1 hu).1
  rw [length_ecs] at hj
  rw [Nat.zero_add, h1.cell, h4 j hj, hu]
theorem Row.frozen {w : World} {g c : Nat} {L : List Ex} (h : Row w g c L) (o : Nat) : w.frozen? ⟨g, o, none⟩ = false := by
  obtain ⟨A, h, _⟩ := h
  exact frozen_of h o
theorem Row.cut {w : World} {g c : Nat} {L : List Ex} (h : Row w g c L) (i : Nat) : ExtsAt w (some ⟨g, i * 2, none⟩) (L.drop i) := by
  have h0 := h.exts
  refine ExtsAt.of h.lt fun j u hu => ?_
  rw [ecs_drop, List.getElem?_drop] at hu
  have := h0.cells hu
  rwa [Nat.zero_add] at this

theorem same_setRow (w : World) (g : Nat) (cs : Array Value) : Same (fun k => k = g) w (w.setRow g cs) := ⟨rfl, rfl, rfl, by simp [World.setRow], fun k _ hk => setRow_other w g k _ hk⟩

/-- append(s[:i], v...), there is room. -/
theorem app_room {w : World} {g c i : Nat} {A : List Value} {vb vo vc : Nat} {V : List Ex} (hA : Blk w g A) (hl : A.length = c * 2) (hv : ExtsAt w (some ⟨vb, vo, none⟩) V) (hr : i + V.length ≤ c) (ty : TypeId) :
    ∃ w', (Builtin.append_ #[61, 61] ty #[.slice (some ⟨g, 0, none⟩) i c, .slice (some ⟨vb, vo, none⟩) V.length vc]).run Try.prog w = .ok (.slice (some ⟨g, 0, none⟩) (i + V.length) c) w' ∧ Blk w' g (splice A (i * 2) (ecs V)) ∧ Same (fun k => k = g) w w' := by
  obtain ⟨i0, hi0, hz0, hz1, hz2⟩ := info_parts Try.infoExt
  have h := run_append_room (P := Try.prog) w 61 ty 65 i0 Try.underlying61 hi0 g i c A.toArray hA ⟨vb, vo, none⟩ V.length vc (ecs V) (by rw [length_ecs, hz1])
    (fun j u hu => by rw [Addr.add_lit]; exact hv.cells hu) (ecs_one V) hr (by rw [length_ecs, hz1]; simp; omega)
  refine ⟨_, h, ?_, same_setRow _ _ _⟩
  unfold Blk
  rw [setRow_heap w g _ _ 65 _ hA, hz1]
  simp [splice, length_ecs]
/-- append(s[:i], v...), there is no room. -/
theorem app_grow {w : World} {bb bo c i : Nat} {I : List Ex} {vb vo vc : Nat} {V : List Ex} (hI : I.length = i) (hs : ExtsAt w (some ⟨bb, bo, none⟩) I) (hv : ExtsAt w (some ⟨vb, vo, none⟩) V) (hr : c < i + V.length) (hs' : i + V.length ≤ 1000000) (ty : TypeId) :
    ∃ w' c', (Builtin.append_ #[61, 61] ty #[.slice (some ⟨bb, bo, none⟩) i c, .slice (some ⟨vb, vo, none⟩) V.length vc]).run Try.prog w = .ok (.slice (some ⟨w.heap.size, 0, none⟩) (i + V.length) c') w' ∧ Row w' w.heap.size c' (I ++ V) ∧ Kept w w' := by
  obtain ⟨i0, hi0, hz0, hz1, hz2⟩ := info_parts Try.infoExt
  have h := run_append_grow (P := Try.prog) w 61 ty 65 i0 _ Try.underlying61 hi0 hz0 ⟨bb, bo, none⟩ i c (ecs I) (by rw [length_ecs, hz1, hI]) (fun j u hu => by rw [Addr.add_lit]; exact hs.cells hu)
    ⟨vb, vo, none⟩ V.length vc (ecs V) (by rw [length_ecs, hz1]) (fun j u hu => by rw [Addr.add_lit]; exact hv.cells hu) hr (by omega) (by rw [hz2]; exact growslice_fits hr (by omega))
  have hge := grownCap_ge w (i + V.length) c 65
  refine ⟨_, _, h, ⟨ecs I ++ ecs V ++ ecs (List.replicate (grownCap w (i + V.length) c 65 - (i + V.length)) ⟨0, 0⟩), ?_, ?_, ?_, ?_⟩, ((Same.refl _ w).drew).alloc _⟩
  · unfold Blk
    refine (heap_alloc_new w.drew _).trans ?_
    rw [ecs_rep]
    simp
  · simp only [List.length_append, length_ecs, List.length_replicate]; omega
  · simp only [List.length_append]; omega
  · intro k hk
    simp only [List.length_append] at hk
    rw [ecs_append, List.getElem?_append_left (by simp only [List.length_append, length_ecs]; omega)]
/-- append(s[:i], make([]Extent, z)...), there is no room. -/
theorem app_zeros {w : World} {bb bo c i z : Nat} {I : List Ex} (hI : I.length = i) (hs : ExtsAt w (some ⟨bb, bo, none⟩) I) (hz : 0 < z) (hr : c < i + z) (hs' : i + z ≤ 1000000) (ty : TypeId) :
    ∃ w' c', (Builtin.append_ #[61, 3] ty #[.slice (some ⟨bb, bo, none⟩) i c, .int .i64 (z : Int)]).run Try.prog w = .ok (.slice (some ⟨w.heap.size, 0, none⟩) (i + z) c') w' ∧ Row w' w.heap.size c' (I ++ List.replicate z ⟨0, 0⟩) ∧ Kept w w' := by
  obtain ⟨i0, hi0, hz0, hz1, hz2⟩ := info_parts Try.infoExt
  have hfo : (Builtin.firstCells i0.size i (.slice (some ⟨bb, bo, none⟩) i c)).run Try.prog w.drew = .ok (ecs I).toArray w.drew :=
    run_firstCells_some (P := Try.prog) w.drew i0.size i ⟨bb, bo, none⟩ i c (ecs I) (by rw [length_ecs, hz1, hI]) (fun j u hu => by rw [Addr.add_lit]; exact hs.cells hu)
  have h := Lib.run_append_grow_zeros (P := Try.prog) w 61 3 ty 65 i0 _ .i64 .i64 Try.underlying61 Try.underlying3 hi0 hz0 (some ⟨bb, bo, none⟩) i c (ecs I) hfo z hz (by rw [hz1]; decide) hr (by omega) (by rw [hz2]; omega) (by rw [hz2]; exact growslice_fits hr (by omega))
  have hge := grownCap_ge w (i + z) c 65
  refine ⟨_, _, h, ⟨ecs I ++ ecs (List.replicate z ⟨0, 0⟩) ++ ecs (List.replicate (grownCap w (i + z) c 65 - (i + z)) ⟨0, 0⟩), ?_, ?_, ?_, ?_⟩, ((Same.refl _ w).drew).alloc _⟩
  · unfold Blk
    refine (heap_alloc_new w.drew _).trans ?_
    rw [ecs_rep, ecs_rep]
    simp
  · simp only [List.length_append, length_ecs, List.length_replicate]; omega
  · simp only [List.length_append, List.length_replicate]; omega
  · intro k hk
    simp only [List.length_append, List.length_replicate] at hk
    rw [ecs_append, List.getElem?_append_left (by simp only [List.length_append, length_ecs, List.length_replicate]; omega)]
/-- copy(d[p:], v). -/
theorem copy_exts {w : World} {g o : Nat} {A : List Value} {dLen : Nat} {vb vo sLen : Nat} {V : List Ex} (hA : Blk w g A) (hv : ExtsAt w (some ⟨vb, vo, none⟩) V) (hn : V.length = Nat.min sLen dLen) (hfit : o + V.length * 2 ≤ A.length) :
    ∃ w', (∀ dCap sCap, (Builtin.copy_ #[61, 61] 3 #[.slice (some ⟨g, o, none⟩) dLen dCap, .slice (some ⟨vb, vo, none⟩) sLen sCap]).run Try.prog w = .ok (goInt V.length) w') ∧ Blk w' g (splice A o (ecs V)) ∧ Same (fun k => k = g) w w' := by
  obtain ⟨i0, hi0, hz0, hz1, hz2⟩ := info_parts Try.infoExt
  have hl := run_loadCells_list (P := Try.prog) w ⟨vb, vo, none⟩ (ecs V) (fun j u hu => by rw [Addr.add_lit]; exact hv.cells hu)
  rw [length_ecs] at hl
  have hst := run_storeCells_at Try.prog g o 65 (ecs V) 0 A.toArray w hA (by rw [length_ecs]; simpa using hfit) (ecs_one V)
  refine ⟨w.setRow g (A.take o ++ ecs V ++ A.drop (o + (ecs V).length)).toArray, ?_, ?_, same_setRow _ _ _⟩
  · intro dCap sCap
    simp [Builtin.copy_, run_underlying Try.underlying61, Builtin.lenOf, Builtin.firstCells, sizeOf, typeInfo, hi0, hz1, ← hn, hl, hst]
  · unfold Blk
    rw [setRow_heap w g _ _ 65 _ hA]
    simp [splice]
/-- clear(s[p:]). -/
theorem clear_exts {w : World} {g o : Nat} {A : List Value} {n : Nat} (hA : Blk w g A) (hfit : o + n * 2 ≤ A.length) :
    ∃ w', (∀ ty cap, (Builtin.clear_ #[61] ty #[.slice (some ⟨g, o, none⟩) n cap]).run Try.prog w = .ok (.tuple #[]) w') ∧ Blk w' g (splice A o (ecs (List.replicate n ⟨0, 0⟩))) ∧ Same (fun k => k = g) w w' := by
  obtain ⟨i0, hi0, hz0, hz1, hz2⟩ := info_parts Try.infoExt
  cases n with
  | zero =>
    refine ⟨w, ?_, by simpa [splice, ecs] using hA, Same.refl _ _⟩
    intro ty cap
    simp [Builtin.clear_, run_underlying Try.underlying61]
  | succ n =>
    have hst := run_storeCells_at Try.prog g o 65 (ecs (List.replicate (n + 1) ⟨0, 0⟩)) 0 A.toArray w hA (by rw [length_ecs]; simpa using hfit) (ecs_one _)
    refine ⟨w.setRow g (A.take o ++ ecs (List.replicate (n + 1) ⟨0, 0⟩) ++ A.drop (o + (ecs (List.replicate (n + 1) ⟨0, 0⟩)).length)).toArray, ?_, ?_, same_setRow _ _ _⟩
    · intro ty cap
      simp only [Nat.add_zero] at hst
      simp [Builtin.clear_, run_underlying Try.underlying61, zeroValue, typeInfo, hi0, hz0, ecs_rep, hst]
    · unfold Blk
      rw [setRow_heap w g _ _ 65 _ hA]
      simp [splice]
end Go.Proofs.Ytpjkmficpedmcaa
