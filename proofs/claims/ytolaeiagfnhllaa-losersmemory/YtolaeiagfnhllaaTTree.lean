/- What is proved: a tournament's tree in memory, and what its matches and its refusals answer; the tree is one that New made. -/
import Derived.Test.YtolaeiagfnhllaaTModel
import Derived.Test.YtolaeiagfnhllaaNRows
import Derived.BigRegion
import Derived.Deep.RegionHeld3
namespace Go.Proofs.Ytolaeiagfnhllaa
open Go.RowKit

def inz (L : List Int) : List Value := L.map fun n => Value.int .i64 n
theorem length_inz (L : List Int) : (inz L).length = L.length := by simp [inz]
theorem inz_append (a b : List Int) : inz (a ++ b) = inz a ++ inz b := by simp [inz]
theorem inz_set (L : List Int) (i : Nat) (x : Int) : inz (L.set i x) = (inz L).set i (.int .i64 x) := by simp [inz, List.map_set]
theorem getD_at' {α : Type} {L : List α} {i : Nat} {d : α} (h : i < L.length) : L.getD i d = L[i] := by simp [List.getD, List.getElem?_eq_getElem h]
theorem inz_get {L : List Int} {i : Nat} (h : i < L.length) : (inz L)[i]? = some (.int .i64 (L.getD i 0)) := by
  rw [inz, List.getElem?_map, List.getElem?_eq_getElem h, getD_at' h]; rfl
theorem inz_one (L : List Int) : ∀ v ∈ inz L, v.oneCell' = true := by
  intro v hv
  obtain ⟨x, _, rfl⟩ := List.mem_map.1 hv
  rfl
/-- A source's cells. -/
def sc1 (s : Sr) : List Value := .int .i64 s.code :: rc1 s.row
def srcs (S : List Sr) : List Value := S.flatMap sc1
theorem srcs_cons (s : Sr) (S : List Sr) : srcs (s :: S) = sc1 s ++ srcs S := rfl
theorem sc1_len (s : Sr) : (sc1 s).length = 8 := rfl
theorem srcs_get {S : List Sr} {i : Nat} (h : i < S.length) (j : Nat) (hj : j < 8) : (srcs S)[i * 8 + j]? = (sc1 (S.getD i .wait))[j]? := by
  induction S generalizing i with
  | nil => simp at h
  | cons a S ih =>
    cases i with
    | zero => rw [srcs_cons, Nat.zero_mul, Nat.zero_add, List.getElem?_append_left (by exact hj)]; rfl
    | succ i =>
      have hi : i < S.length := by simpa using h
      rw [srcs_cons, List.getElem?_append_right (by show 8 ≤ _; omega)]
      have := ih hi
      rw [show (i + 1) * 8 + j - (sc1 a).length = i * 8 + j by rw [sc1_len]; omega, this]
      simp
theorem srcs_set (S : List Sr) (i : Nat) (h : i < S.length) (s : Sr) :
    ((((((((srcs S).set (i * 8) (.int .i64 s.code)).set (i * 8 + 1) (.int .i64 s.row.kind)).set (i * 8 + 2) (.int .i64 s.row.time)).set (i * 8 + 3) (.int .i64 s.row.seq)).set (i * 8 + 4) (.int .i64 s.row.index)).set (i * 8 + 5) (.int .i64 s.row.frm)).set (i * 8 + 6) (.int .i64 s.row.til)).set (i * 8 + 7) (.string s.row.body) = srcs (S.set i s) := by
  induction S generalizing i with
  | nil => simp at h
  | cons a S ih =>
    cases i with
    | zero => rfl
    | succ i =>
      have hi : i < S.length := by simpa using h
      have e : ∀ j (l : List Value) v, (sc1 a ++ l).set ((i + 1) * 8 + j) v = sc1 a ++ l.set (i * 8 + j) v := fun j l v => by
        rw [List.set_append_right _ _ (by rw [sc1_len]; omega), sc1_len, show (i + 1) * 8 + j - 8 = i * 8 + j by omega]
      have e0 := fun l v => e 0 l v
      simp only [Nat.add_zero] at e0
      rw [List.set_cons_succ, srcs_cons, srcs_cons, e0, e 1, e 2, e 3, e 4, e 5, e 6, e 7, ih i hi]
/-- How many sources wait. -/
def wts (S : List Sr) : Nat := S.countP Sr.wt
theorem wts_le (S : List Sr) : wts S ≤ S.length := List.countP_le_length
theorem wts_set {S : List Sr} {i : Nat} (h : i < S.length) (s : Sr) : wts (S.set i s) + (if (S.getD i .wait).wt = true then 1 else 0) = wts S + (if s.wt = true then 1 else 0) := by
  induction S generalizing i with
  | nil => simp at h
  | cons a S ih =>
    cases i with
    | zero =>
      simp only [wts, List.set_cons_zero, List.countP_cons, List.getD_cons_zero]
      omega
    | succ i =>
      have := ih (i := i) (by simpa using h)
      simp only [wts, List.set_cons_succ, List.countP_cons, List.getD_cons_succ] at this ⊢
      omega
theorem wts_zero {S : List Sr} : wts S = 0 ↔ ∀ i, i < S.length → (S.getD i .wait).wt = false := by
  rw [wts, List.countP_eq_zero]
  constructor
  · intro h i hi
    have := h _ (List.getElem_mem hi)
    rw [getD_at' hi]
    simpa using this
  · intro h s hs
    obtain ⟨i, hi, rfl⟩ := List.getElem_of_mem hs
    have := h i hi
    rw [getD_at' hi] at this
    simp [this]
/-- A tree in block b, its sources in block gs and its nodes in block gn. -/
structure Tr (w : World) (b gs gn : Nat) (order : Int) (S : List Sr) (nd : List Int) : Prop where
  obj : w.heap[b]? = some (.cells #[.int .i64 order, .slice (some ⟨gs, 0, none⟩) S.length S.length, .slice (some ⟨gn, 0, none⟩) S.length S.length, .int .i64 ((wts S : Nat) : Int)] 63 (0, 0))
  src : w.heap[gs]? = some (.cells (srcs S).toArray 77 (0, 0))
  nod : w.heap[gn]? = some (.cells (inz nd).toArray 3 (0, 0))
  len : nd.length = S.length
  k0 : 0 < S.length
  k1 : S.length ≤ 64
theorem Tr.onS {T : Nat → Prop} {w w' : World} {b gs gn : Nat} {order : Int} {S : List Sr} {nd : List Int} (h : Tr w b gs gn order S nd) (k : Same T w w') (h1 : ¬ T b) (h2 : ¬ T gs) (h3 : ¬ T gn) : Tr w' b gs gn order S nd :=
  ⟨(k.block _ (lt_of_heap h.obj) h1).trans h.obj, (k.block _ (lt_of_heap h.src) h2).trans h.src, (k.block _ (lt_of_heap h.nod) h3).trans h.nod, h.len, h.k0, h.k1⟩
theorem Tr.on {w w' : World} {b gs gn : Nat} {order : Int} {S : List Sr} {nd : List Int} (h : Tr w b gs gn order S nd) (k : Kept w w') : Tr w' b gs gn order S nd := h.onS k (fun e => e) (fun e => e) (fun e => e)
theorem Tr.ne {w : World} {b gs gn : Nat} {order : Int} {S : List Sr} {nd : List Int} (h : Tr w b gs gn order S nd) : b ≠ gs ∧ b ≠ gn ∧ gs ≠ gn := by
  refine ⟨?_, ?_, ?_⟩
  · rintro rfl; have := h.obj.symm.trans h.src; simp at this
  · rintro rfl; have := h.obj.symm.trans h.nod; simp at this
  · rintro rfl; have := h.src.symm.trans h.nod; simp at this
theorem Tr.cells {w : World} {b gs gn : Nat} {order : Int} {S : List Sr} {nd : List Int} (h : Tr w b gs gn order S nd) :
    (w.cell? ⟨b, 0, none⟩ = some (.int .i64 order) ∧ w.cell? ⟨b, 1, none⟩ = some (.slice (some ⟨gs, 0, none⟩) S.length S.length) ∧ w.cell? ⟨b, 2, none⟩ = some (.slice (some ⟨gn, 0, none⟩) S.length S.length) ∧ w.cell? ⟨b, 3, none⟩ = some (.int .i64 ((wts S : Nat) : Int))) ∧ w.frozen? ⟨b, 3, none⟩ = false ∧ b < w.heap.size :=
  ⟨⟨(cell_of h.obj 0).trans rfl, (cell_of h.obj 1).trans rfl, (cell_of h.obj 2).trans rfl, (cell_of h.obj 3).trans rfl⟩, frozen_of h.obj 3, lt_of_heap h.obj⟩
theorem Tr.src_at {w : World} {b gs gn : Nat} {order : Int} {S : List Sr} {nd : List Int} (h : Tr w b gs gn order S nd) {i : Nat} (hi : i < S.length) {s : Sr} (hs : S.getD i .wait = s) :
    w.cell? ⟨gs, i * 8, none⟩ = some (.int .i64 s.code) ∧ w.cell? ⟨gs, i * 8 + 1, none⟩ = some (.int .i64 s.row.kind) ∧ w.cell? ⟨gs, i * 8 + 2, none⟩ = some (.int .i64 s.row.time) ∧ w.cell? ⟨gs, i * 8 + 3, none⟩ = some (.int .i64 s.row.seq) ∧ w.cell? ⟨gs, i * 8 + 4, none⟩ = some (.int .i64 s.row.index) ∧ w.cell? ⟨gs, i * 8 + 5, none⟩ = some (.int .i64 s.row.frm) ∧ w.cell? ⟨gs, i * 8 + 6, none⟩ = some (.int .i64 s.row.til) ∧ w.cell? ⟨gs, i * 8 + 7, none⟩ = some (.string s.row.body) := by
  subst hs
  have e : ∀ j, j < 8 → w.cell? ⟨gs, i * 8 + j, none⟩ = (sc1 (S.getD i .wait))[j]? := fun j hj => by
    rw [cell_of h.src, ← srcs_get hi j hj]
    simp
  exact ⟨e 0 (by decide), e 1 (by decide), e 2 (by decide), e 3 (by decide), e 4 (by decide), e 5 (by decide), e 6 (by decide), e 7 (by decide)⟩
theorem Tr.nod_at {w : World} {b gs gn : Nat} {order : Int} {S : List Sr} {nd : List Int} (h : Tr w b gs gn order S nd) {i : Nat} (hi : i < S.length) : w.cell? ⟨gn, i, none⟩ = some (.int .i64 (nd.getD i 0)) := by
  rw [cell_of h.nod, ← inz_get (by rw [h.len]; exact hi)]
  simp
theorem bt_eq {order : Int} {S : List Sr} {x y : Nat} {s t : Sr} (hx : S.getD x .wait = s) (hy : S.getD y .wait = t) (h1 : s.wt = false) (h2 : t.wt = false) :
    bt order S x y = if s.code = 2 ∨ t.code = 2 then decide (s.code ≠ 2) else if comp order s.row t.row ≠ 0 then decide (comp order s.row t.row < 0) else decide (x < y) := by
  unfold bt
  rw [hx, hy]
  cases s <;> cases t <;> simp [Sr.code, Sr.row, Sr.wt] at *
  rename_i a c
  have e := comp_swap order a c
  unfold bef
  rcases comp_cases order a c with h | h | h <;> rw [h] at e <;> simp [h, e]
set_option maxRecDepth 100000 in
set_option maxHeartbeats 1600000 in
theorem beats11 {w : World} {b gs gn : Nat} {order : Int} {S : List Sr} {nd : List Int} (h : Tr w b gs gn order S nd) {x y : Nat} (hx : x < S.length) (hy : y < S.length) (h1 : (S.getD x .wait).wt = false) (h2 : (S.getD y .wait).wt = false) :
    Calls Try.prog 36 #[.pointer (some ⟨b, 0, none⟩), .int .i64 x, .int .i64 y] w fun e w' => e = .returned (.bool (bt order S x y)) ∧ Kept w w' := by
  obtain ⟨s, hs⟩ : ∃ s, S.getD x .wait = s := ⟨_, rfl⟩
  obtain ⟨t, ht⟩ : ∃ t, S.getD y .wait = t := ⟨_, rfl⟩
  rw [hs] at h1
  rw [ht] at h2
  rw [bt_eq hs ht h1 h2]
  obtain ⟨⟨c0, c1, c2, c3⟩, -, hb⟩ := h.cells
  obtain ⟨p0, p1, p2, p3, p4, p5, p6, p7⟩ := h.src_at hx hs
  obtain ⟨q0, q1, q2, q3, q4, q5, q6, q7⟩ := h.src_at hy ht
  have hgs := lt_of_heap h.src
  have HC : Hid (∀ W, Kept w W → Calls Try.prog 34 #[.int .i64 order, rowV s.row, rowV t.row] W fun e w' => e = .returned (.int .i64 (comp order s.row t.row)) ∧ Kept w w') := fun W k => Calls.mono (compare_any order s.row t.row W) fun e w' h => ⟨h.1, k.trans' h.2⟩
  have hk1 := h.k1
  obtain ⟨n, en⟩ : ∃ n, n = S.length := ⟨_, rfl⟩
  rw [← en] at c1 c2 hx hy hk1
  have d1 : (x : Int) < (n : Int) := by omega
  have d2 : (y : Int) < (n : Int) := by omega
  generalize comp order s.row t.row = c at *
  generalize s.row = sr at *
  generalize t.row = tr at *
  generalize s.code = sc at *
  generalize t.code = tc at *
  obtain ⟨kind, time, seq, index, frm, til, body⟩ := sr
  obtain ⟨kind', time', seq', index', frm', til', body'⟩ := tr
  unfold rowV at HC
  simp only at *
  clear h hs ht h1 h2 en
  by_cases g1 : sc = 2
  · subst g1
    rw [if_pos (.inl rfl), decide_eq_false (fun e => e rfl)]
    go_enter Try.func36, Try.ntmps36
    go_wp2_with fail
    go_quiet (fail)
    all_goals
      go_wp2_with fail
      go_ret
      exact ⟨rfl, by (repeat (first | exact Same.refl _ _ | apply Same.alloc | apply Same.drew | apply Same.drewN)); done⟩
  · have g1' : (sc == 2) = false := by simpa using g1
    by_cases g2 : tc = 2
    · subst g2
      rw [if_pos (.inr rfl), decide_eq_true g1]
      have g3 : (sc != 2) = true := by simpa using g1
      clear g1
      go_enter Try.func36, Try.ntmps36
      go_wp2_with fail
      go_quiet (fail)
      all_goals
        go_wp2_with fail
        go_ret
        exact ⟨rfl, by (repeat (first | exact Same.refl _ _ | apply Same.alloc | apply Same.drew | apply Same.drewN)); done⟩
    · have g2' : (tc == 2) = false := by simpa using g2
      rw [if_neg (fun e => e.elim g1 g2)]
      clear g1 g2
      have HT : Hid (∀ W, Kept w W → Kept w W ∧ W.cell? ⟨b, 0, none⟩ = some (.int .i64 order) ∧ W.cell? ⟨gs, x * 8 + 1, none⟩ = some (.int .i64 kind) ∧ W.cell? ⟨gs, x * 8 + 2, none⟩ = some (.int .i64 time) ∧ W.cell? ⟨gs, x * 8 + 3, none⟩ = some (.int .i64 seq) ∧ W.cell? ⟨gs, x * 8 + 4, none⟩ = some (.int .i64 index) ∧ W.cell? ⟨gs, x * 8 + 5, none⟩ = some (.int .i64 frm) ∧ W.cell? ⟨gs, x * 8 + 6, none⟩ = some (.int .i64 til) ∧ W.cell? ⟨gs, x * 8 + 7, none⟩ = some (.string body) ∧ W.cell? ⟨gs, y * 8 + 1, none⟩ = some (.int .i64 kind') ∧ W.cell? ⟨gs, y * 8 + 2, none⟩ = some (.int .i64 time') ∧ W.cell? ⟨gs, y * 8 + 3, none⟩ = some (.int .i64 seq') ∧ W.cell? ⟨gs, y * 8 + 4, none⟩ = some (.int .i64 index') ∧ W.cell? ⟨gs, y * 8 + 5, none⟩ = some (.int .i64 frm') ∧ W.cell? ⟨gs, y * 8 + 6, none⟩ = some (.int .i64 til') ∧ W.cell? ⟨gs, y * 8 + 7, none⟩ = some (.string body')) := fun W k => by
        have tb : ∀ o, W.cell? ⟨b, o, none⟩ = w.cell? ⟨b, o, none⟩ := fun o => k.cell (p := ⟨b, o, none⟩) hb (fun e => e)
        have tg : ∀ o, W.cell? ⟨gs, o, none⟩ = w.cell? ⟨gs, o, none⟩ := fun o => k.cell (p := ⟨gs, o, none⟩) hgs (fun e => e)
        exact ⟨k, (tb _).trans c0, (tg _).trans p1, (tg _).trans p2, (tg _).trans p3, (tg _).trans p4, (tg _).trans p5, (tg _).trans p6, (tg _).trans p7, (tg _).trans q1, (tg _).trans q2, (tg _).trans q3, (tg _).trans q4, (tg _).trans q5, (tg _).trans q6, (tg _).trans q7⟩
      by_cases g3 : c = 0
      · subst g3
        rw [if_neg (fun e => e rfl)]
        go_enter Try.func36, Try.ntmps36
        go_wp2_with fail
        go_quiet (fail)
        go_wp2_with fail
        go_region_held3 (fun W => Kept w W ∧ W.cell? ⟨b, 0, none⟩ = some (.int .i64 order) ∧ W.cell? ⟨gs, x * 8 + 1, none⟩ = some (.int .i64 kind) ∧ W.cell? ⟨gs, x * 8 + 2, none⟩ = some (.int .i64 time) ∧ W.cell? ⟨gs, x * 8 + 3, none⟩ = some (.int .i64 seq) ∧ W.cell? ⟨gs, x * 8 + 4, none⟩ = some (.int .i64 index) ∧ W.cell? ⟨gs, x * 8 + 5, none⟩ = some (.int .i64 frm) ∧ W.cell? ⟨gs, x * 8 + 6, none⟩ = some (.int .i64 til) ∧ W.cell? ⟨gs, x * 8 + 7, none⟩ = some (.string body) ∧ W.cell? ⟨gs, y * 8 + 1, none⟩ = some (.int .i64 kind') ∧ W.cell? ⟨gs, y * 8 + 2, none⟩ = some (.int .i64 time') ∧ W.cell? ⟨gs, y * 8 + 3, none⟩ = some (.int .i64 seq') ∧ W.cell? ⟨gs, y * 8 + 4, none⟩ = some (.int .i64 index') ∧ W.cell? ⟨gs, y * 8 + 5, none⟩ = some (.int .i64 frm') ∧ W.cell? ⟨gs, y * 8 + 6, none⟩ = some (.int .i64 til') ∧ W.cell? ⟨gs, y * 8 + 7, none⟩ = some (.string body'))
          (exact HT.out _ (by (repeat (first | assumption | exact Same.refl _ _ | apply Same.alloc | apply Same.drew | apply Same.drewN)); done))
          (first
          | (go_at_call 34; refine Calls.mono (HC.out _ (by (repeat (first | assumption | exact Same.refl _ _ | apply Same.alloc | apply Same.drew | apply Same.drewN)); done)) ?_; rintro r w1 ⟨rfl, k1⟩))
        all_goals
          go_wp2_with fail
          go_ret
          exact ⟨rfl, by (repeat (first | assumption | exact Same.refl _ _ | apply Same.alloc | apply Same.drew | apply Same.drewN)); done⟩
      · rw [if_pos g3]
        have g4 : (c != 0) = true := by simpa using g3
        clear g3
        go_enter Try.func36, Try.ntmps36
        go_wp2_with fail
        go_quiet (fail)
        go_wp2_with fail
        go_region_held3 (fun W => Kept w W ∧ W.cell? ⟨b, 0, none⟩ = some (.int .i64 order) ∧ W.cell? ⟨gs, x * 8 + 1, none⟩ = some (.int .i64 kind) ∧ W.cell? ⟨gs, x * 8 + 2, none⟩ = some (.int .i64 time) ∧ W.cell? ⟨gs, x * 8 + 3, none⟩ = some (.int .i64 seq) ∧ W.cell? ⟨gs, x * 8 + 4, none⟩ = some (.int .i64 index) ∧ W.cell? ⟨gs, x * 8 + 5, none⟩ = some (.int .i64 frm) ∧ W.cell? ⟨gs, x * 8 + 6, none⟩ = some (.int .i64 til) ∧ W.cell? ⟨gs, x * 8 + 7, none⟩ = some (.string body) ∧ W.cell? ⟨gs, y * 8 + 1, none⟩ = some (.int .i64 kind') ∧ W.cell? ⟨gs, y * 8 + 2, none⟩ = some (.int .i64 time') ∧ W.cell? ⟨gs, y * 8 + 3, none⟩ = some (.int .i64 seq') ∧ W.cell? ⟨gs, y * 8 + 4, none⟩ = some (.int .i64 index') ∧ W.cell? ⟨gs, y * 8 + 5, none⟩ = some (.int .i64 frm') ∧ W.cell? ⟨gs, y * 8 + 6, none⟩ = some (.int .i64 til') ∧ W.cell? ⟨gs, y * 8 + 7, none⟩ = some (.string body'))
          (exact HT.out _ (by (repeat (first | assumption | exact Same.refl _ _ | apply Same.alloc | apply Same.drew | apply Same.drewN)); done))
          (first
          | (go_at_call 34; refine Calls.mono (HC.out _ (by (repeat (first | assumption | exact Same.refl _ _ | apply Same.alloc | apply Same.drew | apply Same.drewN)); done)) ?_; rintro r w1 ⟨rfl, k1⟩))
        all_goals
          go_wp2_with fail
          go_ret
          exact ⟨rfl, by (repeat (first | assumption | exact Same.refl _ _ | apply Same.alloc | apply Same.drew | apply Same.drewN)); done⟩
/-- Why nothing can be told of source i. -/
def refC (S : List Sr) (i : Int) : Int := if i < 0 ∨ (S.length : Int) ≤ i then 111 else if (S.getD i.toNat .wait).wt = true then 0 else 112
set_option maxRecDepth 100000 in
theorem refuses11 {w : World} {b gs gn : Nat} {order : Int} {S : List Sr} {nd : List Int} (h : Tr w b gs gn order S nd) (i : Int) :
    Calls Try.prog 30 #[.pointer (some ⟨b, 0, none⟩), .int .i64 i] w fun e w' => e = .returned (.int .i64 (refC S i)) ∧ w' = w := by
  obtain ⟨⟨c0, c1, c2, c3⟩, -, hb⟩ := h.cells
  have hgs := lt_of_heap h.src
  unfold refC
  by_cases h1 : i < 0
  · rw [if_pos (.inl h1)]
    have d1 : decide (i < 0) = true := decide_eq_true h1
    clear h
    go_enter Try.func30, Try.ntmps30
    go_wp2_with fail
    go_ret
    exact ⟨rfl, rfl⟩
  · have d1 : decide (i < 0) = false := decide_eq_false h1
    by_cases h2 : (S.length : Int) ≤ i
    · rw [if_pos (.inr h2)]
      have d2 : decide ((S.length : Int) ≤ i) = true := decide_eq_true h2
      clear h
      go_enter Try.func30, Try.ntmps30
      go_wp2_with fail
      go_ret
      exact ⟨rfl, rfl⟩
    · have d2 : decide ((S.length : Int) ≤ i) = false := decide_eq_false h2
      rw [if_neg (fun e => e.elim h1 h2)]
      obtain ⟨x, rfl⟩ : ∃ x : Nat, i = (x : Int) := ⟨i.toNat, by omega⟩
      rw [show ((x : Nat) : Int).toNat = x by omega]
      have hx : x < S.length := by omega
      obtain ⟨p0, -⟩ := h.src_at hx rfl
      have hk1 := h.k1
      have hx2 : (x : Int) < (S.length : Int) := by omega
      cases hw : (S.getD x .wait).wt
      · have hw2 : ((S.getD x .wait).code != 0) = true := by
          have := Sr.code_zero (s := S.getD x .wait)
          rw [hw] at this
          simpa using this
        rw [if_neg (by decide)]
        generalize (S.getD x .wait).code = sc at *
        clear h hw
        go_enter Try.func30, Try.ntmps30
        go_wp2_with fail
        go_ret
        exact ⟨rfl, rfl⟩
      · have hw2 : (S.getD x .wait).code = 0 := Sr.code_zero.2 hw
        rw [hw2] at p0
        rw [if_pos rfl]
        clear h hw hw2
        go_enter Try.func30, Try.ntmps30
        go_wp2_with fail
        go_ret
        exact ⟨rfl, rfl⟩
end Go.Proofs.Ytolaeiagfnhllaa
