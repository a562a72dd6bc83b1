/- What is proved: two tops beside one another: what is put into one leaves the other; and plain facts on lists without ties; no condition. -/
import Derived.Test.YticahglmlfflbaaVTn
namespace Go.Proofs.Yticahglmlfflbaa
open Go.RowKit

/-- Two tops that were made since w. -/
def D2 (w W : World) (s g sl gl : Nat) (vs us : List Vl) : Prop := (∃ v L v' L', Tp w.heap.size W s sl vs v L ∧ Tp w.heap.size W g gl us v' L' ∧ s ≠ g ∧ ∀ b, v.ownBlock = some b → v'.ownBlock ≠ some b) ∧ Kept w W
theorem D2.kept {w W : World} {s g sl gl : Nat} {vs us : List Vl} (h : D2 w W s g sl gl vs us) : Kept w W := h.2
theorem D2.on {w W W' : World} {s g sl gl : Nat} {vs us : List Vl} (h : D2 w W s g sl gl vs us) (k : Kept W W') : D2 w W' s g sl gl vs us := by
  obtain ⟨⟨v, L, v', L', t, t', hn, ha⟩, k0⟩ := h
  exact ⟨⟨v, L, v', L', t.kept k, t'.kept k, hn, ha⟩, k0.trans' k⟩
theorem D2.swap {w W : World} {s g sl gl : Nat} {vs us : List Vl} (h : D2 w W s g sl gl vs us) : D2 w W g s gl sl us vs := by
  obtain ⟨⟨v, L, v', L', t, t', hn, ha⟩, k0⟩ := h
  exact ⟨⟨v', L', v, L, t', t, hn.symm, fun b hb e => ha b e hb⟩, k0⟩
theorem D2.fst {w W : World} {s g sl gl : Nat} {vs us : List Vl} (h : D2 w W s g sl gl vs us) : TpN w W s sl vs := by
  obtain ⟨⟨v, L, v', L', t, t', hn, ha⟩, k0⟩ := h
  exact ⟨⟨v, L, t⟩, k0⟩
theorem D2.put {w W : World} {s g sl gl : Nat} {vs us : List Vl} (h : D2 w W s g sl gl vs us) {x : Vl} (hx : okV x = true) (hm : vs.length + 1 ≤ 4398046511104) : Calls Try.prog 11 #[.pointer (some ⟨s, 0, none⟩), vlV x] W fun e w' => e = .returned (.int .i64 0) ∧ D2 w w' s g sl gl (vs ++ [x]) us := by
  obtain ⟨⟨v, L, v', L', t, t', hn, ha⟩, k0⟩ := h
  refine (put18_ok t hx hm).mono fun e w' ⟨h1, v2, L2, t2, s2, b2⟩ => ⟨h1, ⟨v2, L2, v', L', t2, t'.on s2 (fun e => ?_) (fun b hb e => ?_), hn, fun b hb e => ?_⟩, k0.trans s2 fun b hb e => ?_⟩
  · rcases e with e | e
    · exact hn e.symm
    · exact own_ne t.own t'.obj (by decide) e
  · rcases e with rfl | e
    · exact own_ne t'.own t.obj (by decide) hb
    · exact ha b e hb
  · rcases b2 b hb with h3 | h3
    · exact ha b h3 e
    · have := lt_of_heap (t'.own.block e).2.choose_spec
      omega
  · rcases e with rfl | e
    · have := t.low; omega
    · have := (t.own.block e).1; omega
theorem D2.no {w W : World} {s g sl gl : Nat} {vs us : List Vl} (h : D2 w W s g sl gl vs us) {x : Vl} (hx : okV x = false) : Calls Try.prog 11 #[.pointer (some ⟨s, 0, none⟩), vlV x] W fun e w' => e = .returned (.int .i64 181) ∧ D2 w w' s g sl gl vs us := by
  have h' := h
  obtain ⟨⟨v, L, v', L', t, t', hn, ha⟩, k0⟩ := h
  exact (put18_no t hx).mono fun e w' ⟨h1, k⟩ => ⟨h1, h'.on k⟩
/-- What Put answers. -/
def putC (x : Vl) : Int := if okV x = true then 0 else 181
theorem D2.any {w W : World} {s g sl gl : Nat} {vs us : List Vl} (h : D2 w W s g sl gl vs us) (x : Vl) (hm : vs.length + 1 ≤ 4398046511104) : Calls Try.prog 11 #[.pointer (some ⟨s, 0, none⟩), vlV x] W fun e w' => e = .returned (.int .i64 (putC x)) ∧ D2 w w' s g sl gl (vs ++ [x].filter okV) us := by
  cases hx : okV x
  · have e1 : putC x = 181 := by unfold putC; rw [hx]; rfl
    have e2 : vs ++ [x].filter okV = vs := by simp [hx]
    rw [e1, e2]
    exact h.no hx
  · have e1 : putC x = 0 := by unfold putC; rw [hx]; rfl
    have e2 : vs ++ [x].filter okV = vs ++ [x] := by simp [hx]
    rw [e1, e2]
    exact h.put hx hm
theorem D2.snd {w W : World} {s g sl gl : Nat} {vs us : List Vl} (h : D2 w W s g sl gl vs us) (x : Vl) (hm : us.length + 1 ≤ 4398046511104) : Calls Try.prog 11 #[.pointer (some ⟨g, 0, none⟩), vlV x] W fun e w' => e = .returned (.int .i64 (putC x)) ∧ D2 w w' s g sl gl vs (us ++ [x].filter okV) :=
  (h.swap.any x hm).mono fun _ _ ⟨h1, h2⟩ => ⟨h1, h2.swap⟩
theorem D2.new {w W : World} (k : Kept w W) {sl gl : Nat} (h1 : sl ≤ 10000) (h2 : gl ≤ 10000) : D2 w ((W.alloc (tpO sl 0 (.slice none 0 0))).alloc (tpO gl 0 (.slice none 0 0))) W.heap.size (W.alloc (tpO sl 0 (.slice none 0 0))).heap.size sl gl [] [] := by
  have t1 : Tp w.heap.size (W.alloc (tpO sl 0 (.slice none 0 0))) W.heap.size sl [] (.slice none 0 0) [] := ⟨heap_new _ _, k.size, Own.nil _ _ _ _ _, Hd.start sl, h1⟩
  refine ⟨⟨_, _, _, _, t1.kept ((Same.refl _ _).alloc _), ⟨heap_new _ _, ?_, Own.nil _ _ _ _ _, Hd.start gl, h2⟩, ?_, fun b hb => by cases hb⟩, (k.alloc _).alloc _⟩
  · have := k.size
    rw [World.size_alloc]
    omega
  · rw [World.size_alloc]
    omega
/-- No two of which the later is right are alike in the order. -/
def NT (l : List Vl) (j : Nat) : Prop := ∀ i k x y, i < j → k < i → l[i]? = some x → l[k]? = some y → okV x = true → compV y x ≠ 0
/-- In a list without ties the order of coming does not count. -/
theorem srt_rev {l : List Vl} (h : l.Pairwise fun a b => compV a b ≠ 0) : srt ltV l.reverse = srt ltV l := by
  have p : (srt ltV l.reverse).Perm l := (srt_perm _ _).trans (List.reverse_perm l)
  refine srt_uniq ltV_swo p ?_
  have hn : (srt ltV l.reverse).Pairwise fun a b => compV a b ≠ 0 := (List.Perm.pairwise_iff (R := fun a b : Vl => compV a b ≠ 0) (fun {x y} h e => h (by rw [compV_swap] at e; omega)) p.symm).1 h
  refine (List.Pairwise.and (srt_pw ltV_swo l.reverse) hn).imp fun {a b} ⟨h1, h2⟩ => ?_
  unfold ltV at h1 ⊢
  rw [decide_eq_false_iff_not, compV_swap] at h1
  rw [decide_eq_true_iff]
  rcases compV_cases a b with e | e | e <;> omega
theorem NT.filter {l : List Vl} (h : NT l l.length) : (l.filter okV).Pairwise fun a b => compV a b ≠ 0 := by
  rw [List.pairwise_filter]
  rw [List.pairwise_iff_getElem]
  intro i j hi hj hij _ hb
  exact h j i _ _ hj hij (List.getElem?_eq_getElem hj) (List.getElem?_eq_getElem hi) hb
theorem filter_rev (l : List Vl) : l.reverse.filter okV = (l.filter okV).reverse := List.filter_reverse
end Go.Proofs.Yticahglmlfflbaa
