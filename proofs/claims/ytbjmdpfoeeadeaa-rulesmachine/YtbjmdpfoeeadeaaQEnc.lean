/- What is proved: Size tells how many bytes a right row has and 0 of any other, Encode gives a right row's bytes in memory of its own and refuses any other; no condition. -/
import Derived.Test.YtbjmdpfoeeadeaaQCmp
namespace Go.Proofs.Ytbjmdpfoeeadeaa.Rw
open Go.RowKit

/-- The numbers between a row's kind and its body. -/
def five (r : RwM) : List Int := [r.time, r.seq, r.index, r.frm, r.til]
theorem bytesR_five (r : RwM) : bytesR r = r.kind :: (forms (five r) ++ encT r.body) := by
  simp only [bytesR, five, forms, List.append_assoc, List.append_nil]
def fiveV (r : RwM) : Value := .agg #[.int .i64 r.time, .int .i64 r.seq, .int .i64 r.index, .int .i64 r.frm, .int .i64 r.til]
theorem two_new9 (w : World) (o1 o2 : Obj) : ((w.alloc o1).alloc o2).heap[w.heap.size + 1]? = some o2 := by
  have := heap_new (w.alloc o1) o2
  rwa [World.size_alloc] at this
theorem five_right {r : RwM} (h : rightR r) {x : Int} (hx : x ∈ five r) : 0 ≤ x ∧ x ≤ 1099511627776 := by
  obtain ⟨-, h1, h2, h3, h4, h5, -⟩ := h
  unfold inB at h1 h2 h3 h4 h5
  simp only [five, List.mem_cons, List.not_mem_nil, or_false] at hx
  rcases hx with rfl | rfl | rfl | rfl | rfl <;> omega
theorem forms_app9 (a b : List Int) : forms (a ++ b) = forms a ++ forms b := by
  induction a with
  | nil => rfl
  | cons x r ih => simp only [List.cons_append, forms, ih, List.append_assoc]
theorem forms_next9 {l : List Int} {j : Nat} {x : Int} (h : l[j]? = some x) : forms (l.take (j + 1)) = forms (l.take j) ++ form x.toNat := by
  rw [List.take_add_one, h, forms_app9]
  simp [forms]
theorem forms_len9 {l : List Int} (h : ∀ x ∈ l, x ≤ 1099511627776) : (forms l).length ≤ 8 * l.length := by
  induction l with
  | nil => simp [forms]
  | cons x r ih =>
    have := ih (fun y hy => h y (by simp [hy]))
    have hx := h x (by simp)
    have : (form x.toNat).length ≤ 8 := form_le (by decide) (by omega)
    simp only [forms, List.length_append, List.length_cons]
    omega
theorem five_take_len {r : RwM} (h : rightR r) (j : Nat) : (forms ((five r).take j)).length ≤ 40 := by
  have := forms_len9 (l := (five r).take j) (fun x hx => (five_right h (List.mem_of_mem_take hx)).2)
  have h8 : (five r).length = 5 := rfl
  rw [List.length_take] at this
  omega

end Go.Proofs.Ytbjmdpfoeeadeaa.Rw
