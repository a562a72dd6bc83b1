/- What is proved: plain facts on pruning one key after the other; no condition. -/
import Derived.Test.YtnjpbagfbklofaaCPrnA
namespace Go.Proofs.Ytnjpbagfbklofaa
open Go.RowKit

/-- One key is pruned. -/
def pk (A : List En) (k : ByteArray) (t : Int) : List En := A.filter fun e => !isK k e || keepV (ch A k) t e.x
theorem pk_other {A : List En} {k k' : ByteArray} (h : k'.toList ≠ k.toList) (t : Int) : ch (pk A k t) k' = ch A k' := by
  unfold pk
  rw [filter_ch A _ k' (fun _ => true) (fun e _ he => by simp [isK, he, h])]
  simp
theorem pk_same {A : List En} (h : Good A) (k : ByteArray) (t : Int) : ch (pk A k t) k = (ch A k).drop (cnt (ch A k) t - 1) := by
  unfold pk
  rw [filter_ch A _ k (keepV (ch A k) t) (fun e _ he => by simp [isK, he])]
  exact (h k).keep_drop t
theorem Good.pk {A : List En} (h : Good A) (k : ByteArray) (t : Int) : Good (pk A k t) := fun k' => by
  by_cases e : k'.toList = k.toList
  · rw [ch_congr e, pk_same h]
    exact (h k).drop _
  · rw [pk_other e]
    exact h k'
theorem length_parts (A : List En) (k : ByteArray) : A.length = (ch A k).length + (A.filter fun e => !isK k e).length := by
  induction A with
  | nil => rfl
  | cons a r ih =>
    have e1 : ch (a :: r) k = ch [a] k ++ ch r k := ch_append [a] r k
    rw [e1]
    cases h : isK k a
    · have h' : a.key.toList ≠ k.toList := by simpa [isK] using h
      have e2 : ch [a] k = [] := ch_one_other h' a.x
      rw [e2]
      simp only [List.length_cons, List.filter_cons, h, Bool.not_false, if_true, List.nil_append]
      omega
    · have h' : a.key.toList = k.toList := by simpa [isK] using h
      have e2 : ch [a] k = [a.x] := ch_one_same h' a.x
      rw [e2]
      simp only [List.length_cons, List.filter_cons, h, Bool.not_true, Bool.false_eq_true, if_false, List.length_append, List.length_nil]
      omega
theorem pk_length {A : List En} (h : Good A) (k : ByteArray) (t : Int) : (pk A k t).length + (cnt (ch A k) t - 1) = A.length := by
  have h1 := length_parts A k
  have h2 := length_parts (pk A k t) k
  have h3 : (pk A k t).filter (fun e => !isK k e) = A.filter fun e => !isK k e := by
    unfold pk
    rw [List.filter_filter]
    refine List.filter_congr fun e _ => ?_
    cases isK k e <;> simp
  rw [h3, pk_same h, List.length_drop] at h2
  have := cnt_le (ch A k) t
  omega
theorem pk_ne {A : List En} (h : Good A) {k k' : ByteArray} (t : Int) (hn : ch A k' ≠ []) : ch (pk A k t) k' ≠ [] := by
  by_cases e : k'.toList = k.toList
  · rw [ch_congr e, pk_same h]
    rw [ch_congr e] at hn
    have h1 := cnt_le (ch A k) t
    have h2 := List.length_pos_iff.2 hn
    intro e'
    have := congrArg List.length e'
    simp only [List.length_drop, List.length_nil] at this
    omega
  · rwa [pk_other e]
theorem pk_noop {A : List En} (h : Good A) {k : ByteArray} {t : Int} (hc : cnt (ch A k) t - 1 = 0) : pk A k t = A := by
  have h1 := pk_length h k t
  unfold pk at h1 ⊢
  rw [hc, Nat.add_zero] at h1
  exact List.filter_eq_self.2 (List.length_filter_eq_length_iff.1 h1)
/-- Pruning key by key. -/
theorem pk_prL {A : List En} (h : Good A) {left : ByteArray → Bool} (hl : ∀ k k', k.toList = k'.toList → left k = left k') {k : ByteArray} (hk : left k = true) (t : Int) : pk (prL A left t) k t = prL A (fun k' => left k' && !(k'.toList == k.toList)) t := by
  have hch : ch (prL A left t) k = ch A k := by rw [h.prL_ch hl, hk]; rfl
  unfold pk
  rw [hch]
  unfold prL
  rw [List.filter_filter]
  refine List.filter_congr fun e _ => ?_
  by_cases he : e.key.toList = k.toList
  · simp [isK, he, hl _ _ he, hk, ch_congr he]
  · have hb : (e.key.toList == k.toList) = false := by simpa using he
    simp [isK, hb]
theorem prL_start {A : List En} (h : Good A) {left : ByteArray → Bool} (hs : ∀ k, left k = false → (ch A k).length ≤ 1) (t : Int) : prL A left t = A := by
  unfold prL
  refine List.filter_eq_self.2 fun e he => ?_
  cases hk : left e.key
  · simp only [Bool.false_or]
    have h1 := hs _ hk
    have hm : e.x ∈ ch A e.key := mem_ch.2 ⟨e, he, rfl, rfl⟩
    unfold keepV
    split
    · rename_i s hs'
      have hsm := ((h e.key).at_mem hs').1
      match hch : ch A e.key with
      | [] => rw [hch] at hm; simp at hm
      | [z] =>
        rw [hch] at hm hsm
        simp only [List.mem_singleton] at hm hsm
        rw [hm, hsm, gt_irrefl]
        rfl
      | _ :: _ :: _ => rw [hch] at h1; simp at h1
    · rfl
  · rfl
theorem prL_good {A : List En} (h : Good A) {left : ByteArray → Bool} (hl : ∀ k k', k.toList = k'.toList → left k = left k') (t : Int) : Good (prL A left t) := fun k => by
  rw [h.prL_ch hl]
  split
  · exact h k
  · exact (h k).drop _
theorem prL_congr {A : List En} {left left' : ByteArray → Bool} (h : ∀ k, left k = left' k) (t : Int) : prL A left t = prL A left' t := by
  rw [show left = left' from funext h]
/-- The keys with several versions, behind a pruning. -/
theorem Lk.pk {A : List En} {DL : DataW Value} (h : Lk A DL) (hg : Good A) (k : ByteArray) (t : Int) : Lk (pk A k t) DL where
  some_ := fun k' hh => pk_ne hg t (h.some_ k' hh)
  long := fun k' hl => by
    refine h.long k' (Nat.le_trans hl ?_)
    by_cases e : k'.toList = k.toList
    · rw [ch_congr e, ch_congr e, pk_same hg, List.length_drop]
      omega
    · rw [pk_other e]
      exact Nat.le_refl _
theorem Lk.del {A : List En} {DL : DataW Value} (h : Lk A DL) {k : ByteArray} (h1 : (ch A k).length = 1) : Lk A (DL.del (kl k)) where
  some_ := fun k' hh => by
    by_cases e : k'.toList = k.toList
    · rw [kl_eq e, Go.Maps.has_del_same] at hh
      cases hh
    · rw [Go.Maps.has_del_other (kl_ne e)] at hh
      exact h.some_ k' hh
  long := fun k' hl => by
    by_cases e : k'.toList = k.toList
    · rw [ch_congr e] at hl
      omega
    · rw [Go.Maps.has_del_other (kl_ne e)]
      exact h.long k' hl
end Go.Proofs.Ytnjpbagfbklofaa
