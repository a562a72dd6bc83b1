/- What is proved: the methods of two children of one stop, told by how many beats were asked; nothing below a given block turns. -/
import Derived.Test.YtkkkndbfokjikaaOneT
namespace Go.Proofs.Ytkkkndbfokjikaa
open Go.Conc Go.RowKit

/-- A tree of three: the first stop at block r, its children at a and b; k beats were asked of the children, the first stop had n. -/
def Tri (r a b lo : Nat) (w : World) (n k : Nat) : Prop := ∃ T : Tr, Holds 0 w T ∧ T.n = 3 ∧ T.par 0 = none ∧ T.par 1 = some 0 ∧ T.par 2 = some 0 ∧ T.blk 0 = r ∧ T.blk 1 = a ∧ T.blk 2 = b ∧ (∀ j, Foot T j → lo ≤ j) ∧
  ((k ≤ n ∧ T.cause 0 = 0 ∧ T.cause 1 = 0 ∧ T.cause 2 = 0 ∧ T.left 0 = n - k ∧ 1099511627776 - (k : Int) ≤ T.left 1 ∧ T.left 1 ≤ 1099511627776 ∧ 1099511627776 - (k : Int) ≤ T.left 2 ∧ T.left 2 ≤ 1099511627776) ∨
   (n < k ∧ T.cause 0 = 2 ∧ T.cause 1 = 3 ∧ T.cause 2 = 3 ∧ T.left 0 = 0))

theorem up_kid (par : Nat → Option Nat) (x : Nat) (h0 : par 0 = none) (hx : par x = some 0) (h1 : 1 ≤ x) : up par (x + 1) x = [x, 0] := by
  obtain ⟨y, rfl⟩ : ∃ y, x = y + 1 := ⟨x - 1, by omega⟩
  rw [up]
  simp only [hx]
  rw [up]
  simp [h0]
theorem spent_kid (par : Nat → Option Nat) (left : Nat → Int) (x : Nat) (h0 : par 0 = none) (hx : par x = some 0) (h1 : 1 ≤ x) : spent par left x = if (left 0 == 0) = true then some 0 else if (left x == 0) = true then some x else none := by
  unfold spent
  rw [up_kid par x h0 hx h1]
  simp [spentS]
theorem dec_kid (par : Nat → Option Nat) (left : Nat → Int) (x : Nat) (h0 : par 0 = none) (hx : par x = some 0) (h1 : 1 ≤ x) : dec par left x = upd (upd left x (left x - 1)) 0 (left 0 - 1) := by
  unfold dec
  rw [up_kid par x h0 hx h1]
  simp only [List.foldl_cons, List.foldl_nil, decS]
  rw [upd_other _ _ (show (0 : Nat) ≠ x by omega)]

theorem tri_cause_sw (par : Nat → Option Nat) (c : Nat → Int) (h0 : par 0 = none) (h1 : par 1 = some 0) (h2 : par 2 = some 0) (c1 : c 1 = 0) (c2 : c 2 = 0) :
    sw par (upd c 0 2) 3 0 = 2 ∧ sw par (upd c 0 2) 3 1 = 3 ∧ sw par (upd c 0 2) 3 2 = 3 := by
  have e0 : sw par (upd c 0 2) 3 0 = 2 := by
    rw [sw_char _ _ _ _ (by omega) (fun p hp => by rw [h0] at hp; cases hp), upd_same]
    simp
  refine ⟨e0, ?_, ?_⟩
  · rw [sw_char _ _ _ _ (by omega) (fun p hp => by rw [h1] at hp; cases hp; omega), upd_other _ _ (by omega), c1, h1]
    simp [e0]
  · rw [sw_char _ _ _ _ (by omega) (fun p hp => by rw [h2] at hp; cases hp; omega), upd_other _ _ (by omega), c2, h2]
    simp [e0]

theorem tri_beat (r a b lo : Nat) (w : World) (n k : Nat) (hn : n ≤ 1099511627776) (h : Tri r a b lo w n k) (p : Nat) (hp : p = a ∨ p = b) :
    Calls Try.prog 14 #[.pointer (some ⟨p, 0, none⟩)] w fun e w' => e = .returned (.bool (decide ((k : Int) < (n : Int)))) ∧ Tri r a b lo w' n (k + 1) ∧ Below lo w w' := by
  obtain ⟨T, h, hN, p0, p1, p2, rfl, rfl, rfl, hl, hs⟩ := h
  obtain ⟨x, hx1, hx3, hpx, rfl⟩ : ∃ x, 1 ≤ x ∧ x < 3 ∧ T.par x = some 0 ∧ T.blk x = p := by
    rcases hp with rfl | rfl
    · exact ⟨1, by omega, by omega, p1, rfl⟩
    · exact ⟨2, by omega, by omega, p2, rfl⟩
  rcases hs with ⟨hk, c0, c1, c2, l0, l1, l1', l2, l2'⟩ | ⟨hk, c0, c1, c2, l0⟩
  · have cx : T.cause x = 0 := by
      obtain rfl | rfl : x = 1 ∨ x = 2 := by omega
      · exact c1
      · exact c2
    by_cases hkn : k < n
    · have lx : T.left x ≠ 0 := by
        obtain rfl | rfl : x = 1 ∨ x = 2 := by omega
        · omega
        · omega
      refine (beat_take w h ?_ x (by omega) cx ?_).mono ?_
      · intro j hj
        rw [hN] at hj
        obtain rfl | rfl | rfl : j = 0 ∨ j = 1 ∨ j = 2 := by omega
        · omega
        · omega
        · omega
      · rw [spent_kid _ _ _ p0 hpx hx1, if_neg (by simp; omega), if_neg (by simp; exact lx)]
      rintro e w1 ⟨rfl, h1, s1⟩
      refine ⟨by simp [hkn], ⟨mTake T x, h1, hN, p0, p1, p2, rfl, rfl, rfl, hl, .inl ⟨by omega, c0, c1, c2, ?_, ?_⟩⟩, one_lo h hl s1⟩
      · show dec T.par T.left x 0 = _
        rw [dec_kid _ _ _ p0 hpx hx1, upd_same]
        omega
      · show _ ≤ dec T.par T.left x 1 ∧ dec T.par T.left x 1 ≤ _ ∧ _ ≤ dec T.par T.left x 2 ∧ dec T.par T.left x 2 ≤ _
        rw [dec_kid _ _ _ p0 hpx hx1, upd_other _ _ (show (1 : Nat) ≠ 0 by omega), upd_other _ _ (show (2 : Nat) ≠ 0 by omega)]
        obtain rfl | rfl : x = 1 ∨ x = 2 := by omega
        · rw [upd_same, upd_other _ _ (show (2 : Nat) ≠ 1 by omega)]
          omega
        · rw [upd_same, upd_other _ _ (show (1 : Nat) ≠ 2 by omega)]
          omega
    · refine (beat_spent w h ?_ x (by omega) cx 0 ?_).mono ?_
      · intro j q hj _ hq
        rw [hN] at hj
        obtain rfl : q = 0 := by
          obtain rfl | rfl | rfl : j = 0 ∨ j = 1 ∨ j = 2 := by omega
          all_goals simp_all
        exact absurd c0 hq
      · rw [spent_kid _ _ _ p0 hpx hx1, if_pos (by simp; omega)]
      rintro e w1 ⟨rfl, h1, s1⟩
      obtain ⟨e0, e1, e2⟩ := tri_cause_sw T.par T.cause p0 p1 p2 c1 c2
      refine ⟨by simp; omega, ⟨mSpent T 0, h1, hN, p0, p1, p2, rfl, rfl, rfl, hl, .inr ⟨by omega, ?_, ?_, ?_, ?_⟩⟩, one_lo h hl s1⟩
      · show sw T.par (upd T.cause 0 2) T.n 0 = 2
        rw [hN]; exact e0
      · show sw T.par (upd T.cause 0 2) T.n 1 = 3
        rw [hN]; exact e1
      · show sw T.par (upd T.cause 0 2) T.n 2 = 3
        rw [hN]; exact e2
      · show T.left 0 = 0
        omega
  · have cx : T.cause x ≠ 0 := by
      obtain rfl | rfl : x = 1 ∨ x = 2 := by omega
      · omega
      · omega
    refine (beat_dead w h x (by omega) cx).mono ?_
    rintro e w1 ⟨rfl, h1, s1⟩
    exact ⟨by simp; omega, ⟨T, h1, hN, p0, p1, p2, rfl, rfl, rfl, hl, .inr ⟨by omega, c0, c1, c2, l0⟩⟩, one_lo h hl s1⟩

theorem tri_cause (r a b lo : Nat) (w : World) (n k : Nat) (h : Tri r a b lo w n k) (x : Nat) (v : Int) (hx : (x = r ∧ v = (if k ≤ n then 0 else 2)) ∨ (n < k ∧ (x = a ∨ x = b) ∧ v = 3)) :
    Calls Try.prog 15 #[.pointer (some ⟨x, 0, none⟩)] w fun e w' => e = .returned (.int .i64 v) ∧ Tri r a b lo w' n k ∧ Below lo w w' := by
  obtain ⟨T, h, hN, p0, p1, p2, rfl, rfl, rfl, hl, hs⟩ := h
  obtain ⟨i, hi, rfl, hv⟩ : ∃ i, i < 3 ∧ T.blk i = x ∧ T.cause i = v := by
    rcases hx with ⟨rfl, rfl⟩ | ⟨hk, rfl | rfl, rfl⟩
    · refine ⟨0, by omega, rfl, ?_⟩
      rcases hs with hs | hs
      · rw [if_pos hs.1]; exact hs.2.1
      · rw [if_neg (by omega)]; exact hs.2.1
    · refine ⟨1, by omega, rfl, ?_⟩
      rcases hs with hs | hs
      · omega
      · exact hs.2.2.1
    · refine ⟨2, by omega, rfl, ?_⟩
      rcases hs with hs | hs
      · omega
      · exact hs.2.2.2.1
  refine (cause_val w h i (by omega) _ rfl v hv).mono ?_
  rintro e w1 ⟨rfl, h1, s1⟩
  exact ⟨rfl, ⟨T, h1, hN, p0, p1, p2, rfl, rfl, rfl, hl, hs⟩, one_lo h hl s1⟩
theorem tri_left (r a b lo : Nat) (w : World) (n k : Nat) (h : Tri r a b lo w n k) (v : Int) (hv : v = if k ≤ n then (n : Int) - k else 0) :
    Calls Try.prog 12 #[.pointer (some ⟨r, 0, none⟩)] w fun e w' => e = .returned (.int .i64 v) ∧ Tri r a b lo w' n k ∧ Below lo w w' := by
  obtain ⟨T, h, hN, p0, p1, p2, rfl, rfl, rfl, hl, hs⟩ := h
  have hv : T.left 0 = v := by
    subst hv
    rcases hs with hs | hs
    · rw [if_pos hs.1]; exact hs.2.2.2.2.1
    · rw [if_neg (by omega)]; exact hs.2.2.2.2
  refine (left_val w h 0 (by omega) _ rfl v hv).mono ?_
  rintro e w1 ⟨rfl, h1, s1⟩
  exact ⟨rfl, ⟨T, h1, hN, p0, p1, p2, rfl, rfl, rfl, hl, hs⟩, one_lo h hl s1⟩
end Go.Proofs.Ytkkkndbfokjikaa
