/- What is proved: what Merge answers, whatever it is asked: the first of its errors, or all rows sorted, in memory of its own; the lists are such as memory can hold. -/
import Derived.Test.YtolaeiagfnhllaaTMrg
namespace Go.Proofs.Ytolaeiagfnhllaa
open Go.RowKit

/-- The first fault of several lists. -/
def lookA (order : Int) : List (List RwM) → Int
  | [] => 0
  | l :: L => if lookF order none l = 0 then lookA order L else lookF order none l
theorem lookA_ok {order : Int} : ∀ {L : List (List RwM)}, lookA order L = 0 → ∀ l ∈ L, lookF order none l = 0
  | [], _, l, hl => by cases hl
  | a :: L, h, l, hl => by
    rw [lookA] at h
    by_cases h1 : lookF order none a = 0
    · rw [if_pos h1] at h
      rcases List.mem_cons.1 hl with rfl | hl
      · exact h1
      · exact lookA_ok h l hl
    · rw [if_neg h1] at h
      exact absurd h h1
/-- What Merge answers: a code, and rows. -/
def mgC (order : Int) (L : List (List RwM)) : Int := if order = 1 ∨ order = 2 then (if 1 ≤ L.length ∧ L.length ≤ 64 then lookA order L else 110) else 91
def mgR (order : Int) (L : List (List RwM)) : List RwM := if mgC order L = 0 then srt (bef order) L.flatten else []
theorem drop_at {α : Type} {L : List α} {q : Nat} {l : α} (h : L[q]? = some l) : L.drop q = l :: L.drop (q + 1) := by
  have hq := (List.getElem?_eq_some_iff.1 h).1
  rw [List.drop_eq_getElem_cons hq, (List.getElem?_eq_some_iff.1 h).2]
set_option maxRecDepth 100000 in
theorem merge11_no {order : Int} {n : Nat} {c : Int} (a : Option Addr) (cap : Nat) (w : World) (h : ∀ W, Calls Try.prog 10 #[.int .i64 order, .int .i64 (n : Int)] W fun e w' => e = .returned (.tuple #[.pointer none, .int .i64 c]) ∧ w' = W) (hc : c ≠ 0) :
    Calls Try.prog 14 #[.int .i64 order, .slice a n cap] w fun e w' => e = .returned (.tuple #[.slice none 0 0, .int .i64 c]) ∧ w' = w := by
  have H : Hid _ := h
  have d1 : (c != 0) = true := by simpa using hc
  clear h hc
  go_enter Try.func14, Try.ntmps14
  go_wp2_with fail
  refine Calls.mono (H.out _) ?_
  rintro e w1 ⟨rfl, rfl⟩
  go_wp2_with fail
  go_ret2
  exact ⟨rfl, rfl⟩
set_option maxRecDepth 100000 in
set_option maxHeartbeats 1000000 in
theorem merge11_bad {order : Int} (ho : order = 1 ∨ order = 2) {w : World} {a : Option Addr} {cap : Nat} {L : List (List RwM)} (h0 : 1 ≤ L.length) (h1 : L.length ≤ 64) (hl : ListsAt w a L) (hk : lookA order L ≠ 0) (hn : L.flatten.length ≤ 2199023255552) :
    Calls Try.prog 14 #[.int .i64 order, .slice a L.length cap] w fun e w' => e = .returned (.tuple #[.slice none 0 0, .int .i64 (lookA order L)]) ∧ Kept w w' := by
  have HL : Hid _ := hl
  have HNEW : Hid (Calls _ _ _ _ _) := Tl.new ho h0 h1 (Same.refl _ w)
  have HLOOK : Hid (∀ (l : List RwM) (x : Option Addr) (c : Nat) (W : World), l ∈ L → RowsAt W x l → Calls Try.prog 27 #[.int .i64 order, .slice x l.length c] W fun e w' => e = .returned (.int .i64 (lookF order none l)) ∧ Kept W w') := fun l x c W hm hr => look11 order (cap := c) hr (Nat.le_trans (mem_flat_le hm) hn)
  obtain ⟨n, en⟩ : ∃ n, n = L.length := ⟨_, rfl⟩
  obtain ⟨res, er⟩ : ∃ res, res = lookA order L := ⟨_, rfl⟩
  rw [← er] at hk ⊢
  rw [← en] at HNEW h1 ⊢
  have EN : Hid _ := en
  have HF0 : Hid (res = lookA order (L.drop 0)) := er
  have HK : Hid _ := hk
  clear hl h0 hk hn en ho er
  go_enter Try.func14, Try.ntmps14
  go_wp2_with fail
  refine Calls.mono HNEW.out ?_
  rintro e w1 ⟨b, gs, gn, rfl, t1⟩
  have T1 : Hid _ := t1.kept
  clear t1 HNEW
  go_wp2_with fail
  go_loopw [8, 30] (fun t i wr => ∃ (q : Nat) (z : Int), q ≤ n ∧ i = .int .i64 (q : Int) ∧ t = .int .i64 z ∧ res = lookA order (L.drop q) ∧ Kept w wr) (fun _ i _ => n - (intOf i).toNat)
  case atStart => exact ⟨0, 0, Nat.zero_le _, rfl, rfl, HF0.out, T1.out⟩
  case round =>
    clear T1 HF0
    obtain ⟨q, z, hq, rfl, rfl, hf, kk⟩ := hrel
    by_cases hlt : q < n
    · have e1 : decide ((q : Int) < (n : Int)) = true := decide_eq_true (by omega)
      have e1' : (q : Int) < (n : Int) := by omega
      obtain ⟨l, hlq⟩ : ∃ l, L[q]? = some l := ⟨_, List.getElem?_eq_getElem (by rw [← EN.out]; exact hlt)⟩
      obtain ⟨bb, off, x, c, rfl, hbb, cl, hrow⟩ := (ListsAt.on HL.out kk) q l hlq
      have HK2 : Hid (∀ W, _) := fun W (k : Kept wr W) => HLOOK.out l x c W (List.mem_of_getElem? hlq) (hrow.on k)
      rw [drop_at hlq, lookA] at hf
      have KK : Hid _ := kk
      have HQ : Hid _ := hlt
      by_cases hz : lookF order none l = 0
      · rw [if_pos hz] at hf
        rw [hz] at HK2
        have HF : Hid _ := hf
        generalize l.length = m at *
        clear kk hrow hlq hbb HLOOK hf hz
        go_wp2_with fail
        refine Calls.mono (HK2.out _ (by (repeat (first | assumption | exact Same.refl _ _ | apply Same.alloc | apply Same.drew | apply Same.drewN)); done)) ?_
        rintro e w2 ⟨rfl, k2⟩
        have K2 : Hid _ := KK.out.trans' k2
        clear k2 HK2 cl
        go_wp2_with fail
        go_roundw
        case rel => exact ⟨q + 1, _, HQ.out, by rw [Int.natCast_add]; rfl, rfl, HF.out, K2.out⟩
        case measure => simp only [intOf]; omega
      · rw [if_neg hz] at hf
        have d1 : (lookF order none l != 0) = true := by simpa using hz
        have HF : Hid _ := hf
        generalize lookF order none l = y at *
        generalize l.length = m at *
        clear kk hrow hlq hbb HLOOK hf hz
        go_wp2_with fail
        refine Calls.mono (HK2.out _ (by (repeat (first | assumption | exact Same.refl _ _ | apply Same.alloc | apply Same.drew | apply Same.drewN)); done)) ?_
        rintro e w2 ⟨rfl, k2⟩
        have K2 : Hid _ := KK.out.trans' k2
        clear k2 HK2 cl
        go_wp2_with fail
        go_ret2
        exact ⟨by rw [HF.out]; rfl, K2.out⟩
    · rw [List.drop_of_length_le (by rw [← EN.out]; omega)] at hf
      exact absurd hf HK.out
/-- Merge, whatever it is asked. -/
theorem merge_any (order : Int) {w : World} {a : Option Addr} (cap : Nat) {L : List (List RwM)} (hl : ListsAt w a L) (hn : L.flatten.length ≤ 2199023255552) :
    Calls Try.prog 14 #[.int .i64 order, .slice a L.length cap] w fun e w' => ∃ x c, e = .returned (.tuple #[.slice x (mgR order L).length c, .int .i64 (mgC order L)]) ∧ RowsAt w' x (mgR order L) ∧ Kept w w' := by
  unfold mgR
  by_cases ho : order = 1 ∨ order = 2
  · by_cases h1 : 1 ≤ L.length ∧ L.length ≤ 64
    · have e : mgC order L = lookA order L := by unfold mgC; rw [if_pos ho, if_pos h1]
      rw [e]
      by_cases hk : lookA order L = 0
      · rw [if_pos hk, hk]
        refine Calls.mono (merge11_ok ho (cap := cap) h1.1 h1.2 hl (lookA_ok hk) hn) fun _ w' ⟨v, h2, h3, h4⟩ => ?_
        obtain ⟨x, c, rfl, hr, -⟩ := h3.rows
        exact ⟨x, c, h2, hr, h4⟩
      · rw [if_neg hk]
        exact Calls.mono (merge11_bad ho (cap := cap) h1.1 h1.2 hl hk hn) fun _ w' ⟨h2, h3⟩ => ⟨none, 0, h2, RowsAt.nil _ _, h3⟩
    · have e : mgC order L = 110 := by unfold mgC; rw [if_pos ho, if_neg h1]
      rw [e, if_neg (by decide)]
      exact Calls.mono (merge11_no a cap w (fun W => new11_fan ho (by omega) W) (by decide)) fun _ w' ⟨h2, h3⟩ => ⟨none, 0, h2, RowsAt.nil _ _, by rw [h3]; exact Same.refl _ _⟩
  · have e : mgC order L = 91 := by unfold mgC; rw [if_neg ho]
    rw [e, if_neg (by decide)]
    exact Calls.mono (merge11_no a cap w (fun W => new11_order ho _ W) (by decide)) fun _ w' ⟨h2, h3⟩ => ⟨none, 0, h2, RowsAt.nil _ _, by rw [h3]; exact Same.refl _ _⟩
end Go.Proofs.Ytolaeiagfnhllaa
