/- What is proved: the law LosersTies answers true, for every number of sources. -/
import Derived.Test.YtbjgjgcncdjhcaaTAnch
namespace Go.Proofs.Ytbjgjgcncdjhcaa
open Go.RowKit

/-- The row of source j at time t. -/
def tie (t j : Nat) : RwM := ⟨3, (t : Int), 0, 0, (j : Int), 0, ⟨#[]⟩⟩
/-- As many sources as k, given by their numbers. -/
def gen (k : Nat) (f : Nat → Sr) : List Sr := (List.range k).map f
theorem gen_len (k : Nat) (f : Nat → Sr) : (gen k f).length = k := by simp [gen]
theorem gen_get {k j : Nat} (f : Nat → Sr) (h : j < k) : (gen k f).getD j .wait = f j := by
  rw [getD_at' (by rw [gen_len]; exact h)]
  simp [gen]
theorem gen_set {k i : Nat} (f g : Nat → Sr) (s : Sr) (h1 : g i = s) (h2 : ∀ j, j < k → j ≠ i → g j = f j) : (gen k f).set i s = gen k g := by
  refine List.ext_getElem (by simp [gen]) fun j h3 h4 => ?_
  have hj : j < k := by simpa [gen] using h4
  rw [List.getElem_set]
  by_cases e : i = j
  · subst e; rw [if_pos rfl]; simp [gen, h1]
  · rw [if_neg e]; simp [gen, h2 j hj (Ne.symm e)]
theorem gen_ext {k : Nat} (f g : Nat → Sr) (h : ∀ j, j < k → f j = g j) : gen k f = gen k g := by
  unfold gen
  exact List.map_congr_left fun j hj => h j (List.mem_range.1 hj)
theorem gen_wait (k : Nat) : List.replicate k Sr.wait = gen k fun _ => .wait := by
  refine List.ext_getElem (by simp [gen]) fun j h3 h4 => ?_
  simp [gen]
/-- The sources while the first i of them are fed; while the first i of them have won in round n. -/
def fst1 (k i : Nat) : List Sr := gen k fun j => if j < i then .fed (tie 0 j) else .wait
def rnd1 (k n i : Nat) : List Sr := gen k fun j => .fed (tie (if j < i then n + 1 else n) j)
theorem tie_right {t j : Nat} (ht : t ≤ 64) (hj : j ≤ 64) : rightR (tie t j) := by
  exact ⟨⟨by show (1 : Int) ≤ 3; decide, by show (3 : Int) ≤ 3; decide⟩, ⟨by show (0 : Int) ≤ (t : Int); omega, by show (t : Int) ≤ 1099511627776; omega⟩, ⟨by show (0 : Int) ≤ 0; decide, by show (0 : Int) ≤ 1048575; decide⟩, ⟨by show (0 : Int) ≤ 0; decide, by show (0 : Int) ≤ 4095; decide⟩, ⟨by show (0 : Int) ≤ (j : Int); omega, by show (j : Int) ≤ 1099511627776; omega⟩, ⟨by show (0 : Int) ≤ 0; decide, by show (0 : Int) ≤ 1099511627776; decide⟩, by show (ByteArray.mk #[]).size ≤ 512; decide⟩
theorem bef_tie (t u i j : Nat) : bef 2 (tie t i) (tie u j) = decide (t < u) := by
  rw [Bool.eq_iff_iff, bef_iff, decide_eq_true_iff]
  simp [tie]
theorem win_rnd {k n i : Nat} (h : i < k) : WinR 2 (rnd1 k n i) i (tie n i) 0 ((rnd1 k n i).set i .wait) := by
  refine WinR.ok ?_ (by rw [rnd1, gen_len]; exact h) ?_ fun j hj => ?_
  · rw [wts_zero]
    intro j hj
    rw [rnd1, gen_len] at hj
    rw [rnd1, gen_get _ hj]
    rfl
  · rw [rnd1, gen_get _ h, if_neg (by omega)]
  · rw [rnd1, gen_len] at hj
    unfold bt
    rw [rnd1, gen_get _ hj, gen_get _ h, if_neg (show ¬ i < i by omega)]
    simp only [bef_tie]
    by_cases e : j < i
    · rw [if_pos e, decide_eq_false (show ¬ n + 1 < n by omega), decide_eq_true (show n < n + 1 by omega)]; rfl
    · rw [if_neg e, decide_eq_false (show ¬ n < n by omega), decide_eq_false e]; rfl
theorem step_rnd {k n i : Nat} : ((rnd1 k n i).set i .wait).set i (.fed (tie (n + 1) i)) = rnd1 k n (i + 1) := by
  rw [List.set_set]
  refine gen_set _ _ _ ?_ fun j _ hj => ?_
  · simp
  · by_cases e : j < i
    · rw [if_pos (by omega), if_pos e]
    · rw [if_neg (by omega), if_neg e]
theorem next_rnd (k n : Nat) : rnd1 k n k = rnd1 k (n + 1) 0 := gen_ext _ _ fun j hj => by rw [if_pos hj, if_neg (by omega)]
theorem wtl_rnd (k n i : Nat) : wtl (rnd1 k n i) = [] := by
  unfold wtl wtq
  rw [List.filter_eq_nil_iff.2 fun j hj => ?_]
  · rfl
  · rw [List.mem_range, rnd1, gen_len] at hj
    rw [rnd1, gen_get _ hj]
    simp [Sr.wt]
set_option maxRecDepth 100000 in
set_option maxHeartbeats 1600000 in
theorem ties_law (k : Int) (w : World) : Calls Try.prog 6 #[.int .i64 k] w fun e w' => e = .returned (.bool true) ∧ Kept w w' := by
  have HA : Hid (∀ W, _) := anchor11_any
  by_cases h1 : k < 1
  · have d1 : decide (k < 1) = true := decide_eq_true h1
    go_enter Try.func6, Try.ntmps6
    go_wp2_with fail
    refine Calls.mono (HA.out _) ?_
    rintro e w1 ⟨rfl, k1⟩
    have K1 : Hid _ := k1
    clear k1
    go_wp2_with fail
    go_ret
    exact ⟨rfl, K1.out⟩
  have d1 : decide (k < 1) = false := decide_eq_false h1
  by_cases h2 : 64 < k
  · have d2 : decide (64 < k) = true := decide_eq_true h2
    go_enter Try.func6, Try.ntmps6
    go_wp2_with fail
    refine Calls.mono (HA.out _) ?_
    rintro e w1 ⟨rfl, k1⟩
    have K1 : Hid _ := k1
    clear k1
    go_wp2_with fail
    go_ret
    exact ⟨rfl, K1.out⟩
  have d2 : decide (64 < k) = false := decide_eq_false h2
  obtain ⟨n, rfl⟩ : ∃ n : Nat, k = (n : Int) := ⟨k.toNat, by omega⟩
  have hn1 : 1 ≤ n := by omega
  have hn2 : n ≤ 64 := by omega
  go_enter Try.func6, Try.ntmps6
  go_wp2_with fail
  refine Calls.mono (HA.out _) ?_
  rintro e w1 ⟨rfl, k1⟩
  have HN : Hid _ := Tl.new (order := 2) (.inr rfl) hn1 hn2 k1
  clear k1
  go_wp2_with fail
  refine Calls.mono HN.out ?_
  rintro e w2 ⟨b, gs, gn, rfl, t2⟩
  have T2 : Hid (Tl w w2 b gs gn 2 (fst1 n 0)) := by
    show Tl w w2 b gs gn 2 (fst1 n 0)
    rw [gen_wait] at t2
    rw [fst1, gen_ext _ (fun _ => .wait) fun j _ => by rw [if_neg (by omega)]]
    exact t2
  clear t2 HN HA
  go_wp2_with fail
  go_loopw [5] (fun i wr => ∃ (q : Nat), q ≤ n ∧ i = .int .i64 (q : Int) ∧ Tl w wr b gs gn 2 (fst1 n q)) (fun i _ => n - (intOf i).toNat)
  case atStart => exact ⟨0, Nat.zero_le _, rfl, T2.out⟩
  case round =>
    clear T2
    obtain ⟨q, hq, rfl, tl⟩ := hrel
    by_cases hlt : q < n
    · have e1 : decide ((q : Int) < (n : Int)) = true := decide_eq_true (by omega)
      have e1' : (q : Int) < (n : Int) := by omega
      have HF : Hid _ := tl.feedOk (Same.refl _ _) (i := (q : Int)) (n := q) (r := tie 0 q) rfl (by rw [fst1, gen_len]; exact hlt) (by rw [fst1, gen_get _ hlt, if_neg (by omega)]; rfl) (tie_right (by omega) (by omega))
      rw [show rowV (tie 0 q) = .agg #[.int .i64 3, .int .i64 0, .int .i64 0, .int .i64 0, .int .i64 (q : Int), .int .i64 0, .string ⟨#[]⟩] from rfl, show (fst1 n q).set q (.fed (tie 0 q)) = fst1 n (q + 1) from gen_set _ _ _ (by simp) fun j _ hj => by
        by_cases e : j < q
        · rw [if_pos (by omega), if_pos e]
        · rw [if_neg (by omega), if_neg e]] at HF
      have hlt2 : Hid _ := hlt
      clear tl
      go_wp2_with fail
      refine Calls.mono HF.out ?_
      rintro e w3 ⟨rfl, t3, -⟩
      have T3 : Hid _ := t3
      clear t3 HF
      go_wp2_with fail
      go_roundw
      case rel => exact ⟨q + 1, hlt2.out, by rw [Int.natCast_add]; rfl, T3.out⟩
      case measure => simp only [intOf]; omega
    · obtain rfl : n = q := by omega
      have e1 : decide ((n : Int) < (n : Int)) = false := by simp
      have T3 : Hid (Tl w wr b gs gn 2 (rnd1 n 0 0)) := by
        show Tl w wr b gs gn 2 (rnd1 n 0 0)
        rw [rnd1, ← gen_ext (fun j => if j < n then .fed (tie 0 j) else .wait) _ fun j hj => by rw [if_pos hj, if_neg (by omega)]]
        exact tl
      clear tl
      go_wp2_with fail
      go_loopw [6] (fun i wr => ∃ (m : Nat), m ≤ 4 ∧ i = .int .i64 (m : Int) ∧ Tl w wr b gs gn 2 (rnd1 n m 0)) (fun i _ => 4 - (intOf i).toNat)
      case atStart => exact ⟨0, by omega, rfl, T3.out⟩
      case round =>
        clear T3
        obtain ⟨m, hm, rfl, tl⟩ := hrel
        have TL : Hid _ := tl
        by_cases hlt : m < 4
        · have e2 : decide ((m : Int) < 4) = true := decide_eq_true (by omega)
          have e2' : (m : Int) < 4 := by omega
          have hlt2 : Hid _ := hlt
          clear tl
          go_wp2_with fail
          go_loopw [7] (fun i wr => ∃ (q : Nat), q ≤ n ∧ i = .int .i64 (q : Int) ∧ Tl w wr b gs gn 2 (rnd1 n m q)) (fun i _ => n - (intOf i).toNat)
          case atStart => exact ⟨0, Nat.zero_le _, rfl, TL.out⟩
          case round =>
            clear TL
            obtain ⟨q, hq, rfl, tl⟩ := hrel
            by_cases hlq : q < n
            · have e1 : decide ((q : Int) < (n : Int)) = true := decide_eq_true (by omega)
              have e1' : (q : Int) < (n : Int) := by omega
              have HW : Hid _ := tl.win (Same.refl _ _) (win_rnd (n := m) hlq)
              rw [show rowV (tie m q) = .agg #[.int .i64 3, .int .i64 (m : Int), .int .i64 0, .int .i64 0, .int .i64 (q : Int), .int .i64 0, .string ⟨#[]⟩] from rfl] at HW
              have hlq2 : Hid _ := hlq
              clear tl
              go_wp2_with fail
              refine Calls.mono HW.out ?_
              rintro e w3 ⟨rfl, t3, -⟩
              have HF : Hid (∀ W, Kept w3 W → _) := fun W (k : Kept w3 W) => t3.feedOk k (i := (q : Int)) (n := q) (r := tie (m + 1) q) rfl (by rw [List.length_set, rnd1, gen_len]; exact hlq) (by rw [getD_set_eq' (by rw [rnd1, gen_len]; exact hlq)]; rfl) (tie_right (by omega) (by omega))
              rw [show rowV (tie (m + 1) q) = .agg #[.int .i64 3, .int .i64 ((m : Int) + 1), .int .i64 0, .int .i64 0, .int .i64 (q : Int), .int .i64 0, .string ⟨#[]⟩] from rfl, step_rnd] at HF
              clear t3 HW
              go_wp2_with fail
              refine Calls.mono (HF.out _ ((Same.refl _ _).alloc _)) ?_
              rintro e w4 ⟨rfl, t4, -⟩
              have T4 : Hid _ := t4
              clear t4 HF
              go_wp2_with fail
              go_roundw
              case rel => exact ⟨q + 1, hlq2.out, by rw [Int.natCast_add]; rfl, T4.out⟩
              case measure => simp only [intOf]; omega
            · obtain rfl : n = q := by omega
              have e1 : decide ((n : Int) < (n : Int)) = false := by simp
              have T5 : Hid _ := tl
              rw [next_rnd] at T5
              clear tl
              go_wp2_with fail
              go_roundw
              case rel => exact ⟨m + 1, hlt2.out, by rw [Int.natCast_add]; rfl, T5.out⟩
              case measure => simp only [intOf]; omega
        · obtain rfl : m = 4 := by omega
          have HW : Hid _ := tl.waits (Same.refl _ _)
          rw [wtl_rnd] at HW
          have K : Hid _ := tl.kept
          clear tl TL
          go_wp2_with fail
          refine Calls.mono HW.out ?_
          rintro e w5 ⟨v, rfl, o5, k5⟩
          obtain ⟨a, cap, rfl, -, -, -⟩ := OwnZ.nums o5
          have K5 : Hid _ := K.out.trans' k5
          clear o5 k5 HW
          simp only [List.length_nil]
          go_wp2_with fail
          go_ret
          exact ⟨rfl, K5.out⟩
end Go.Proofs.Ytbjgjgcncdjhcaa
