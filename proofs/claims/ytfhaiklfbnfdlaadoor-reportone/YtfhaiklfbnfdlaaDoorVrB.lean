/- What is proved: the package's Valid of a violation and the document's Valid and Before; whether two violations are the same; no condition. -/
import Derived.Test.YtfhaiklfbnfdlaaDoorVrA
namespace Go.Proofs.YtfhaiklfbnfdlaaDoor.Vi
open Go.RowKit

abbrev OwnV (base : Nat) (w : World) (v : Value) (l : List Vl) : Prop := Own vl1 12 41 base w v l
/-- Between two bounds. -/
def wi (n a b : Int) : Bool := decide (n ≥ a) && decide (n ≤ b)
theorem wi_iff {n a b : Int} : wi n a b = true ↔ a ≤ n ∧ n ≤ b := by simp [wi]
set_option maxRecDepth 100000 in
theorem within18 (n a b : Int) (w : World) : Calls Tryd.prog 59 #[.int .i64 n, .int .i64 a, .int .i64 b] w fun e w' => e = .returned (.bool (wi n a b)) ∧ w' = w := by
  unfold wi
  by_cases h : n ≥ a
  · have d : decide (n ≥ a) = true := decide_eq_true h
    have d' : a ≤ n := h
    generalize hb : decide (n ≤ b) = c
    have HB : Hid (decide (n ≤ b) = c) := hb
    cases c with
    | true =>
      have d2 : n ≤ b := of_decide_eq_true hb
      go_enter Tryd.func59, Tryd.ntmps59
      go_wp2_with fail
      go_ret
      exact ⟨by simp [d'], rfl⟩
    | false =>
      have d2 : ¬ n ≤ b := of_decide_eq_false hb
      go_enter Tryd.func59, Tryd.ntmps59
      go_wp2_with fail
      go_ret
      exact ⟨by simp, rfl⟩
  · have d : decide (n ≥ a) = false := decide_eq_false h
    have d' : ¬ a ≤ n := h
    go_enter Tryd.func59, Tryd.ntmps59
    go_wp2_with fail
    go_ret
    exact ⟨by simp, rfl⟩
set_option maxRecDepth 100000 in
theorem isTime18 (n : Int) (w : World) : Calls Tryd.prog 60 #[.int .i64 n] w fun e w' => e = .returned (.bool (wi n 0 1099511627776)) ∧ w' = w := by
  have H : Hid (∀ W, _) := fun W => within18 n 0 1099511627776 W
  generalize wi n 0 1099511627776 = b at *
  go_enter Tryd.func60, Tryd.ntmps60
  go_wp2_with fail
  refine Calls.mono (H.out _) ?_
  rintro r w1 ⟨rfl, rfl⟩
  go_wp2_with fail
  go_ret
  exact ⟨rfl, rfl⟩
/-- A text where there is a value, or none. -/
def iv (th : Bool) (t : ByteArray) : Bool := decide (t.size ≤ 16) && (th || decide (t.size = 0))
theorem size_zero {t : ByteArray} (h : t.size = 0) : t = ByteArray.empty := by
  obtain ⟨d⟩ := t
  have : d = #[] := Array.eq_empty_of_size_eq_zero h
  subst this
  rfl
set_option maxRecDepth 100000 in
theorem isValue18 (th : Bool) (t : ByteArray) (w : World) : Calls Tryd.prog 61 #[.bool th, .string t] w fun e w' => e = .returned (.bool (iv th t)) ∧ w' = w := by
  by_cases h : t.size ≤ 16
  · have d : decide ((t.size : Int) ≤ 16) = true := decide_eq_true (by omega)
    have d' : (t.size : Int) ≤ 16 := by omega
    cases th with
    | true =>
      go_enter Tryd.func61, Tryd.ntmps61
      go_wp2_with fail
      go_ret
      exact ⟨by simp [iv, h], rfl⟩
    | false =>
      by_cases h0 : t.size = 0
      · obtain rfl := size_zero h0
        go_enter Tryd.func61, Tryd.ntmps61
        go_wp2_with fail
        go_ret
        exact ⟨by first | rfl | simp [iv], rfl⟩
      · have d2 : ¬ t = ByteArray.empty := fun e => h0 (by rw [e]; rfl)
        go_enter Tryd.func61, Tryd.ntmps61
        go_wp2_with fail
        go_ret
        exact ⟨by simp [iv, h0, d2, toList_nil_iff_emptyBytes], rfl⟩
  · have d : decide ((t.size : Int) ≤ 16) = false := decide_eq_false (by omega)
    have d' : ¬ (t.size : Int) ≤ 16 := by omega
    go_enter Tryd.func61, Tryd.ntmps61
    go_wp2_with fail
    go_ret
    exact ⟨by simp [iv, h], rfl⟩
/-- A violation is right. -/
def okV (x : Vl) : Bool := wi x.kd 1 10 && wi x.tm 0 1099511627776 && wi x.fr 0 1099511627776 && wi x.tt 0 1099511627776 && wi x.tx 0 4095 && wi x.wi (-1) 4095 && wi x.op (-1) 15 && decide (x.key.size ≤ 8) && iv x.wa x.ex && iv x.go x.ob
theorem vl_cells {w : World} {g : Nat} {x : Vl} {ty : TypeId} (h : w.heap[g]? = some (.cells #[.int .i64 x.kd, .int .i64 x.tm, .int .i64 x.tx, .int .i64 x.op, .int .i64 x.wi, .string x.key, .bool x.wa, .string x.ex, .bool x.go, .string x.ob, .int .i64 x.fr, .int .i64 x.tt] ty (0, 0))) : w.cell? ⟨g, 0, none⟩ = some (.int .i64 x.kd) ∧ w.cell? ⟨g, 1, none⟩ = some (.int .i64 x.tm) ∧ w.cell? ⟨g, 2, none⟩ = some (.int .i64 x.tx) ∧ w.cell? ⟨g, 3, none⟩ = some (.int .i64 x.op) ∧ w.cell? ⟨g, 4, none⟩ = some (.int .i64 x.wi) ∧ w.cell? ⟨g, 5, none⟩ = some (.string x.key) ∧ w.cell? ⟨g, 6, none⟩ = some (.bool x.wa) ∧ w.cell? ⟨g, 7, none⟩ = some (.string x.ex) ∧ w.cell? ⟨g, 8, none⟩ = some (.bool x.go) ∧ w.cell? ⟨g, 9, none⟩ = some (.string x.ob) ∧ w.cell? ⟨g, 10, none⟩ = some (.int .i64 x.fr) ∧ w.cell? ⟨g, 11, none⟩ = some (.int .i64 x.tt) :=
  ⟨(cell_of h 0).trans rfl, (cell_of h 1).trans rfl, (cell_of h 2).trans rfl, (cell_of h 3).trans rfl, (cell_of h 4).trans rfl, (cell_of h 5).trans rfl, (cell_of h 6).trans rfl, (cell_of h 7).trans rfl, (cell_of h 8).trans rfl, (cell_of h 9).trans rfl, (cell_of h 10).trans rfl, (cell_of h 11).trans rfl⟩
set_option maxRecDepth 100000 in
set_option maxHeartbeats 3200000 in
theorem valid18 (x : Vl) (w : World) : Calls Tryd.prog 43 #[vlV x] w fun e w' => e = .returned (.bool (okV x)) ∧ w' = w.alloc (vlO x) := by
  obtain ⟨kd, tm, tx, op, wit, key, wa, ex, gg, ob, fr, tt⟩ := x
  unfold okV vlV vlO
  simp only
  have H0 : Hid (∀ W, _) := fun W => within18 kd 1 10 W
  have H1 : Hid (∀ W, _) := fun W => isTime18 tm W
  have H2 : Hid (∀ W, _) := fun W => isTime18 fr W
  have H3 : Hid (∀ W, _) := fun W => isTime18 tt W
  have H4 : Hid (∀ W, _) := fun W => within18 tx 0 4095 W
  have H5 : Hid (∀ W, _) := fun W => within18 wit (-1) 4095 W
  have H6 : Hid (∀ W, _) := fun W => within18 op (-1) 15 W
  have H8 : Hid (∀ W, _) := fun W => isValue18 wa ex W
  have H9 : Hid (∀ W, _) := fun W => isValue18 gg ob W
  generalize wi kd 1 10 = b0 at *
  generalize wi tm 0 1099511627776 = b1 at *
  generalize wi fr 0 1099511627776 = b2 at *
  generalize wi tt 0 1099511627776 = b3 at *
  generalize wi tx 0 4095 = b4 at *
  generalize wi wit (-1) 4095 = b5 at *
  generalize wi op (-1) 15 = b6 at *
  generalize iv wa ex = b8 at *
  generalize iv gg ob = b9 at *
  cases b0 with
  | false =>
    go_enter Tryd.func43, Tryd.ntmps43
    go_wp2_with fail
    refine Calls.mono (H0.out _) ?_
    rintro r w1 ⟨rfl, rfl⟩
    go_wp2_with fail
    go_ret
    exact ⟨by simp, rfl⟩
  | true =>
    cases b1 with
    | false =>
      go_enter Tryd.func43, Tryd.ntmps43
      go_wp2_with fail
      refine Calls.mono (H0.out _) ?_
      rintro r w1 ⟨rfl, rfl⟩
      go_wp2_with fail
      refine Calls.mono (H1.out _) ?_
      rintro r w1 ⟨rfl, rfl⟩
      go_wp2_with fail
      go_ret
      exact ⟨by simp, rfl⟩
    | true =>
      cases b2 with
      | false =>
        go_enter Tryd.func43, Tryd.ntmps43
        go_wp2_with fail
        refine Calls.mono (H0.out _) ?_
        rintro r w1 ⟨rfl, rfl⟩
        go_wp2_with fail
        refine Calls.mono (H1.out _) ?_
        rintro r w1 ⟨rfl, rfl⟩
        go_wp2_with fail
        refine Calls.mono (H2.out _) ?_
        rintro r w1 ⟨rfl, rfl⟩
        go_wp2_with fail
        go_ret
        exact ⟨by simp, rfl⟩
      | true =>
        cases b3 with
        | false =>
          go_enter Tryd.func43, Tryd.ntmps43
          go_wp2_with fail
          refine Calls.mono (H0.out _) ?_
          rintro r w1 ⟨rfl, rfl⟩
          go_wp2_with fail
          refine Calls.mono (H1.out _) ?_
          rintro r w1 ⟨rfl, rfl⟩
          go_wp2_with fail
          refine Calls.mono (H2.out _) ?_
          rintro r w1 ⟨rfl, rfl⟩
          go_wp2_with fail
          refine Calls.mono (H3.out _) ?_
          rintro r w1 ⟨rfl, rfl⟩
          go_wp2_with fail
          go_ret
          exact ⟨by simp, rfl⟩
        | true =>
          cases b4 with
          | false =>
            go_enter Tryd.func43, Tryd.ntmps43
            go_wp2_with fail
            refine Calls.mono (H0.out _) ?_
            rintro r w1 ⟨rfl, rfl⟩
            go_wp2_with fail
            refine Calls.mono (H1.out _) ?_
            rintro r w1 ⟨rfl, rfl⟩
            go_wp2_with fail
            refine Calls.mono (H2.out _) ?_
            rintro r w1 ⟨rfl, rfl⟩
            go_wp2_with fail
            refine Calls.mono (H3.out _) ?_
            rintro r w1 ⟨rfl, rfl⟩
            go_wp2_with fail
            refine Calls.mono (H4.out _) ?_
            rintro r w1 ⟨rfl, rfl⟩
            go_wp2_with fail
            go_ret
            exact ⟨by simp, rfl⟩
          | true =>
            cases b5 with
            | false =>
              go_enter Tryd.func43, Tryd.ntmps43
              go_wp2_with fail
              refine Calls.mono (H0.out _) ?_
              rintro r w1 ⟨rfl, rfl⟩
              go_wp2_with fail
              refine Calls.mono (H1.out _) ?_
              rintro r w1 ⟨rfl, rfl⟩
              go_wp2_with fail
              refine Calls.mono (H2.out _) ?_
              rintro r w1 ⟨rfl, rfl⟩
              go_wp2_with fail
              refine Calls.mono (H3.out _) ?_
              rintro r w1 ⟨rfl, rfl⟩
              go_wp2_with fail
              refine Calls.mono (H4.out _) ?_
              rintro r w1 ⟨rfl, rfl⟩
              go_wp2_with fail
              refine Calls.mono (H5.out _) ?_
              rintro r w1 ⟨rfl, rfl⟩
              go_wp2_with fail
              go_ret
              exact ⟨by simp, rfl⟩
            | true =>
              cases b6 with
              | false =>
                go_enter Tryd.func43, Tryd.ntmps43
                go_wp2_with fail
                refine Calls.mono (H0.out _) ?_
                rintro r w1 ⟨rfl, rfl⟩
                go_wp2_with fail
                refine Calls.mono (H1.out _) ?_
                rintro r w1 ⟨rfl, rfl⟩
                go_wp2_with fail
                refine Calls.mono (H2.out _) ?_
                rintro r w1 ⟨rfl, rfl⟩
                go_wp2_with fail
                refine Calls.mono (H3.out _) ?_
                rintro r w1 ⟨rfl, rfl⟩
                go_wp2_with fail
                refine Calls.mono (H4.out _) ?_
                rintro r w1 ⟨rfl, rfl⟩
                go_wp2_with fail
                refine Calls.mono (H5.out _) ?_
                rintro r w1 ⟨rfl, rfl⟩
                go_wp2_with fail
                refine Calls.mono (H6.out _) ?_
                rintro r w1 ⟨rfl, rfl⟩
                go_wp2_with fail
                go_ret
                exact ⟨by simp, rfl⟩
              | true =>
                by_cases h7 : key.size ≤ 8
                · have d7 : decide ((key.size : Int) ≤ 8) = true := decide_eq_true (by omega)
                  have d7' : (key.size : Int) ≤ 8 := by omega
                  cases b8 with
                  | false =>
                    go_enter Tryd.func43, Tryd.ntmps43
                    go_wp2_with fail
                    refine Calls.mono (H0.out _) ?_
                    rintro r w1 ⟨rfl, rfl⟩
                    go_wp2_with fail
                    refine Calls.mono (H1.out _) ?_
                    rintro r w1 ⟨rfl, rfl⟩
                    go_wp2_with fail
                    refine Calls.mono (H2.out _) ?_
                    rintro r w1 ⟨rfl, rfl⟩
                    go_wp2_with fail
                    refine Calls.mono (H3.out _) ?_
                    rintro r w1 ⟨rfl, rfl⟩
                    go_wp2_with fail
                    refine Calls.mono (H4.out _) ?_
                    rintro r w1 ⟨rfl, rfl⟩
                    go_wp2_with fail
                    refine Calls.mono (H5.out _) ?_
                    rintro r w1 ⟨rfl, rfl⟩
                    go_wp2_with fail
                    refine Calls.mono (H6.out _) ?_
                    rintro r w1 ⟨rfl, rfl⟩
                    go_wp2_with fail
                    refine Calls.mono (H8.out _) ?_
                    rintro r w1 ⟨rfl, rfl⟩
                    go_wp2_with fail
                    go_ret
                    exact ⟨by simp [h7], rfl⟩
                  | true =>
                    go_enter Tryd.func43, Tryd.ntmps43
                    go_wp2_with fail
                    refine Calls.mono (H0.out _) ?_
                    rintro r w1 ⟨rfl, rfl⟩
                    go_wp2_with fail
                    refine Calls.mono (H1.out _) ?_
                    rintro r w1 ⟨rfl, rfl⟩
                    go_wp2_with fail
                    refine Calls.mono (H2.out _) ?_
                    rintro r w1 ⟨rfl, rfl⟩
                    go_wp2_with fail
                    refine Calls.mono (H3.out _) ?_
                    rintro r w1 ⟨rfl, rfl⟩
                    go_wp2_with fail
                    refine Calls.mono (H4.out _) ?_
                    rintro r w1 ⟨rfl, rfl⟩
                    go_wp2_with fail
                    refine Calls.mono (H5.out _) ?_
                    rintro r w1 ⟨rfl, rfl⟩
                    go_wp2_with fail
                    refine Calls.mono (H6.out _) ?_
                    rintro r w1 ⟨rfl, rfl⟩
                    go_wp2_with fail
                    refine Calls.mono (H8.out _) ?_
                    rintro r w1 ⟨rfl, rfl⟩
                    go_wp2_with fail
                    refine Calls.mono (H9.out _) ?_
                    rintro r w1 ⟨rfl, rfl⟩
                    go_wp2_with fail
                    go_ret
                    exact ⟨by simp [h7], rfl⟩
                · have d7 : decide ((key.size : Int) ≤ 8) = false := decide_eq_false (by omega)
                  have d7' : ¬ (key.size : Int) ≤ 8 := by omega
                  go_enter Tryd.func43, Tryd.ntmps43
                  go_wp2_with fail
                  refine Calls.mono (H0.out _) ?_
                  rintro r w1 ⟨rfl, rfl⟩
                  go_wp2_with fail
                  refine Calls.mono (H1.out _) ?_
                  rintro r w1 ⟨rfl, rfl⟩
                  go_wp2_with fail
                  refine Calls.mono (H2.out _) ?_
                  rintro r w1 ⟨rfl, rfl⟩
                  go_wp2_with fail
                  refine Calls.mono (H3.out _) ?_
                  rintro r w1 ⟨rfl, rfl⟩
                  go_wp2_with fail
                  refine Calls.mono (H4.out _) ?_
                  rintro r w1 ⟨rfl, rfl⟩
                  go_wp2_with fail
                  refine Calls.mono (H5.out _) ?_
                  rintro r w1 ⟨rfl, rfl⟩
                  go_wp2_with fail
                  refine Calls.mono (H6.out _) ?_
                  rintro r w1 ⟨rfl, rfl⟩
                  go_wp2_with fail
                  go_ret
                  exact ⟨by simp [h7], rfl⟩
theorem okV_iff (x : Vl) : okV x = true ↔ ((1 ≤ x.kd ∧ x.kd ≤ 10) ∧ (0 ≤ x.tm ∧ x.tm ≤ 1099511627776) ∧ (0 ≤ x.fr ∧ x.fr ≤ 1099511627776) ∧ (0 ≤ x.tt ∧ x.tt ≤ 1099511627776) ∧ (0 ≤ x.tx ∧ x.tx ≤ 4095) ∧ (-1 ≤ x.wi ∧ x.wi ≤ 4095) ∧ (-1 ≤ x.op ∧ x.op ≤ 15) ∧ x.key.size ≤ 8 ∧ (x.ex.size ≤ 16 ∧ (x.wa = true ∨ x.ex.size = 0)) ∧ (x.ob.size ≤ 16 ∧ (x.go = true ∨ x.ob.size = 0))) := by
  unfold okV iv
  simp only [Bool.and_eq_true, Bool.or_eq_true, wi_iff, decide_eq_true_eq, and_assoc]
theorem okV_no {x : Vl} (h : ¬ okV x = true) : okV x = false := by simpa using h
set_option maxRecDepth 100000 in
set_option maxHeartbeats 6400000 in
theorem rvalid18 (x : Vl) (w : World) : Calls Tryd.prog 18 #[vlV x] w fun e w' => e = .returned (.bool (okV x)) ∧ w' = w.alloc (vlO x) := by
  have HY : Hid _ := (okV_iff x)
  have HN : Hid _ := @okV_no x
  unfold vlV vlO
  obtain ⟨kd, tm, tx, op, wit, key, wa, ex, gg, ob, fr, tt⟩ := x
  simp only at HY ⊢
  obtain ⟨b, eb⟩ : ∃ b, b = okV ⟨kd, tm, tx, op, wit, key, wa, ex, gg, ob, fr, tt⟩ := ⟨_, rfl⟩
  rw [← eb] at HY HN ⊢
  clear eb
  by_cases h0 : kd < 1
  · have d0 : decide (kd < 1) = true := decide_eq_true h0
    have EB : Hid (b = false) := HN.out (fun h => by have := HY.out.1 h; omega)
    go_enter Tryd.func18, Tryd.ntmps18
    go_wp2_with fail
    go_ret
    exact ⟨by rw [EB.out]; rfl, rfl⟩
  · have d0 : decide (kd < 1) = false := decide_eq_false h0
    by_cases h1 : 10 < kd
    · have d1 : decide (10 < kd) = true := decide_eq_true h1
      have EB : Hid (b = false) := HN.out (fun h => by have := HY.out.1 h; omega)
      go_enter Tryd.func18, Tryd.ntmps18
      go_wp2_with fail
      go_ret
      exact ⟨by rw [EB.out]; rfl, rfl⟩
    · have d1 : decide (10 < kd) = false := decide_eq_false h1
      by_cases h2 : tx < 0
      · have d2 : decide (tx < 0) = true := decide_eq_true h2
        have EB : Hid (b = false) := HN.out (fun h => by have := HY.out.1 h; omega)
        go_enter Tryd.func18, Tryd.ntmps18
        go_wp2_with fail
        go_ret
        exact ⟨by rw [EB.out]; rfl, rfl⟩
      · have d2 : decide (tx < 0) = false := decide_eq_false h2
        by_cases h3 : 4095 < tx
        · have d3 : decide (4095 < tx) = true := decide_eq_true h3
          have EB : Hid (b = false) := HN.out (fun h => by have := HY.out.1 h; omega)
          go_enter Tryd.func18, Tryd.ntmps18
          go_wp2_with fail
          go_ret
          exact ⟨by rw [EB.out]; rfl, rfl⟩
        · have d3 : decide (4095 < tx) = false := decide_eq_false h3
          by_cases h4 : wit < -1
          · have d4 : decide (wit < -1) = true := decide_eq_true h4
            have EB : Hid (b = false) := HN.out (fun h => by have := HY.out.1 h; omega)
            go_enter Tryd.func18, Tryd.ntmps18
            go_wp2_with fail
            go_ret
            exact ⟨by rw [EB.out]; rfl, rfl⟩
          · have d4 : decide (wit < -1) = false := decide_eq_false h4
            by_cases h5 : 4095 < wit
            · have d5 : decide (4095 < wit) = true := decide_eq_true h5
              have EB : Hid (b = false) := HN.out (fun h => by have := HY.out.1 h; omega)
              go_enter Tryd.func18, Tryd.ntmps18
              go_wp2_with fail
              go_ret
              exact ⟨by rw [EB.out]; rfl, rfl⟩
            · have d5 : decide (4095 < wit) = false := decide_eq_false h5
              by_cases h6 : op < -1
              · have d6 : decide (op < -1) = true := decide_eq_true h6
                have EB : Hid (b = false) := HN.out (fun h => by have := HY.out.1 h; omega)
                go_enter Tryd.func18, Tryd.ntmps18
                go_wp2_with fail
                go_ret
                exact ⟨by rw [EB.out]; rfl, rfl⟩
              · have d6 : decide (op < -1) = false := decide_eq_false h6
                by_cases h7 : 15 < op
                · have d7 : decide (15 < op) = true := decide_eq_true h7
                  have EB : Hid (b = false) := HN.out (fun h => by have := HY.out.1 h; omega)
                  go_enter Tryd.func18, Tryd.ntmps18
                  go_wp2_with fail
                  go_ret
                  exact ⟨by rw [EB.out]; rfl, rfl⟩
                · have d7 : decide (15 < op) = false := decide_eq_false h7
                  by_cases h8 : tm < 0
                  · have d8 : decide (tm < 0) = true := decide_eq_true h8
                    have EB : Hid (b = false) := HN.out (fun h => by have := HY.out.1 h; omega)
                    go_enter Tryd.func18, Tryd.ntmps18
                    go_wp2_with fail
                    go_ret
                    exact ⟨by rw [EB.out]; rfl, rfl⟩
                  · have d8 : decide (tm < 0) = false := decide_eq_false h8
                    by_cases h9 : 1099511627776 < tm
                    · have d9 : decide (1099511627776 < tm) = true := decide_eq_true h9
                      have EB : Hid (b = false) := HN.out (fun h => by have := HY.out.1 h; omega)
                      go_enter Tryd.func18, Tryd.ntmps18
                      go_wp2_with fail
                      go_ret
                      exact ⟨by rw [EB.out]; rfl, rfl⟩
                    · have d9 : decide (1099511627776 < tm) = false := decide_eq_false h9
                      by_cases h10 : fr < 0
                      · have d10 : decide (fr < 0) = true := decide_eq_true h10
                        have EB : Hid (b = false) := HN.out (fun h => by have := HY.out.1 h; omega)
                        go_enter Tryd.func18, Tryd.ntmps18
                        go_wp2_with fail
                        go_ret
                        exact ⟨by rw [EB.out]; rfl, rfl⟩
                      · have d10 : decide (fr < 0) = false := decide_eq_false h10
                        by_cases h11 : 1099511627776 < fr
                        · have d11 : decide (1099511627776 < fr) = true := decide_eq_true h11
                          have EB : Hid (b = false) := HN.out (fun h => by have := HY.out.1 h; omega)
                          go_enter Tryd.func18, Tryd.ntmps18
                          go_wp2_with fail
                          go_ret
                          exact ⟨by rw [EB.out]; rfl, rfl⟩
                        · have d11 : decide (1099511627776 < fr) = false := decide_eq_false h11
                          by_cases h12 : tt < 0
                          · have d12 : decide (tt < 0) = true := decide_eq_true h12
                            have EB : Hid (b = false) := HN.out (fun h => by have := HY.out.1 h; omega)
                            go_enter Tryd.func18, Tryd.ntmps18
                            go_wp2_with fail
                            go_ret
                            exact ⟨by rw [EB.out]; rfl, rfl⟩
                          · have d12 : decide (tt < 0) = false := decide_eq_false h12
                            by_cases h13 : 1099511627776 < tt
                            · have d13 : decide (1099511627776 < tt) = true := decide_eq_true h13
                              have EB : Hid (b = false) := HN.out (fun h => by have := HY.out.1 h; omega)
                              go_enter Tryd.func18, Tryd.ntmps18
                              go_wp2_with fail
                              go_ret
                              exact ⟨by rw [EB.out]; rfl, rfl⟩
                            · have d13 : decide (1099511627776 < tt) = false := decide_eq_false h13
                              by_cases h14 : (8 : Int) < (key.size : Int)
                              · have d14 : decide ((8 : Int) < (key.size : Int)) = true := decide_eq_true h14
                                have EB : Hid (b = false) := HN.out (fun h => by have := HY.out.1 h; omega)
                                go_enter Tryd.func18, Tryd.ntmps18
                                go_wp2_with fail
                                go_ret
                                exact ⟨by rw [EB.out]; rfl, rfl⟩
                              · have d14 : decide ((8 : Int) < (key.size : Int)) = false := decide_eq_false h14
                                by_cases h15 : (16 : Int) < (ex.size : Int)
                                · have d15 : decide ((16 : Int) < (ex.size : Int)) = true := decide_eq_true h15
                                  have EB : Hid (b = false) := HN.out (fun h => by have := HY.out.1 h; omega)
                                  go_enter Tryd.func18, Tryd.ntmps18
                                  go_wp2_with fail
                                  go_ret
                                  exact ⟨by rw [EB.out]; rfl, rfl⟩
                                · have d15 : decide ((16 : Int) < (ex.size : Int)) = false := decide_eq_false h15
                                  by_cases h16 : (16 : Int) < (ob.size : Int)
                                  · have d16 : decide ((16 : Int) < (ob.size : Int)) = true := decide_eq_true h16
                                    have EB : Hid (b = false) := HN.out (fun h => by have := HY.out.1 h; omega)
                                    go_enter Tryd.func18, Tryd.ntmps18
                                    go_wp2_with fail
                                    go_ret
                                    exact ⟨by rw [EB.out]; rfl, rfl⟩
                                  · have d16 : decide ((16 : Int) < (ob.size : Int)) = false := decide_eq_false h16
                                    cases wa with
                                    | false =>
                                      by_cases he : (0 : Int) < (ex.size : Int)
                                      · have EB : Hid (b = false) := HN.out (fun h => by have := (HY.out.1 h).2.2.2.2.2.2.2.2.1.2.resolve_left (by decide); omega)
                                        have dd : decide ((0 : Int) < (ex.size : Int)) = true := decide_eq_true he
                                        go_enter Tryd.func18, Tryd.ntmps18
                                        go_wp2_with fail
                                        go_ret
                                        exact ⟨by rw [EB.out]; rfl, rfl⟩
                                      · have dd : decide ((0 : Int) < (ex.size : Int)) = false := decide_eq_false he
                                        cases gg with
                                        | true =>
                                          have EB : Hid (b = true) := HY.out.2 ⟨⟨by omega, by omega⟩, ⟨by omega, by omega⟩, ⟨by omega, by omega⟩, ⟨by omega, by omega⟩, ⟨by omega, by omega⟩, ⟨by omega, by omega⟩, ⟨by omega, by omega⟩, by omega, ⟨by omega, .inr (by omega)⟩, ⟨by omega, .inl rfl⟩⟩
                                          go_enter Tryd.func18, Tryd.ntmps18
                                          go_wp2_with fail
                                          go_ret
                                          exact ⟨by rw [EB.out]; rfl, rfl⟩
                                        | false =>
                                          by_cases ho : ob.size = 0
                                          · have EB : Hid (b = true) := HY.out.2 ⟨⟨by omega, by omega⟩, ⟨by omega, by omega⟩, ⟨by omega, by omega⟩, ⟨by omega, by omega⟩, ⟨by omega, by omega⟩, ⟨by omega, by omega⟩, ⟨by omega, by omega⟩, by omega, ⟨by omega, .inr (by omega)⟩, ⟨by omega, .inr (by omega)⟩⟩
                                            have ho2 : (ob.size : Int) = 0 := by omega
                                            have ho3 : ((ob.size : Int) == 0) = true := by simp [ho]
                                            go_enter Tryd.func18, Tryd.ntmps18
                                            go_wp2_with fail
                                            go_ret
                                            exact ⟨by rw [EB.out]; rfl, rfl⟩
                                          · have EB : Hid (b = false) := HN.out (fun h => by have := (HY.out.1 h).2.2.2.2.2.2.2.2.2.2.resolve_left (by decide); omega)
                                            have ho2 : ¬ (ob.size : Int) = 0 := by omega
                                            have ho3 : ((ob.size : Int) == 0) = false := by simp [ho]
                                            go_enter Tryd.func18, Tryd.ntmps18
                                            go_wp2_with fail
                                            go_ret
                                            exact ⟨by rw [EB.out]; rfl, rfl⟩
                                    | true =>
                                      cases gg with
                                      | true =>
                                        have EB : Hid (b = true) := HY.out.2 ⟨⟨by omega, by omega⟩, ⟨by omega, by omega⟩, ⟨by omega, by omega⟩, ⟨by omega, by omega⟩, ⟨by omega, by omega⟩, ⟨by omega, by omega⟩, ⟨by omega, by omega⟩, by omega, ⟨by omega, .inl rfl⟩, ⟨by omega, .inl rfl⟩⟩
                                        go_enter Tryd.func18, Tryd.ntmps18
                                        go_wp2_with fail
                                        go_ret
                                        exact ⟨by rw [EB.out]; rfl, rfl⟩
                                      | false =>
                                        by_cases ho : ob.size = 0
                                        · have EB : Hid (b = true) := HY.out.2 ⟨⟨by omega, by omega⟩, ⟨by omega, by omega⟩, ⟨by omega, by omega⟩, ⟨by omega, by omega⟩, ⟨by omega, by omega⟩, ⟨by omega, by omega⟩, ⟨by omega, by omega⟩, by omega, ⟨by omega, .inl rfl⟩, ⟨by omega, .inr (by omega)⟩⟩
                                          have ho2 : (ob.size : Int) = 0 := by omega
                                          have ho3 : ((ob.size : Int) == 0) = true := by simp [ho]
                                          go_enter Tryd.func18, Tryd.ntmps18
                                          go_wp2_with fail
                                          go_ret
                                          exact ⟨by rw [EB.out]; rfl, rfl⟩
                                        · have EB : Hid (b = false) := HN.out (fun h => by have := (HY.out.1 h).2.2.2.2.2.2.2.2.2.2.resolve_left (by decide); omega)
                                          have ho2 : ¬ (ob.size : Int) = 0 := by omega
                                          have ho3 : ((ob.size : Int) == 0) = false := by simp [ho]
                                          go_enter Tryd.func18, Tryd.ntmps18
                                          go_wp2_with fail
                                          go_ret
                                          exact ⟨by rw [EB.out]; rfl, rfl⟩
abbrev a4O (a b c d : Int) : Obj := .cells #[.int .i64 a, .int .i64 b, .int .i64 c, .int .i64 d] 68 (0, 0)
theorem ltV_of (a b : Vl) : ltV a b = (if a.tm ≠ b.tm then decide (a.tm < b.tm) else if a.kd ≠ b.kd then decide (a.kd < b.kd) else if a.tx ≠ b.tx then decide (a.tx < b.tx) else if a.op ≠ b.op then decide (a.op < b.op) else false) := by
  cases h : ltV a b
  · have h' : ¬ ltV a b = true := by rw [h]; decide
    rw [ltV_iff] at h'
    symm
    split
    · exact decide_eq_false (by omega)
    · split
      · exact decide_eq_false (by omega)
      · split
        · exact decide_eq_false (by omega)
        · split
          · exact decide_eq_false (by omega)
          · rfl
  · rw [ltV_iff] at h
    symm
    split
    · exact decide_eq_true (by omega)
    · split
      · exact decide_eq_true (by omega)
      · split
        · exact decide_eq_true (by omega)
        · split
          · exact decide_eq_true (by omega)
          · omega
set_option maxRecDepth 100000 in
set_option maxHeartbeats 3200000 in
theorem before18 (a b : Vl) (w : World) : Calls Tryd.prog 20 #[vlV a, vlV b] w fun e w' => e = .returned (.bool (ltV a b)) ∧ Grw w w' := by
  have mixed : Tryd.prog.follows .mixedOrders = true := by kernel_rfl
  have HLT : Hid _ := ltV_of a b
  have HG : Hid (Grw w ((((w.alloc (vlO a)).alloc (vlO b)).alloc (a4O a.tm a.kd a.tx a.op)).alloc (a4O b.tm b.kd b.tx b.op))) := ((((Grw.refl w).alloc _).alloc _).alloc _).alloc _
  have HX : Hid (((((w.alloc (vlO a)).alloc (vlO b)).alloc (a4O a.tm a.kd a.tx a.op)).alloc (a4O b.tm b.kd b.tx b.op)).heap[w.heap.size + 2]? = some (a4O a.tm a.kd a.tx a.op)) := by
    show _ = _
    rw [heap_old _ _ (by simp only [World.size_alloc]; omega)]
    have := heap_new ((w.alloc (vlO a)).alloc (vlO b)) (a4O a.tm a.kd a.tx a.op)
    simpa only [World.size_alloc] using this
  have HY : Hid (((((w.alloc (vlO a)).alloc (vlO b)).alloc (a4O a.tm a.kd a.tx a.op)).alloc (a4O b.tm b.kd b.tx b.op)).heap[w.heap.size + 3]? = some (a4O b.tm b.kd b.tx b.op)) := by
    have := heap_new (((w.alloc (vlO a)).alloc (vlO b)).alloc (a4O a.tm a.kd a.tx a.op)) (a4O b.tm b.kd b.tx b.op)
    simp only [World.size_alloc] at this
    exact this
  obtain ⟨lt, elt⟩ : ∃ lt, lt = ltV a b := ⟨_, rfl⟩
  rw [← elt] at HLT ⊢
  clear elt
  obtain ⟨kd, tm, tx, op, wit, key, wa, ex, gg, ob, fr, tt⟩ := a
  obtain ⟨kd', tm', tx', op', wit', key', wa', ex', gg', ob', fr', tt'⟩ := b
  unfold vlV
  unfold vlO a4O at HG HX HY
  simp only at HG HX HY HLT ⊢
  go_enter Tryd.func20, Tryd.ntmps20
  go_wp2_with fail
  generalize (((w.alloc _).alloc _).alloc _).alloc _ = W at HG HX HY ⊢
  generalize w.heap.size = g at HX HY ⊢
  go_loopw [7] (fun i wr => ∃ j : Nat, i = .int .i64 (j : Int) ∧ j ≤ 4 ∧ (0 < j → tm = tm') ∧ (1 < j → kd = kd') ∧ (2 < j → tx = tx') ∧ (3 < j → op = op') ∧ Grw W wr) (fun i _ => 4 - (intOf i).toNat)
  case atStart => exact ⟨0, rfl, by omega, by omega, by omega, by omega, by omega, Grw.refl _⟩
  case round =>
    obtain ⟨j, rfl, hj, e0, e1, e2, e3, gw⟩ := hrel
    rename World => WL
    have HW : Hid (Grw W WL) := gw
    have hx := (gw.kept.block _ (lt_of_heap HX.out) (fun e => e)).trans HX.out
    have hy := (gw.kept.block _ (lt_of_heap HY.out) (fun e => e)).trans HY.out
    have hgx := lt_of_heap hx
    have hgy := lt_of_heap hy
    have x0 : WL.cell? ⟨g + 2, 0, none⟩ = some (.int .i64 tm) := (cell_of hx 0).trans rfl
    have y0 : WL.cell? ⟨g + 3, 0, none⟩ = some (.int .i64 tm') := (cell_of hy 0).trans rfl
    have x1 : WL.cell? ⟨g + 2, 1, none⟩ = some (.int .i64 kd) := (cell_of hx 1).trans rfl
    have y1 : WL.cell? ⟨g + 3, 1, none⟩ = some (.int .i64 kd') := (cell_of hy 1).trans rfl
    have x2 : WL.cell? ⟨g + 2, 2, none⟩ = some (.int .i64 tx) := (cell_of hx 2).trans rfl
    have y2 : WL.cell? ⟨g + 3, 2, none⟩ = some (.int .i64 tx') := (cell_of hy 2).trans rfl
    have x3 : WL.cell? ⟨g + 2, 3, none⟩ = some (.int .i64 op) := (cell_of hx 3).trans rfl
    have y3 : WL.cell? ⟨g + 3, 3, none⟩ = some (.int .i64 op') := (cell_of hy 3).trans rfl
    clear hx hy gw
    have hjc : j = 0 ∨ j = 1 ∨ j = 2 ∨ j = 3 ∨ j = 4 := by omega
    rcases hjc with rfl | rfl | rfl | rfl | rfl
    · by_cases he : tm = tm'
      · have hb : (tm != tm') = false := by simp [he]
        have E0 : Hid (tm = tm') := he
        clear e0 e1 e2 e3 he
        go_wp2_with fail
        go_quiet (fail)
        go_wp2_with fail
        go_roundw
        case rel => exact ⟨1, by first | rfl | simp, by omega, fun _ => E0.out, by omega, by omega, by omega, HW.out.trans (by (repeat (first | exact Grw.refl _ | apply Grw.drew | apply Grw.drewN)); done)⟩
        case measure => simp only [intOf]; omega
      · have hb : (tm != tm') = true := by simp [he]
        have HR : Hid (lt = decide (tm < tm')) := by
          show _ = _
          rw [HLT.out]
          simp only [ne_eq]
          rw [if_pos he]
        clear e0 e1 e2 e3 he
        go_wp2_with fail
        go_quiet (fail)
        go_wp2_with fail
        go_quiet (fail)
        go_wp2_with fail
        go_ret
        exact ⟨by rw [HR.out]; first | rfl | simp, HG.out.trans (HW.out.trans (by (repeat (first | exact Grw.refl _ | apply Grw.drew | apply Grw.drewN)); done))⟩
    · by_cases he : kd = kd'
      · have hb : (kd != kd') = false := by simp [he]
        have E0 : Hid (kd = kd') := he
        have Q0 : Hid (tm = tm') := e0 (by omega)
        clear e0 e1 e2 e3 he
        go_wp2_with fail
        go_quiet (fail)
        go_wp2_with fail
        go_roundw
        case rel => exact ⟨2, by first | rfl | simp, by omega, fun _ => Q0.out, fun _ => E0.out, by omega, by omega, HW.out.trans (by (repeat (first | exact Grw.refl _ | apply Grw.drew | apply Grw.drewN)); done)⟩
        case measure => simp only [intOf]; omega
      · have hb : (kd != kd') = true := by simp [he]
        have HR : Hid (lt = decide (kd < kd')) := by
          show _ = _
          rw [HLT.out]
          simp only [ne_eq, e0 (by omega), not_true_eq_false, if_false]
          rw [if_pos he]
        clear e0 e1 e2 e3 he
        go_wp2_with fail
        go_quiet (fail)
        go_wp2_with fail
        go_quiet (fail)
        go_wp2_with fail
        go_ret
        exact ⟨by rw [HR.out]; first | rfl | simp, HG.out.trans (HW.out.trans (by (repeat (first | exact Grw.refl _ | apply Grw.drew | apply Grw.drewN)); done))⟩
    · by_cases he : tx = tx'
      · have hb : (tx != tx') = false := by simp [he]
        have E0 : Hid (tx = tx') := he
        have Q0 : Hid (tm = tm') := e0 (by omega)
        have Q1 : Hid (kd = kd') := e1 (by omega)
        clear e0 e1 e2 e3 he
        go_wp2_with fail
        go_quiet (fail)
        go_wp2_with fail
        go_roundw
        case rel => exact ⟨3, by first | rfl | simp, by omega, fun _ => Q0.out, fun _ => Q1.out, fun _ => E0.out, by omega, HW.out.trans (by (repeat (first | exact Grw.refl _ | apply Grw.drew | apply Grw.drewN)); done)⟩
        case measure => simp only [intOf]; omega
      · have hb : (tx != tx') = true := by simp [he]
        have HR : Hid (lt = decide (tx < tx')) := by
          show _ = _
          rw [HLT.out]
          simp only [ne_eq, e0 (by omega), e1 (by omega), not_true_eq_false, if_false]
          rw [if_pos he]
        clear e0 e1 e2 e3 he
        go_wp2_with fail
        go_quiet (fail)
        go_wp2_with fail
        go_quiet (fail)
        go_wp2_with fail
        go_ret
        exact ⟨by rw [HR.out]; first | rfl | simp, HG.out.trans (HW.out.trans (by (repeat (first | exact Grw.refl _ | apply Grw.drew | apply Grw.drewN)); done))⟩
    · by_cases he : op = op'
      · have hb : (op != op') = false := by simp [he]
        have E0 : Hid (op = op') := he
        have Q0 : Hid (tm = tm') := e0 (by omega)
        have Q1 : Hid (kd = kd') := e1 (by omega)
        have Q2 : Hid (tx = tx') := e2 (by omega)
        clear e0 e1 e2 e3 he
        go_wp2_with fail
        go_quiet (fail)
        go_wp2_with fail
        go_roundw
        case rel => exact ⟨4, by first | rfl | simp, by omega, fun _ => Q0.out, fun _ => Q1.out, fun _ => Q2.out, fun _ => E0.out, HW.out.trans (by (repeat (first | exact Grw.refl _ | apply Grw.drew | apply Grw.drewN)); done)⟩
        case measure => simp only [intOf]; omega
      · have hb : (op != op') = true := by simp [he]
        have HR : Hid (lt = decide (op < op')) := by
          show _ = _
          rw [HLT.out]
          simp only [ne_eq, e0 (by omega), e1 (by omega), e2 (by omega), not_true_eq_false, if_false]
          rw [if_pos he]
        clear e0 e1 e2 e3 he
        go_wp2_with fail
        go_quiet (fail)
        go_wp2_with fail
        go_quiet (fail)
        go_wp2_with fail
        go_ret
        exact ⟨by rw [HR.out]; first | rfl | simp, HG.out.trans (HW.out.trans (by (repeat (first | exact Grw.refl _ | apply Grw.drew | apply Grw.drewN)); done))⟩
    · have HR : Hid (lt = false) := by
        show _ = _
        rw [HLT.out]
        simp [e0 (by omega), e1 (by omega), e2 (by omega), e3 (by omega)]
      clear e0 e1 e2 e3
      go_wp2_with fail
      go_ret
      exact ⟨by rw [HR.out]; rfl, HG.out.trans HW.out⟩
set_option maxRecDepth 100000 in
set_option maxHeartbeats 3200000 in
theorem equal18 (x y : Vl) (W : World) : Sem.run Tryd.prog (Op.equalIn 10000 41 (vlV x) (vlV y)) W = .ok (decide (x.kd = y.kd ∧ x.tm = y.tm ∧ x.tx = y.tx ∧ x.op = y.op ∧ x.wi = y.wi ∧ x.key.toList = y.key.toList ∧ x.wa = y.wa ∧ x.ex.toList = y.ex.toList ∧ x.go = y.go ∧ x.ob.toList = y.ob.toList ∧ x.fr = y.fr ∧ x.tt = y.tt)) W := by
  go_simp
  by_cases h1 : x.kd = y.kd <;> simp [h1]
  by_cases h2 : x.tm = y.tm <;> simp [h2]
  by_cases h3 : x.tx = y.tx <;> simp [h3]
  by_cases h4 : x.op = y.op <;> simp [h4]
  by_cases h5 : x.wi = y.wi <;> simp [h5]
  by_cases h6 : x.key.toList = y.key.toList <;> simp [h6]
  by_cases h7 : x.wa = y.wa <;> simp [h7]
  by_cases h8 : x.ex.toList = y.ex.toList <;> simp [h8]
  by_cases h9 : x.go = y.go <;> simp [h9]
  by_cases h10 : x.ob.toList = y.ob.toList <;> simp [h10]
  by_cases h11 : x.fr = y.fr <;> simp [h11]
  by_cases h12 : x.tt = y.tt <;> simp [h12]
set_option maxRecDepth 100000 in
set_option maxHeartbeats 3200000 in
theorem guard18 (i j : Nat) (x y : Vl) (W : World) : Sem.run Tryd.prog (eqGuard .eql 41 (.tmp i) (.tmp j) (vlV x) (vlV y)) W = .ok () W := by
  go_simp
end Go.Proofs.YtfhaiklfbnfdlaaDoor.Vi
