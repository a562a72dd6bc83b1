/- What is proved: the document's Valid tells whether a violation is right, as the package's does; for every violation, no condition. -/
import Derived.Test.YtnfkjblhnpnaeaaVTop
namespace Go.Proofs.Ytnfkjblhnpnaeaa
open Go.RowKit

theorem okV_iff (x : Vl) : okV x = true ↔ ((1 ≤ x.kd ∧ x.kd ≤ 10) ∧ (0 ≤ x.tm ∧ x.tm ≤ 1099511627776) ∧ (0 ≤ x.fr ∧ x.fr ≤ 1099511627776) ∧ (0 ≤ x.tt ∧ x.tt ≤ 1099511627776) ∧ (0 ≤ x.tx ∧ x.tx ≤ 4095) ∧ (-1 ≤ x.wi ∧ x.wi ≤ 4095) ∧ (-1 ≤ x.op ∧ x.op ≤ 15) ∧ x.key.size ≤ 8 ∧ (x.ex.size ≤ 16 ∧ (x.wa = true ∨ x.ex.size = 0)) ∧ (x.ob.size ≤ 16 ∧ (x.go = true ∨ x.ob.size = 0))) := by
  unfold okV iv
  simp only [Bool.and_eq_true, Bool.or_eq_true, wi_iff, decide_eq_true_eq, and_assoc]
theorem okV_no {x : Vl} (h : ¬ okV x = true) : okV x = false := by simpa using h
set_option maxRecDepth 100000 in
set_option maxHeartbeats 6400000 in
theorem rvalid18 (x : Vl) (w : World) : Calls Try.prog 12 #[vlV x] w fun e w' => e = .returned (.bool (okV x)) ∧ w' = w.alloc (vlO x) := by
  have HY : Hid _ := (okV_iff x)
  have HN : Hid _ := @okV_no x
  unfold vlV vlO
  obtain ⟨kd, tm, tx, op, wit, key, wa, ex, gg, ob, fr, tt⟩ := x
  simp only at HY ⊢
  obtain ⟨b, eb⟩ : ∃ b, b = okV ⟨kd, tm, tx, op, wit, key, wa, ex, gg, ob, fr, tt⟩ := ⟨_, rfl⟩
  rw [← eb] at HY HN ⊢
  clear eb
  by_cases h0 : kd < 1
  · have d0 : decide (kd < 1) = true := decide_eq_true h0
    have EB : Hid (b = false) := HN.out (fun h => by have := HY.out.1 h; omega)
    go_enter Try.func12, Try.ntmps12
    go_wp2_with fail
    go_ret
    exact ⟨by rw [EB.out]; rfl, rfl⟩
  · have d0 : decide (kd < 1) = false := decide_eq_false h0
    by_cases h1 : 10 < kd
    · have d1 : decide (10 < kd) = true := decide_eq_true h1
      have EB : Hid (b = false) := HN.out (fun h => by have := HY.out.1 h; omega)
      go_enter Try.func12, Try.ntmps12
      go_wp2_with fail
      go_ret
      exact ⟨by rw [EB.out]; rfl, rfl⟩
    · have d1 : decide (10 < kd) = false := decide_eq_false h1
      by_cases h2 : tx < 0
      · have d2 : decide (tx < 0) = true := decide_eq_true h2
        have EB : Hid (b = false) := HN.out (fun h => by have := HY.out.1 h; omega)
        go_enter Try.func12, Try.ntmps12
        go_wp2_with fail
        go_ret
        exact ⟨by rw [EB.out]; rfl, rfl⟩
      · have d2 : decide (tx < 0) = false := decide_eq_false h2
        by_cases h3 : 4095 < tx
        · have d3 : decide (4095 < tx) = true := decide_eq_true h3
          have EB : Hid (b = false) := HN.out (fun h => by have := HY.out.1 h; omega)
          go_enter Try.func12, Try.ntmps12
          go_wp2_with fail
          go_ret
          exact ⟨by rw [EB.out]; rfl, rfl⟩
        · have d3 : decide (4095 < tx) = false := decide_eq_false h3
          by_cases h4 : wit < -1
          · have d4 : decide (wit < -1) = true := decide_eq_true h4
            have EB : Hid (b = false) := HN.out (fun h => by have := HY.out.1 h; omega)
            go_enter Try.func12, Try.ntmps12
            go_wp2_with fail
            go_ret
            exact ⟨by rw [EB.out]; rfl, rfl⟩
          · have d4 : decide (wit < -1) = false := decide_eq_false h4
            by_cases h5 : 4095 < wit
            · have d5 : decide (4095 < wit) = true := decide_eq_true h5
              have EB : Hid (b = false) := HN.out (fun h => by have := HY.out.1 h; omega)
              go_enter Try.func12, Try.ntmps12
              go_wp2_with fail
              go_ret
              exact ⟨by rw [EB.out]; rfl, rfl⟩
            · have d5 : decide (4095 < wit) = false := decide_eq_false h5
              by_cases h6 : op < -1
              · have d6 : decide (op < -1) = true := decide_eq_true h6
                have EB : Hid (b = false) := HN.out (fun h => by have := HY.out.1 h; omega)
                go_enter Try.func12, Try.ntmps12
                go_wp2_with fail
                go_ret
                exact ⟨by rw [EB.out]; rfl, rfl⟩
              · have d6 : decide (op < -1) = false := decide_eq_false h6
                by_cases h7 : 15 < op
                · have d7 : decide (15 < op) = true := decide_eq_true h7
                  have EB : Hid (b = false) := HN.out (fun h => by have := HY.out.1 h; omega)
                  go_enter Try.func12, Try.ntmps12
                  go_wp2_with fail
                  go_ret
                  exact ⟨by rw [EB.out]; rfl, rfl⟩
                · have d7 : decide (15 < op) = false := decide_eq_false h7
                  by_cases h8 : tm < 0
                  · have d8 : decide (tm < 0) = true := decide_eq_true h8
                    have EB : Hid (b = false) := HN.out (fun h => by have := HY.out.1 h; omega)
                    go_enter Try.func12, Try.ntmps12
                    go_wp2_with fail
                    go_ret
                    exact ⟨by rw [EB.out]; rfl, rfl⟩
                  · have d8 : decide (tm < 0) = false := decide_eq_false h8
                    by_cases h9 : 1099511627776 < tm
                    · have d9 : decide (1099511627776 < tm) = true := decide_eq_true h9
                      have EB : Hid (b = false) := HN.out (fun h => by have := HY.out.1 h; omega)
                      go_enter Try.func12, Try.ntmps12
                      go_wp2_with fail
                      go_ret
                      exact ⟨by rw [EB.out]; rfl, rfl⟩
                    · have d9 : decide (1099511627776 < tm) = false := decide_eq_false h9
                      by_cases h10 : fr < 0
                      · have d10 : decide (fr < 0) = true := decide_eq_true h10
                        have EB : Hid (b = false) := HN.out (fun h => by have := HY.out.1 h; omega)
                        go_enter Try.func12, Try.ntmps12
                        go_wp2_with fail
                        go_ret
                        exact ⟨by rw [EB.out]; rfl, rfl⟩
                      · have d10 : decide (fr < 0) = false := decide_eq_false h10
                        by_cases h11 : 1099511627776 < fr
                        · have d11 : decide (1099511627776 < fr) = true := decide_eq_true h11
                          have EB : Hid (b = false) := HN.out (fun h => by have := HY.out.1 h; omega)
                          go_enter Try.func12, Try.ntmps12
                          go_wp2_with fail
                          go_ret
                          exact ⟨by rw [EB.out]; rfl, rfl⟩
                        · have d11 : decide (1099511627776 < fr) = false := decide_eq_false h11
                          by_cases h12 : tt < 0
                          · have d12 : decide (tt < 0) = true := decide_eq_true h12
                            have EB : Hid (b = false) := HN.out (fun h => by have := HY.out.1 h; omega)
                            go_enter Try.func12, Try.ntmps12
                            go_wp2_with fail
                            go_ret
                            exact ⟨by rw [EB.out]; rfl, rfl⟩
                          · have d12 : decide (tt < 0) = false := decide_eq_false h12
                            by_cases h13 : 1099511627776 < tt
                            · have d13 : decide (1099511627776 < tt) = true := decide_eq_true h13
                              have EB : Hid (b = false) := HN.out (fun h => by have := HY.out.1 h; omega)
                              go_enter Try.func12, Try.ntmps12
                              go_wp2_with fail
                              go_ret
                              exact ⟨by rw [EB.out]; rfl, rfl⟩
                            · have d13 : decide (1099511627776 < tt) = false := decide_eq_false h13
                              by_cases h14 : (8 : Int) < (key.size : Int)
                              · have d14 : decide ((8 : Int) < (key.size : Int)) = true := decide_eq_true h14
                                have EB : Hid (b = false) := HN.out (fun h => by have := HY.out.1 h; omega)
                                go_enter Try.func12, Try.ntmps12
                                go_wp2_with fail
                                go_ret
                                exact ⟨by rw [EB.out]; rfl, rfl⟩
                              · have d14 : decide ((8 : Int) < (key.size : Int)) = false := decide_eq_false h14
                                by_cases h15 : (16 : Int) < (ex.size : Int)
                                · have d15 : decide ((16 : Int) < (ex.size : Int)) = true := decide_eq_true h15
                                  have EB : Hid (b = false) := HN.out (fun h => by have := HY.out.1 h; omega)
                                  go_enter Try.func12, Try.ntmps12
                                  go_wp2_with fail
                                  go_ret
                                  exact ⟨by rw [EB.out]; rfl, rfl⟩
                                · have d15 : decide ((16 : Int) < (ex.size : Int)) = false := decide_eq_false h15
                                  by_cases h16 : (16 : Int) < (ob.size : Int)
                                  · have d16 : decide ((16 : Int) < (ob.size : Int)) = true := decide_eq_true h16
                                    have EB : Hid (b = false) := HN.out (fun h => by have := HY.out.1 h; omega)
                                    go_enter Try.func12, Try.ntmps12
                                    go_wp2_with fail
                                    go_ret
                                    exact ⟨by rw [EB.out]; rfl, rfl⟩
                                  · have d16 : decide ((16 : Int) < (ob.size : Int)) = false := decide_eq_false h16
                                    cases wa with
                                    | false =>
                                      by_cases he : (0 : Int) < (ex.size : Int)
                                      · have EB : Hid (b = false) := HN.out (fun h => by have := (HY.out.1 h).2.2.2.2.2.2.2.2.1.2.resolve_left (by decide); omega)
                                        have dd : decide ((0 : Int) < (ex.size : Int)) = true := decide_eq_true he
                                        go_enter Try.func12, Try.ntmps12
                                        go_wp2_with fail
                                        go_ret
                                        exact ⟨by rw [EB.out]; rfl, rfl⟩
                                      · have dd : decide ((0 : Int) < (ex.size : Int)) = false := decide_eq_false he
                                        cases gg with
                                        | true =>
                                          have EB : Hid (b = true) := HY.out.2 ⟨⟨by omega, by omega⟩, ⟨by omega, by omega⟩, ⟨by omega, by omega⟩, ⟨by omega, by omega⟩, ⟨by omega, by omega⟩, ⟨by omega, by omega⟩, ⟨by omega, by omega⟩, by omega, ⟨by omega, .inr (by omega)⟩, ⟨by omega, .inl rfl⟩⟩
                                          go_enter Try.func12, Try.ntmps12
                                          go_wp2_with fail
                                          go_ret
                                          exact ⟨by rw [EB.out]; rfl, rfl⟩
                                        | false =>
                                          by_cases ho : ob.size = 0
                                          · have EB : Hid (b = true) := HY.out.2 ⟨⟨by omega, by omega⟩, ⟨by omega, by omega⟩, ⟨by omega, by omega⟩, ⟨by omega, by omega⟩, ⟨by omega, by omega⟩, ⟨by omega, by omega⟩, ⟨by omega, by omega⟩, by omega, ⟨by omega, .inr (by omega)⟩, ⟨by omega, .inr (by omega)⟩⟩
                                            have ho2 : (ob.size : Int) = 0 := by omega
                                            have ho3 : ((ob.size : Int) == 0) = true := by simp [ho]
                                            go_enter Try.func12, Try.ntmps12
                                            go_wp2_with fail
                                            go_ret
                                            exact ⟨by rw [EB.out]; rfl, rfl⟩
                                          · have EB : Hid (b = false) := HN.out (fun h => by have := (HY.out.1 h).2.2.2.2.2.2.2.2.2.2.resolve_left (by decide); omega)
                                            have ho2 : ¬ (ob.size : Int) = 0 := by omega
                                            have ho3 : ((ob.size : Int) == 0) = false := by simp [ho]
                                            go_enter Try.func12, Try.ntmps12
                                            go_wp2_with fail
                                            go_ret
                                            exact ⟨by rw [EB.out]; rfl, rfl⟩
                                    | true =>
                                      cases gg with
                                      | true =>
                                        have EB : Hid (b = true) := HY.out.2 ⟨⟨by omega, by omega⟩, ⟨by omega, by omega⟩, ⟨by omega, by omega⟩, ⟨by omega, by omega⟩, ⟨by omega, by omega⟩, ⟨by omega, by omega⟩, ⟨by omega, by omega⟩, by omega, ⟨by omega, .inl rfl⟩, ⟨by omega, .inl rfl⟩⟩
                                        go_enter Try.func12, Try.ntmps12
                                        go_wp2_with fail
                                        go_ret
                                        exact ⟨by rw [EB.out]; rfl, rfl⟩
                                      | false =>
                                        by_cases ho : ob.size = 0
                                        · have EB : Hid (b = true) := HY.out.2 ⟨⟨by omega, by omega⟩, ⟨by omega, by omega⟩, ⟨by omega, by omega⟩, ⟨by omega, by omega⟩, ⟨by omega, by omega⟩, ⟨by omega, by omega⟩, ⟨by omega, by omega⟩, by omega, ⟨by omega, .inl rfl⟩, ⟨by omega, .inr (by omega)⟩⟩
                                          have ho2 : (ob.size : Int) = 0 := by omega
                                          have ho3 : ((ob.size : Int) == 0) = true := by simp [ho]
                                          go_enter Try.func12, Try.ntmps12
                                          go_wp2_with fail
                                          go_ret
                                          exact ⟨by rw [EB.out]; rfl, rfl⟩
                                        · have EB : Hid (b = false) := HN.out (fun h => by have := (HY.out.1 h).2.2.2.2.2.2.2.2.2.2.resolve_left (by decide); omega)
                                          have ho2 : ¬ (ob.size : Int) = 0 := by omega
                                          have ho3 : ((ob.size : Int) == 0) = false := by simp [ho]
                                          go_enter Try.func12, Try.ntmps12
                                          go_wp2_with fail
                                          go_ret
                                          exact ⟨by rw [EB.out]; rfl, rfl⟩
end Go.Proofs.Ytnfkjblhnpnaeaa
