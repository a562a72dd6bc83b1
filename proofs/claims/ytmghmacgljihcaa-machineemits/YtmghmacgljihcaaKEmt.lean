/- What is proved: Emit gives the log of a machine that has played a script and aborted what was active; New's refusals; the script lies in memory. -/
import Derived.Test.YtmghmacgljihcaaKAnch
namespace Go.Proofs.Ytmghmacgljihcaa
open Go.RowKit

/-- The aborts at the end, of the first n sessions. -/
def abM (M : Mm) : Nat → Mm
  | 0 => M
  | n + 1 => (doM (abM M n) ⟨6, n, 0, e0, e0⟩).1
def emM (n : Nat) (fl : Int) (l : List Stp) : Mm := abM (plM (newM n fl) l) n
theorem newF (w : World) (n : Nat) (fl : Int) (h0 : 1 ≤ n) (h1 : n ≤ 64) (f0 : 0 ≤ fl) (f1 : fl ≤ 4) : Calls Try.prog 6 #[.int .i64 (n : Int), .int .i64 fl] w fun e w' => ∃ mb, e = .returned (.tuple #[.pointer (some ⟨mb, 0, none⟩), .int .i64 0]) ∧ MkN w w' mb (newM n fl) :=
  Calls.mono (new15 w n fl h0 h1 f0 f1) fun e w' he => by
    obtain ⟨mb, F, h1, h2, h3, h4⟩ := he
    exact ⟨mb, h1, F, h2, h3, h4⟩
set_option maxRecDepth 100000 in
set_option maxHeartbeats 800000 in
theorem newBad (w : World) (n fl : Int) (h : (n < 1 ∨ 64 < n) ∨ (fl < 0 ∨ 4 < fl)) : Calls Try.prog 6 #[.int .i64 n, .int .i64 fl] w fun e w' => e = .returned (.tuple #[.pointer none, .int .i64 (if n < 1 ∨ 64 < n then 150 else 158)]) ∧ w' = w := by
  by_cases h1 : n < 1
  · have d1 : decide (n < 1) = true := decide_eq_true h1
    rw [if_pos (.inl h1)]
    clear h
    go_enter Try.func6, Try.ntmps6
    go_wp2_with fail
    refine bodyPost_ret (results_tmp2 rfl _ _ _) rfl ?_
    exact ⟨rfl, rfl⟩
  have d1 : decide (n < 1) = false := decide_eq_false h1
  by_cases h2 : 64 < n
  · have d2 : decide (64 < n) = true := decide_eq_true h2
    rw [if_pos (.inr h2)]
    clear h
    go_enter Try.func6, Try.ntmps6
    go_wp2_with fail
    refine bodyPost_ret (results_tmp2 rfl _ _ _) rfl ?_
    exact ⟨rfl, rfl⟩
  have d2 : decide (64 < n) = false := decide_eq_false h2
  rw [if_neg (fun e => by rcases e with e | e <;> contradiction)]
  by_cases h3 : fl < 0
  · have d3 : decide (fl < 0) = true := decide_eq_true h3
    clear h
    go_enter Try.func6, Try.ntmps6
    go_wp2_with fail
    refine bodyPost_ret (results_tmp2 rfl _ _ _) rfl ?_
    exact ⟨rfl, rfl⟩
  have d3 : decide (fl < 0) = false := decide_eq_false h3
  have h4 : 4 < fl := by omega
  have d4 : decide (4 < fl) = true := decide_eq_true h4
  clear h
  go_enter Try.func6, Try.ntmps6
  go_wp2_with fail
  refine bodyPost_ret (results_tmp2 rfl _ _ _) rfl ?_
  exact ⟨rfl, rfl⟩
/-- What Emit gives. -/
def EmP (w : World) (log : List TxM) (e : Ending) (w' : World) : Prop := ∃ v L, e = .returned (.tuple #[v, .int .i64 0]) ∧ OwnT w.heap.size w' v L ∧ L.map (·.1) = log ∧ (∀ x ∈ L, OwnO w.heap.size w' x.2 x.1.ops) ∧ Kept w w'
set_option maxRecDepth 100000 in
set_option maxHeartbeats 1600000 in
theorem emit15 {w : World} {a : Option Addr} {l : List Stp} {cap : Nat} (hl : StepsAt w a l) (hs : SmallS l) (hn : l.length ≤ 9223372036854775807) (N : Nat) (fl : Int) (h0 : 1 ≤ N) (h1 : N ≤ 64) (f0 : 0 ≤ fl) (f1 : fl ≤ 4) :
    Calls Try.prog 17 #[.int .i64 (N : Int), .int .i64 fl, .slice a l.length cap] w (EmP w (emM N fl l).log) := by
  have HN : Hid _ := newF w N fl h0 h1 f0 f1
  have HL : Hid (StepsAt w a l) := hl
  have HS : Hid (SmallS l) := hs
  obtain ⟨n, en⟩ : ∃ n, n = l.length := ⟨_, rfl⟩
  rw [← en] at hn ⊢
  have EN : Hid (n = l.length) := en
  have HLEN : Hid (∀ l' q, (abM (plM (newM N fl) l') q).ses.length = N) := fun l' q => by
    have h5 : ∀ (l' : List Stp) (M : Mm), (plM M l').ses.length = M.ses.length := fun l' => by
      induction l' with
      | nil => intro M; rfl
      | cons s r ih => intro M; exact (ih _).trans (do_len M s)
    induction q with
    | zero => exact (h5 l' _).trans (by simp [newM])
    | succ q ih => exact (do_len _ _).trans ih
  have HNB : Hid (1 ≤ N ∧ N ≤ 64) := ⟨h0, h1⟩
  clear hl hs en h0 f0 f1
  unfold EmP
  go_enter Try.func17, Try.ntmps17
  go_wp2_with fail
  refine Calls.mono HN.out ?_
  rintro e w1 ⟨mb, rfl, m1⟩
  have M1 : Hid (MkN w w1 mb (newM N fl)) := m1
  clear m1 HN
  go_upto_region 5 with fail
  go_loopw [24] (fun i wr => ∃ j : Nat, j ≤ n ∧ i = .int .i64 (j : Int) ∧ MkN w wr mb (plM (newM N fl) (l.take j))) (fun i _ => n - (intOf i).toNat)
  case atStart => exact ⟨0, Nat.zero_le _, rfl, M1.out⟩
  case round =>
    obtain ⟨j, hj, rfl, mj⟩ := hrel
    have MJ : Hid (MkN w wr mb (plM (newM N fl) (l.take j))) := mj
    clear mj
    by_cases hlt : j < n
    · have c1 : decide ((j : Int) < (n : Int)) = true := by simp only [decide_eq_true_eq]; omega
      have hlt2 : (j : Int) < (n : Int) := by omega
      obtain ⟨s, hsj⟩ : ∃ s, l[j]? = some s := ⟨_, List.getElem?_eq_getElem (by rw [← EN.out]; exact hlt)⟩
      obtain ⟨b, off, rfl, hb, q0, q1, q2, q3, q4⟩ := (StepsAt.on HL.out (MkN.kept MJ.out)) j s hsj
      obtain ⟨hk, hv⟩ := HS.out s (List.mem_of_getElem? hsj)
      obtain ⟨A, c, M', e1, e2⟩ : ∃ A c M', doM (plM (newM N fl) (l.take j)) ⟨s.kind, s.ses, s.gap, s.key, s.value⟩ = (M', A) ∧ codeD (plM (newM N fl) (l.take j)) ⟨s.kind, s.ses, s.gap, s.key, s.value⟩ = c := ⟨_, _, _, rfl, rfl⟩
      have HDO : Hid _ := MkN.doN (MkN.on MJ.out ((Same.refl _ wr).alloc (.cells #[.int .i64 s.kind, .int .i64 s.ses, .int .i64 s.gap, .string s.key, .string s.value] 32 (0, 0)))) s.kind s.ses s.gap s.key s.value hk hv e1 e2
      have HM' : Hid (M' = plM (newM N fl) (l.take (j + 1))) := by
        show M' = _
        rw [plM_take hsj, show s = ⟨s.kind, s.ses, s.gap, s.key, s.value⟩ from rfl, e1]
      clear e1 e2 hsj hk hv
      go_wp2_with fail
      refine Calls.mono HDO.out ?_
      rintro r w5 ⟨rfl, m5⟩
      have M5 : Hid (MkN w w5 mb M') := m5
      clear m5
      go_wp2_with fail
      go_roundw
      case rel => exact ⟨j + 1, by omega, by first | rfl | simp, by rw [← show M' = _ from HM'.out]; exact M5.out⟩
      case measure => simp only [intOf]; omega
    · have c1 : decide ((j : Int) < (n : Int)) = false := by simp only [decide_eq_false_iff_not]; omega
      obtain rfl : n = j := by omega
      have MZ : Hid (MkN w wr mb (plM (newM N fl) l)) := by
        have h5 := MJ.out
        rw [show l.take n = l by rw [show n = l.length from EN.out]; exact List.take_length] at h5
        exact h5
      obtain ⟨F0, ⟨-, tg, sb, vb, lv, P, L, hm, -⟩, -⟩ := MZ.out
      obtain ⟨hmb, ⟨-, -, -, c3, -⟩, -⟩ := Mi.cells hm
      rw [show (plM (newM N fl) l).ses.length = N from HLEN.out l 0] at c3
      clear hm MJ hlt
      go_upto_region 10 with fail
      go_loopw [37] (fun i wz => ∃ q : Nat, q ≤ N ∧ i = .int .i64 (q : Int) ∧ MkN w wz mb (abM (plM (newM N fl) l) q)) (fun i _ => N - (intOf i).toNat)
      case atStart => exact ⟨0, Nat.zero_le _, rfl, MZ.out⟩
      case round =>
        rename World => wz
        obtain ⟨q, hq, rfl, mq⟩ := hrel
        have MQ : Hid (MkN w wz mb (abM (plM (newM N fl) l) q)) := mq
        clear mq
        by_cases hlq : q < N
        · have c1 : decide ((q : Int) < (N : Int)) = true := by simp only [decide_eq_true_eq]; omega
          have hlt2 : (q : Int) < (N : Int) := by omega
          have HDO : Hid _ := MkN.doN MQ.out 6 (q : Int) 0 e0 e0 (by decide) (by decide) (M' := abM (plM (newM N fl) l) (q + 1)) rfl rfl
          generalize (doM (abM (plM (newM N fl) l) q) ⟨6, q, 0, e0, e0⟩).2 = A at HDO
          generalize codeD (abM (plM (newM N fl) l) q) ⟨6, q, 0, e0, e0⟩ = cd at HDO
          go_wp2_with fail
          refine Calls.mono HDO.out ?_
          rintro r w5 ⟨rfl, m5⟩
          have M5 : Hid (MkN w w5 mb (abM (plM (newM N fl) l) (q + 1))) := m5
          clear m5
          go_wp2_with fail
          go_roundw
          case rel => exact ⟨q + 1, by omega, by first | rfl | simp, M5.out⟩
          case measure => simp only [intOf]; omega
        · have c1 : decide ((q : Int) < (N : Int)) = false := by simp only [decide_eq_false_iff_not]; omega
          obtain rfl : N = q := by omega
          have HLG : Hid (Calls Try.prog 14 #[.pointer (some ⟨mb, 0, none⟩)] wz (LogP wz (emM N fl l).log)) := by
            obtain ⟨F, g1, -⟩ := MQ.out
            exact log15 g1
          have KW : Hid (Kept w wz) := MkN.kept MQ.out
          go_wp2_with fail
          refine Calls.mono HLG.out ?_
          rintro r w6 ⟨vv, LL, rfl, o6, l6, p6, k6⟩
          obtain ⟨va, vc, rfl, -⟩ := row_shape o6
          have O6 : Hid _ := o6
          have L6 : Hid _ := l6
          have P6 : Hid (∀ x ∈ LL, OwnO wz.heap.size w6 x.2 x.1.ops) := p6
          have K6 : Hid _ := k6
          clear o6 l6 p6 k6
          go_wp2_with fail
          refine bodyPost_ret (results_tmp2 rfl _ _ _) rfl ?_
          exact ⟨_, LL, rfl, row_lower O6.out (Same.size KW.out), L6.out, fun x hx => row_lower (P6.out x hx) (Same.size KW.out), Same.trans' KW.out K6.out⟩
end Go.Proofs.Ytmghmacgljihcaa
