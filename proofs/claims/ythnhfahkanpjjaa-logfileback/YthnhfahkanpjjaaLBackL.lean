/- What is proved: LogfileBack answers true for every list of transactions. -/
import Derived.Test.YthnhfahkanpjjaaLOneL
import Derived.Test.YthnhfahkanpjjaaLSame
import Derived.Test.YthnhfahkanpjjaaLChk
namespace Go.Proofs.Ythnhfahkanpjjaa
open Go.RowKit

/-- What is written is read back. -/
theorem back_dec {base : Nat} {w : World} {v : Value} {ts : List TxM} (o : OwnB base w v (log7 ts)) (hr : ∀ t ∈ ts, Right t) (hl : ts.length ≤ 4096) : Calls Try.prog 10 #[v] w fun x w' => ∃ v l, l.map TxR.t = ts ∧ x = .returned (.tuple #[v, .int .i64 0, .int .i64 0]) ∧ Lst w.heap.size w' v l ∧ Kept w w' :=
  dec7_own_ok o (byts_log ts) (by have := (log_len hr hl).1; omega) (dec7_log hr hl)
/-- SameList of a list of one's own and an argument. -/
theorem same_arg {base : Nat} {w : World} {v : Value} {m l : List TxR} {oa : Option Addr} {c : Nat} (h : Lst base w v m) (k : ArgL w oa c l) (he : m.map TxR.t = l.map TxR.t) (hr : ∀ t ∈ l.map TxR.t, Right t) : Calls Try.prog 12 #[v, .slice oa l.length c] w fun e w' => e = .returned (.bool true) ∧ Kept w w' := by
  obtain ⟨a, cap, rfl, hd, -⟩ := OwnT.txs h.row
  have hlen : m.length = l.length := by have := congrArg List.length he; simpa using this
  have hle := k.le
  exact sameL w a oa cap c m l hd k.txs h.deep k.deep he (by omega) (fun t ht => by
    rw [he] at ht
    have := (hr t ht).2.1
    omega)
set_option maxRecDepth 100000 in
set_option maxHeartbeats 1600000 in
theorem lback_no (w : World) (oa : Option Addr) (c : Nat) (l : List TxR) (h : ArgL w oa c l) (hc : (check7 (l.map TxR.t)).2 ≠ 0) :
    Calls Try.prog 5 #[.slice oa l.length c] w fun e w' => e = .returned (.bool true) ∧ Kept w w' := by
  have HC : Hid (∀ W, Kept w W → _) := fun W (k : Kept w W) => check_ref (h.on k)
  obtain ⟨L, eL⟩ : ∃ L, L = l.length := ⟨_, rfl⟩
  rw [← eL] at HC ⊢
  generalize check7 (l.map TxR.t) = z at HC hc
  obtain ⟨z1, z2⟩ := z
  have hz : (z2 != 0) = true := by simpa using hc
  simp only at HC
  clear h hc eL
  go_enter Try.func5, Try.ntmps5
  go_wp2_with fail
  refine Calls.mono (anchor_any w) ?_
  rintro e w1 ⟨rfl, k1⟩
  have K1 : Hid _ := k1
  clear k1
  go_wp2_with fail
  refine Calls.mono (HC.out _ K1.out) ?_
  rintro e w2 ⟨rfl, k2⟩
  have K2 : Hid _ := K1.out.trans' k2
  clear k2
  go_wp2_with fail
  go_ret
  exact ⟨rfl, K2.out⟩
set_option maxRecDepth 100000 in
set_option maxHeartbeats 1600000 in
theorem lback_ok (w : World) (oa : Option Addr) (c : Nat) (l : List TxR) (h : ArgL w oa c l) (hc : (check7 (l.map TxR.t)).2 = 0) :
    Calls Try.prog 5 #[.slice oa l.length c] w fun e w' => e = .returned (.bool true) ∧ Kept w w' := by
  obtain ⟨hr, hl⟩ := check7_ok.1 hc
  have HC : Hid (∀ W, Kept w W → _) := fun W (k : Kept w W) => check_ref (h.on k)
  rw [check7_zero hc] at HC
  have HCP : Hid (∀ W, Kept w W → _) := fun W (k : Kept w W) => copies_any (h.on k)
  have HSL : Hid (∀ W base v m, Kept w W → Lst base W v m → m.map TxR.t = l.map TxR.t → _) := fun W base v m (k : Kept w W) (hm : Lst base W v m) he => same_arg hm (h.on k) he hr
  obtain ⟨L, eL⟩ : ∃ L, L = l.length := ⟨_, rfl⟩
  rw [← eL] at HC HCP HSL ⊢
  have HT : Hid ((∀ t ∈ l.map TxR.t, Right t) ∧ (l.map TxR.t).length ≤ 4096) := ⟨hr, hl⟩
  clear h hc eL hr hl
  go_enter Try.func5, Try.ntmps5
  go_wp2_with fail
  refine Calls.mono (anchor_any w) ?_
  rintro e w1 ⟨rfl, k1⟩
  have K1 : Hid _ := k1
  clear k1
  go_wp2_with fail
  refine Calls.mono (HC.out _ K1.out) ?_
  rintro e w2 ⟨rfl, k2⟩
  have K2 : Hid _ := K1.out.trans' k2
  clear k2
  go_wp2_with fail
  refine Calls.mono (HCP.out _ K2.out) ?_
  rintro e w3 ⟨v3, m3, rfl, e3, s3, k3⟩
  have K3 : Hid _ := K2.out.trans' k3
  have HE : Hid _ := enc7_own s3 (by rw [e3]; exact HT.out.1) (by have := HT.out.2; rw [← e3, List.length_map] at this; exact this)
  rw [e3] at HE
  clear k3 s3 e3
  go_wp2_with fail
  refine Calls.mono HE.out ?_
  rintro e w4 ⟨u4, rfl, o4, k4⟩
  have K4 : Hid _ := K3.out.trans' k4
  have HD : Hid _ := back_dec o4 HT.out.1 HT.out.2
  clear k4 o4
  go_wp2_with fail
  refine Calls.mono HD.out ?_
  rintro e w5 ⟨v5, m5, e5, rfl, s5, k5⟩
  have K5 : Hid _ := K4.out.trans' k5
  have HS : Hid _ := HSL.out _ _ _ _ K5.out s5 e5
  clear k5 s5 e5
  go_wp2_with fail
  refine Calls.mono HS.out ?_
  rintro e w6 ⟨rfl, k6⟩
  have K6 : Hid _ := K5.out.trans' k6
  clear k6
  go_wp2_with fail
  go_ret
  exact ⟨rfl, K6.out⟩
end Go.Proofs.Ythnhfahkanpjjaa
