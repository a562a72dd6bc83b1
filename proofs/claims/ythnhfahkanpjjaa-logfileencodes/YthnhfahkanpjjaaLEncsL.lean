/- What is proved: LogfileEncodes answers true for every list of transactions. -/
import Derived.Test.YthnhfahkanpjjaaLAnch
import Derived.Test.YthnhfahkanpjjaaLChk
import Derived.Test.YthnhfahkanpjjaaLLog
namespace Go.Proofs.Ythnhfahkanpjjaa
open Go.RowKit

/-- Encode of a copied list that isn't right. -/
theorem enc7_bad {base : Nat} {w : World} {v : Value} {l : List TxR} {ts : List TxM} (h : Lst base w v l) (he : l.map TxR.t = ts) (hl : l.length ≤ 140737488355328) (hc : (check7 ts).2 ≠ 0) : Calls Try.prog 13 #[v] w fun x w' => x = .returned (.tuple #[.slice none 0 0, .int .i64 ((check7 ts).1 : Int), .int .i64 (check7 ts).2]) ∧ Kept w w' := by
  subst he
  obtain ⟨a, cap, rfl, hd, -⟩ := OwnT.txs h.row
  refine Calls.mono (encode7_any (c := cap) hd h.deep hl) ?_
  rintro x w' ⟨k, m⟩
  rw [if_neg hc] at m
  exact ⟨m, k⟩
theorem enc7_good {base : Nat} {w : World} {v : Value} {l : List TxR} {ts : List TxM} (h : Lst base w v l) (he : l.map TxR.t = ts) (hl : l.length ≤ 140737488355328) (hc : (check7 ts).2 = 0) : Calls Try.prog 13 #[v] w fun x w' => ∃ u, x = .returned (.tuple #[u, .int .i64 0, .int .i64 0]) ∧ OwnB w.heap.size w' u (log7 ts) ∧ Kept w w' := by
  subst he
  obtain ⟨a, cap, rfl, hd, -⟩ := OwnT.txs h.row
  refine Calls.mono (encode7_any (c := cap) hd h.deep hl) ?_
  rintro x w' ⟨k, m⟩
  rw [if_pos hc] at m
  obtain ⟨u, e, o⟩ := m
  exact ⟨u, e, o, k⟩
set_option maxRecDepth 100000 in
set_option maxHeartbeats 1600000 in
theorem lencs_no (w : World) (oa : Option Addr) (c : Nat) (l : List TxR) (h : ArgL w oa c l) (hc : (check7 (l.map TxR.t)).2 ≠ 0) :
    Calls Try.prog 4 #[.slice oa l.length c] w fun e w' => e = .returned (.bool true) ∧ Kept w w' := by
  have hle := h.le
  have HC : Hid (∀ W, Kept w W → _) := fun W (k : Kept w W) => check_ref (h.on k)
  have HCP : Hid (∀ W, Kept w W → _) := fun W (k : Kept w W) => copies_any (h.on k)
  have HEN : Hid (∀ base W v m, Lst base W v m → m.map TxR.t = l.map TxR.t → _) := fun base W v m (hm : Lst base W v m) (he : m.map TxR.t = l.map TxR.t) => enc7_bad hm he (by have := congrArg List.length he; simp only [List.length_map] at this; omega) hc
  obtain ⟨L, eL⟩ : ∃ L, L = l.length := ⟨_, rfl⟩
  rw [← eL] at HC HCP ⊢
  generalize check7 (l.map TxR.t) = z at HC HEN hc
  obtain ⟨z1, z2⟩ := z
  have hz : (z2 != 0) = true := by simpa using hc
  have hz3 : (z2 != z2) = false := by simp
  have hz4 : ((z1 : Int) != (z1 : Int)) = false := by simp
  simp only at HC HEN
  clear h hc eL hle
  go_enter Try.func4, Try.ntmps4
  go_wp2_with fail
  refine Calls.mono (anchor_any w) ?_
  rintro e w1 ⟨rfl, k1⟩
  have K1 : Hid _ := k1
  clear k1
  go_wp2_with fail
  refine Calls.mono (HCP.out _ K1.out) ?_
  rintro e w3 ⟨v3, m3, rfl, e3, s3, k3⟩
  have K3 : Hid _ := K1.out.trans' k3
  have HE : Hid _ := HEN.out _ _ _ _ s3 e3
  clear k3 s3 e3
  go_wp2_with fail
  refine Calls.mono HE.out ?_
  rintro e w4 ⟨rfl, k4⟩
  have K4 : Hid _ := K3.out.trans' k4
  clear k4
  go_wp2_with fail
  refine Calls.mono (HC.out _ K4.out) ?_
  rintro e w2 ⟨rfl, k2⟩
  have K2 : Hid _ := K4.out.trans' k2
  clear k2
  go_wp2_with fail
  go_ret
  exact ⟨rfl, K2.out⟩
set_option maxRecDepth 100000 in
set_option maxHeartbeats 1600000 in
theorem lencs_ok (w : World) (oa : Option Addr) (c : Nat) (l : List TxR) (h : ArgL w oa c l) (hc : (check7 (l.map TxR.t)).2 = 0) :
    Calls Try.prog 4 #[.slice oa l.length c] w fun e w' => e = .returned (.bool true) ∧ Kept w w' := by
  obtain ⟨hr, hl⟩ := check7_ok.1 hc
  have hle := h.le
  have HC : Hid (∀ W, Kept w W → _) := fun W (k : Kept w W) => check_ref (h.on k)
  rw [check7_zero hc] at HC
  have HCP : Hid (∀ W, Kept w W → _) := fun W (k : Kept w W) => copies_any (h.on k)
  have HEN : Hid (∀ base W v m, Lst base W v m → m.map TxR.t = l.map TxR.t → _) := fun base W v m (hm : Lst base W v m) (he : m.map TxR.t = l.map TxR.t) => enc7_good hm he (by have := congrArg List.length he; simp only [List.length_map] at this; omega) hc
  have HLG : Hid (∀ W, Kept w W → _) := fun W (k : Kept w W) => log_ref (h.on k) hr (by rw [List.length_map] at hl; exact hl)
  have hll := (log_len hr hl).1
  have HSM : Hid (∀ W a b ca cb, BytesAt W a (log7 (l.map TxR.t)) → BytesAt W b (log7 (l.map TxR.t)) → _) := fun W a b ca cb ha hb => same_true W a b ca cb (log7 (l.map TxR.t)) ha hb (by omega)
  obtain ⟨L, eL⟩ : ∃ L, L = l.length := ⟨_, rfl⟩
  rw [← eL] at HC HCP HLG ⊢
  clear h hc eL hr hl hle hll
  go_enter Try.func4, Try.ntmps4
  go_wp2_with fail
  refine Calls.mono (anchor_any w) ?_
  rintro e w1 ⟨rfl, k1⟩
  have K1 : Hid _ := k1
  clear k1
  go_wp2_with fail
  refine Calls.mono (HCP.out _ K1.out) ?_
  rintro e w3 ⟨v3, m3, rfl, e3, s3, k3⟩
  have K3 : Hid _ := K1.out.trans' k3
  have HE : Hid _ := HEN.out _ _ _ _ s3 e3
  clear k3 s3 e3
  go_wp2_with fail
  refine Calls.mono HE.out ?_
  rintro e w4 ⟨u4, rfl, o4, k4⟩
  have K4 : Hid _ := K3.out.trans' k4
  have O4 : Hid _ := o4
  clear k4 o4
  go_wp2_with fail
  refine Calls.mono (HC.out _ K4.out) ?_
  rintro e w2 ⟨rfl, k2⟩
  have K2 : Hid _ := K4.out.trans' k2
  have O2 : Hid _ := OwnB.kept O4.out k2 (fun _ _ h => h)
  clear k2
  go_wp2_with fail
  refine Calls.mono (HLG.out _ K2.out) ?_
  rintro e w5 ⟨u5, rfl, o5, k5⟩
  have K5 : Hid _ := K2.out.trans' k5
  obtain ⟨a4, c4, rfl, d4, -⟩ := OwnB.bytes (OwnB.kept O2.out k5 (fun _ _ h => h))
  obtain ⟨a5, c5, rfl, d5, -⟩ := OwnB.bytes o5
  have HS : Hid _ := HSM.out _ _ _ c4 c5 d4 d5
  clear k5 o5 d4 d5 O4 O2 HE
  go_wp2_with fail
  refine Calls.mono HS.out ?_
  rintro e w6 ⟨rfl, rfl⟩
  go_wp2_with fail
  go_ret
  exact ⟨rfl, K5.out⟩
end Go.Proofs.Ythnhfahkanpjjaa
