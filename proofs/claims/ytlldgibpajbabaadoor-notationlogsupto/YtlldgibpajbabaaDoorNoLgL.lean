/- What is proved: the law NotationLogs returns true and turns nothing that was there; conditions: the text has at most 1048576 bytes, the library's table of powers lies as its text lays it, its variable of the greatest length holds a number. -/
import Derived.Test.YtlldgibpajbabaaDoorNoPh
import Derived.Test.YtlldgibpajbabaaDoorNoLi
namespace Go.Proofs.YtlldgibpajbabaaDoor
open Go.RowKit

theorem plR_len : ∀ (n : Nat) (acc : List TxM) (s : List UInt8), (plR n acc s).1.length ≤ acc.length + n
  | 0, acc, s => Nat.le_add_right _ _
  | n + 1, acc, s => by
    have ih := plR_len n (acc ++ [(parseT (s.take (lead nol s))).1]) (s.drop (lead nol s + 1))
    rw [plR_succ]
    generalize parseT (s.take (lead nol s)) = pt at *
    generalize plR n (acc ++ [pt.1]) (s.drop (lead nol s + 1)) = r at *
    rw [List.length_append, List.length_singleton] at ih
    by_cases h1 : s = []
    · rw [if_pos h1]; exact Nat.le_add_right _ _
    · rw [if_neg h1]
      by_cases h2 : acc.length = 4096
      · rw [if_pos h2]; exact Nat.zero_le _
      · rw [if_neg h2]
        by_cases h3 : lead nol s = s.length
        · rw [if_pos h3]; exact Nat.zero_le _
        · rw [if_neg h3]
          by_cases h4 : pt.2 ≠ 0
          · rw [if_pos h4]; exact Nat.zero_le _
          · rw [if_neg h4]; omega
theorem plR_right : ∀ (n : Nat) (acc : List TxM) (s : List UInt8), (∀ t ∈ acc, Right t) → ∀ t ∈ (plR n acc s).1, Right t
  | 0, acc, s, h => h
  | n + 1, acc, s, h => by
    have hp := parse_right (l := s.take (lead nol s))
    have ih := plR_right n (acc ++ [(parseT (s.take (lead nol s))).1]) (s.drop (lead nol s + 1))
    rw [plR_succ]
    generalize parseT (s.take (lead nol s)) = pt at *
    generalize plR n (acc ++ [pt.1]) (s.drop (lead nol s + 1)) = r at *
    by_cases h1 : s = []
    · rw [if_pos h1]; exact h
    · rw [if_neg h1]
      by_cases h2 : acc.length = 4096
      · rw [if_pos h2]; intro t ht; cases ht
      · rw [if_neg h2]
        by_cases h3 : lead nol s = s.length
        · rw [if_pos h3]; intro t ht; cases ht
        · rw [if_neg h3]
          by_cases h4 : pt.2 ≠ 0
          · rw [if_pos h4]; intro t ht; cases ht
          · rw [if_neg h4]
            refine ih fun t ht => ?_
            rcases List.mem_append.1 ht with ht | ht
            · exact h t ht
            · obtain rfl := List.mem_singleton.1 ht
              exact (hp (by simpa using h4)).1
/-- Lists that hold the same transactions are alike. -/
theorem lst_same {b b' : Nat} {w : World} {v v' : Value} {m m' : List TxR} {p : List TxM} (h : Lst b w v m) (h' : Lst b' w v' m') (e : m.map TxR.t = p) (e' : m'.map TxR.t = p) (hl : p.length ≤ 140737488355328) (ho : ∀ t ∈ p, t.ops.length ≤ 9223372036854775807) : Calls Tryd.prog 16 #[v, v'] w fun e w' => e = .returned (.bool true) ∧ Kept w w' := by
  obtain ⟨a, c, rfl, t, -⟩ := OwnT.txs h.row
  obtain ⟨a', c', rfl, t', -⟩ := OwnT.txs h'.row
  exact sameL w a a' c c' m m' t t' h.deep h'.deep (e.trans e'.symm) (by rw [← List.length_map (f := TxR.t), e]; exact hl) (by rw [e]; exact ho)
theorem plog_lst {b : Nat} {w : World} {v : Value} {m : List TxR} {p : List TxM} (h : Lst b w v m) (e : m.map TxR.t = p) (hl : p.length ≤ 140737488355328) (ht : Tab w.heap.size w) : Calls Tryd.prog 10 #[v] w fun e w' => e = .returned (.tuple #[tx (plogT p).1, .int .i64 ((plogT p).2.1 : Nat), .int .i64 (plogT p).2.2]) ∧ Kept w w' := by
  obtain ⟨a, c, rfl, t, -⟩ := OwnT.txs h.row
  have := printLog_any (c := c) t h.deep (by rw [← List.length_map (f := TxR.t), e]; exact hl) ht
  rw [e] at this
  exact this
set_option maxRecDepth 100000 in
set_option maxHeartbeats 1600000 in
theorem logs_law (w : World) (a : Option Addr) (c : Nat) (l : List TxR) (s : List UInt8) (h : ArgL w a c l) (hs : s.length ≤ 1048576) (ht : Tab w.heap.size w) (hm : Mx w) : Calls Tryd.prog 4 #[.slice a l.length c, tx s] w fun e w' => e = .returned (.bool true) ∧ Kept w w' := by
  have HAN : Hid (∀ W, Kept w W → _) := fun W (k : Kept w W) => anchor_any21 W (ht.up (Nat.le_refl _) k)
  have HC : Hid (∀ W, Kept w W → _) := fun W (k : Kept w W) => copies_any (h.on k)
  have HK : Hid (∀ W, Kept w W → _) := fun W (k : Kept w W) => check_ref (h.on k)
  have hle := h.le
  have HPL : Hid (∀ W b v m, Kept w W → Lst b W v m → m.map TxR.t = l.map TxR.t → _) := fun W b v m (k : Kept w W) (q : Lst b W v m) (e : m.map TxR.t = l.map TxR.t) => plog_lst q e (by rw [List.length_map]; omega) (ht.up (Nat.le_refl _) k)
  have HLI : Hid (∀ W, Kept w W → (check7 (l.map TxR.t)).2 = 0 → Calls Tryd.prog 13 #[.slice a l.length c] W fun e w' => ∃ v', e = .returned v' ∧ OwnB W.heap.size w' v' (nu (linesL (l.map TxR.t))) ∧ Kept W w') := fun W k q => rlines_any (h.on k).txs (h.on k).deep (by have := (check7_ok.1 q).2; rw [List.length_map] at this; exact this) (check7_ok.1 q).1
  have HP1 : Hid (∀ W, Kept w W → Calls Tryd.prog 14 #[tx s] W (PlgP W (plogP s))) := fun W k => parseLog_any s W (by omega) (hm.on k)
  have HP2 : Hid (∀ W, Calls Tryd.prog 15 #[tx s] W (PlgP W (plogP s))) := fun W => rparseLog_any s W hs
  have HPB : Hid ((plogP s).1.length ≤ 140737488355328 ∧ ∀ t ∈ (plogP s).1, t.ops.length ≤ 9223372036854775807) := ⟨by
    have := plR_len s.length [] s
    show (plR s.length [] s).1.length ≤ _
    simp only [List.length_nil] at this
    omega, fun t q => by
    have := (plR_right s.length [] s (fun t q => absurd q (by simp)) t q).2.1
    omega⟩
  have EPL : Hid (plogT (l.map TxR.t) = if (check7 (l.map TxR.t)).2 ≠ 0 then ([], (check7 (l.map TxR.t)).1, (check7 (l.map TxR.t)).2) else (linesL (l.map TxR.t), 0, 0)) := rfl
  have ECZ : Hid ((check7 (l.map TxR.t)).2 = 0 → check7 (l.map TxR.t) = (0, 0)) := check7_zero
  clear h ht hm hs hle
  unfold PlgP at HP1 HP2
  generalize plogP s = P at *
  generalize plogT (l.map TxR.t) = PL at *
  generalize check7 (l.map TxR.t) = CK at *
  generalize linesL (l.map TxR.t) = LS at *
  go_enter Tryd.func4, Tryd.ntmps4
  go_wp2_with fail
  refine Calls.mono (HAN.out _ (Same.refl _ w)) ?_
  rintro e w1 ⟨rfl, k1⟩
  have K1 : Hid (Kept w w1) := k1
  clear k1 HAN
  go_wp2_with fail
  refine Calls.mono (HC.out _ K1.out) ?_
  rintro e w2 ⟨v2, m2, rfl, em2, q2, k2⟩
  have K2 : Hid (Kept w w2) := K1.out.trans' k2
  have HPW : Hid _ := HPL.out w2 _ v2 m2 K2.out q2 em2
  clear k2 K1 HC em2 q2 HPL
  go_wp2_with fail
  refine Calls.mono HPW.out ?_
  rintro e w3 ⟨rfl, k3⟩
  have K3 : Hid (Kept w w3) := K2.out.trans' k3
  clear k3 K2 HPW
  obtain ⟨pt, pp, pc⟩ := PL
  dsimp only
  go_wp2_with fail
  refine Calls.mono (HK.out _ K3.out) ?_
  rintro e w4 ⟨rfl, k4⟩
  have K4 : Hid (Kept w w4) := K3.out.trans' k4
  clear k4 K3 HK
  obtain ⟨cp, cc⟩ := CK
  dsimp only at EPL ECZ HLI
  by_cases hc : cc = 0
  · subst hc
    obtain ⟨rfl, -⟩ := Prod.mk.inj (ECZ.out rfl)
    have EP2 : Hid ((pt, pp, pc) = (LS, 0, 0)) := EPL.out.trans (if_neg (by simp))
    obtain ⟨rfl, e2⟩ := Prod.mk.inj EP2.out
    obtain ⟨rfl, rfl⟩ := Prod.mk.inj e2
    have EQL : Hid (((⟨pt.toArray⟩ : ByteArray).toList == (⟨pt.toArray⟩ : ByteArray).toList) = true) := by show _ = _; rw [tx_beq]; simp
    have hq := EQL.out
    clear ECZ EPL EP2 e2
    go_wp2_with fail
    refine Calls.mono (HLI.out _ K4.out (by first | rfl | trivial)) ?_
    rintro e w5 ⟨v5, rfl, o5, k5⟩
    have hst := own_str o5
    have KZ : Hid (Kept w w5) := K4.out.trans' k5
    clear o5 k5 K4 HLI
    go_wp2_with fail
    refine Calls.mono (HP1.out _ KZ.out) ?_
    rintro e w6 ⟨v6, m6, rfl, em6, q6, k6⟩
    have K6 : Hid (Kept w w6) := KZ.out.trans' k6
    have Q6 : Hid (Lst _ w6 v6 m6) := q6
    clear k6 q6 KZ HP1
    obtain ⟨pl, pn, pe⟩ := P
    dsimp only at em6 HP2 HPB
    dsimp only
    go_wp2_with fail
    refine Calls.mono (HP2.out _) ?_
    rintro e w7 ⟨v7, m7, rfl, em7, q7, k7⟩
    have K7 : Hid (Kept w w7) := K6.out.trans' k7
    have HSM : Hid _ := lst_same (Q6.out.on k7) q7 em6 em7 HPB.out.1 HPB.out.2
    clear k7 q7 K6 HP2 Q6 em6 em7 HPB
    go_wp2_with fail
    refine Calls.mono HSM.out ?_
    rintro e w8 ⟨rfl, k8⟩
    have K8 : Hid (Kept w w8) := K7.out.trans' k8
    clear k8 K7 HSM
    go_wp2_with fail
    go_ret
    exact ⟨rfl, K8.out⟩
  · have hc' : (cc == 0) = false := beq_eq_false_iff_ne.2 hc
    have hc2 : (cc != 0) = true := by rw [bne, hc']; rfl
    have EP2 : Hid ((pt, pp, pc) = ([], cp, cc)) := EPL.out.trans (if_pos hc)
    obtain ⟨rfl, e2⟩ := Prod.mk.inj EP2.out
    obtain ⟨rfl, rfl⟩ := Prod.mk.inj e2
    have KZ : Hid (Kept w w4) := K4.out
    clear ECZ EPL EP2 e2 K4 HLI hc
    go_wp2_with fail
    refine Calls.mono (HP1.out _ KZ.out) ?_
    rintro e w6 ⟨v6, m6, rfl, em6, q6, k6⟩
    have K6 : Hid (Kept w w6) := KZ.out.trans' k6
    have Q6 : Hid (Lst _ w6 v6 m6) := q6
    clear k6 q6 KZ HP1
    obtain ⟨pl, pn, pe⟩ := P
    dsimp only at em6 HP2 HPB
    dsimp only
    go_wp2_with fail
    refine Calls.mono (HP2.out _) ?_
    rintro e w7 ⟨v7, m7, rfl, em7, q7, k7⟩
    have K7 : Hid (Kept w w7) := K6.out.trans' k7
    have HSM : Hid _ := lst_same (Q6.out.on k7) q7 em6 em7 HPB.out.1 HPB.out.2
    clear k7 q7 K6 HP2 Q6 em6 em7 HPB
    go_wp2_with fail
    refine Calls.mono HSM.out ?_
    rintro e w8 ⟨rfl, k8⟩
    have K8 : Hid (Kept w w8) := K7.out.trans' k8
    clear k8 K7 HSM
    go_wp2_with fail
    go_ret
    exact ⟨rfl, K8.out⟩
end Go.Proofs.YtlldgibpajbabaaDoor
