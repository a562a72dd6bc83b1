/- What is proved: the law NotationLines returns true and turns nothing that was there; conditions: the library's table of powers lies as its text lays it, its variable of the greatest length holds a number. -/
import Derived.Test.YtlldgibpajbabaaDoorNoLp
namespace Go.Proofs.YtlldgibpajbabaaDoor
open Go.RowKit

/-- Lists that hold the same transactions are alike. -/
theorem lst_arg {b : Nat} {w : World} {v : Value} {m : List TxR} {a : Option Addr} {c : Nat} {l : List TxR} (h : Lst b w v m) (h' : ArgL w a c l) (e : m.map TxR.t = l.map TxR.t) : Calls Tryd.prog 16 #[v, .slice a l.length c] w fun e w' => e = .returned (.bool true) ∧ Kept w w' := by
  obtain ⟨a', c', rfl, t, -⟩ := OwnT.txs h.row
  have hle := h'.le
  have hm : m.length = l.length := by have := congrArg List.length e; simpa using this
  exact sameL w a' a c' c m l t h'.txs h.deep h'.deep e (by omega) (fun t ht => by
    rw [e] at ht
    obtain ⟨r, hr, rfl⟩ := List.mem_map.1 ht
    have := (h'.each r hr).le
    omega)
theorem plog_lst {b : Nat} {w : World} {v : Value} {m : List TxR} {p : List TxM} (h : Lst b w v m) (e : m.map TxR.t = p) (hl : p.length ≤ 140737488355328) (ht : Tab w.heap.size w) : Calls Tryd.prog 10 #[v] w fun e w' => e = .returned (.tuple #[tx (plogT p).1, .int .i64 ((plogT p).2.1 : Nat), .int .i64 (plogT p).2.2]) ∧ Kept w w' := by
  obtain ⟨a, c, rfl, t, -⟩ := OwnT.txs h.row
  have := printLog_any (c := c) t h.deep (by rw [← List.length_map (f := TxR.t), e]; exact hl) ht
  rw [e] at this
  exact this
/-- The lines of a part of a list of right transactions are printed. -/
theorem plog_right {b : Nat} {w : World} {v : Value} {m : List TxR} {p : List TxM} (h : Lst b w v m) (e : m.map TxR.t = p) (hl : p.length ≤ 4096) (hr : ∀ t ∈ p, Right t) (ht : Tab w.heap.size w) : Calls Tryd.prog 10 #[v] w fun e w' => e = .returned (.tuple #[tx (linesL p), .int .i64 0, .int .i64 0]) ∧ Kept w w' := by
  have h1 := plog_lst h e (by omega) ht
  have h2 : plogT p = (linesL p, 0, 0) := by unfold plogT; rw [if_neg (by rw [check7_ok.2 ⟨hr, hl⟩]; simp)]
  rw [h2] at h1
  exact h1
theorem own_empty {b : Nat} {w : World} {v : Value} {m : List TxR} (h : Lst b w v m) (e : m.map TxR.t = []) : ∃ a c, v = .slice a 0 c := by
  obtain ⟨a, c, e', -⟩ := OwnT.txs h.row
  obtain rfl : m = [] := by simpa using e
  exact ⟨a, c, e'⟩
set_option maxRecDepth 100000 in
set_option maxHeartbeats 1600000 in
theorem lines_law (w : World) (a : Option Addr) (c : Nat) (l : List TxR) (n : Int) (h : ArgL w a c l) (hcap : l.length ≤ c ∧ c ≤ 9223372036854775807) (ht : Tab w.heap.size w) (hm : Mx w) : Calls Tryd.prog 5 #[.slice a l.length c, .int .i64 n] w fun e w' => e = .returned (.bool true) ∧ Kept w w' := by
  have HAN : Hid (∀ W, Kept w W → _) := fun W (k : Kept w W) => anchor_any21 W (ht.up (Nat.le_refl _) k)
  have HC : Hid (∀ W a c l, Kept w W → ArgL w a c l → _) := fun W a c (l : List TxR) (k : Kept w W) (h : ArgL w a c l) => copies_any (h.on k)
  have HK : Hid (∀ W, Kept w W → _) := fun W (k : Kept w W) => check_ref (h.on k)
  have HPL : Hid (∀ W b v m p, Kept w W → Lst b W v m → m.map TxR.t = p → p.length ≤ 4096 → (∀ t ∈ p, Right t) → _) := fun W b v m p (k : Kept w W) (q : Lst b W v m) (e : m.map TxR.t = p) h1 h2 => plog_right q e h1 h2 (ht.up (Nat.le_refl _) k)
  have HP : Hid (∀ W (s : List UInt8), Kept w W → s.length ≤ 4294967280 → Calls Tryd.prog 14 #[tx s] W (PlgP W (plogP s))) := fun W s k hs => parseLog_any s W hs (hm.on k)
  unfold PlgP at HP
  have HSM : Hid (∀ W b v m, Kept w W → Lst b W v m → m.map TxR.t = l.map TxR.t → _) := fun W b v m (k : Kept w W) (q : Lst b W v m) (e : m.map TxR.t = l.map TxR.t) => lst_arg q (h.on k) e
  have HH : Hid (ArgL w a c l ∧ l.length ≤ c ∧ c ≤ 9223372036854775807) := ⟨h, hcap⟩
  have HCK : Hid ((check7 (l.map TxR.t)).2 = 0 → check7 (l.map TxR.t) = (0, 0) ∧ (∀ t ∈ l.map TxR.t, Right t) ∧ l.length ≤ 4096) := fun q => ⟨check7_zero q, (check7_ok.1 q).1, by have := (check7_ok.1 q).2; rw [List.length_map] at this; exact this⟩
  clear h hcap ht hm
  generalize check7 (l.map TxR.t) = CK at *
  obtain ⟨cp, cc⟩ := CK
  dsimp only at HK HCK
  go_enter Tryd.func5, Tryd.ntmps5
  go_wp2_with fail
  refine Calls.mono (HAN.out _ (Same.refl _ w)) ?_
  rintro e w1 ⟨rfl, k1⟩
  have K1 : Hid (Kept w w1) := k1
  clear k1 HAN
  go_wp2_with fail
  refine Calls.mono (HK.out _ K1.out) ?_
  rintro e w2 ⟨rfl, k2⟩
  have K2 : Hid (Kept w w2) := K1.out.trans' k2
  clear k2 K1 HK
  by_cases hc : cc = 0
  · subst hc
    obtain ⟨e1, hr, hl4⟩ := HCK.out rfl
    obtain ⟨rfl, -⟩ := Prod.mk.inj e1
    have HR : Hid (∀ t ∈ l.map TxR.t, Right t) := hr
    have HL4 : Hid (l.length ≤ 4096) := hl4
    clear HCK e1 hr hl4
    by_cases hne : l = []
    · subst hne
      go_wp2_with fail
      go_ret
      exact ⟨rfl, K2.out⟩
    · have hn0 : ((l.length : Int) == 0) = false := beq_eq_false_iff_ne.2 (by intro e; exact hne (List.eq_nil_of_length_eq_zero (by omega)))
      have HNE : Hid (l ≠ []) := hne
      clear hne
      go_wp2_with fail
      refine Calls.mono (HC.out _ a c l K2.out HH.out.1) ?_
      rintro e w3 ⟨v3, m3, rfl, em3, q3, k3⟩
      have K3 : Hid (Kept w w3) := K2.out.trans' k3
      have HPW : Hid _ := HPL.out w3 _ v3 m3 (l.map TxR.t) K3.out q3 em3 (by rw [List.length_map]; exact HL4.out) HR.out
      have HL5 : Hid ((l.map TxR.t).length ≤ 4096) := by show _ ≤ _; rw [List.length_map]; exact HL4.out
      have PALL : Hid (plogP (linesL (l.map TxR.t)) = (l.map TxR.t, 0, 0)) := plogP_all HR.out HL5.out
      have PCUT : Hid (plogP ((linesL (l.map TxR.t)).take ((linesL (l.map TxR.t)).length - 1)) = ([], l.length - 1, 210)) := by
        have := plogP_cut HR.out HL5.out (by simpa using HNE.out)
        rw [List.length_map] at this
        exact this
      have PHOLE : Hid (∀ k, k ≤ l.length → plogP (linesL ((l.map TxR.t).take k) ++ [10] ++ linesL ((l.map TxR.t).drop k)) = ([], k, if k = 4096 then 71 else 210)) := fun k hk => plogP_hole HR.out (by have := HL4.out; omega) (by rw [List.length_map]; exact hk) _
      have LAPP : Hid (∀ k, linesL ((l.map TxR.t).take k) ++ linesL ((l.map TxR.t).drop k) = linesL (l.map TxR.t)) := fun k => by rw [← lines_app, List.take_append_drop]
      have LLEN : Hid ((linesL (l.map TxR.t)).length ≤ 4202496 ∧ linesL (l.map TxR.t) ≠ []) := ⟨by
        have := lines_len HR.out
        have := HL5.out
        omega, fun q => by
        cases l with
        | nil => exact HNE.out rfl
        | cons r l =>
          rw [List.map_cons, ← List.append_nil (linesL _), lines_cons] at q
          simp at q⟩
      have HLI : Hid ((l.length : Int) ≤ 4096) := by show _ ≤ _; have := HL4.out; omega
      clear k3 K2 em3 q3
      generalize linesL (l.map TxR.t) = LS at *
      have hLS : LS.isEmpty = false := by
        cases LS with
        | nil => exact absurd rfl LLEN.out.2
        | cons x y => rfl
      have hLS2 : LS ≠ [] := LLEN.out.2
      have HPA : Hid (∀ W, Kept w W → Calls Tryd.prog 14 #[tx LS] W fun e w' => ∃ v m, e = .returned (.tuple #[v, .int .i64 0, .int .i64 0]) ∧ m.map TxR.t = l.map TxR.t ∧ Lst W.heap.size w' v m ∧ Kept W w') := fun W k => by
        have := HP.out W LS k (by have := LLEN.out.1; omega)
        rw [PALL.out] at this
        exact this
      go_wp2_with fail
      refine Calls.mono HPW.out ?_
      rintro e w4 ⟨rfl, k4⟩
      have K4 : Hid (Kept w w4) := K3.out.trans' k4
      clear k4 K3 HPW
      go_wp2_with fail
      refine Calls.mono (HPA.out _ K4.out) ?_
      rintro e w5 ⟨v5, m5, rfl, em5, q5, k5⟩
      have K5 : Hid (Kept w w5) := K4.out.trans' k5
      have HSW : Hid _ := HSM.out w5 _ v5 m5 K5.out q5 em5
      clear k5 K4 HPA em5 q5 HSM hLS hLS2
      go_wp2_with fail
      refine Calls.mono HSW.out ?_
      rintro e w6 ⟨rfl, k6⟩
      have K6 : Hid (Kept w w6) := K5.out.trans' k6
      clear k6 K5 HSW
      obtain ⟨N1, eN1⟩ : ∃ N1, N1 = LS.length - 1 := ⟨_, rfl⟩
      obtain ⟨N2, eN2⟩ : ∃ N2, N2 = l.length - 1 := ⟨_, rfl⟩
      have hl0 : 0 < LS.length := by
        have := LLEN.out.2
        rcases Nat.eq_zero_or_pos LS.length with q | q
        · exact absurd (List.eq_nil_of_length_eq_zero q) this
        · exact q
      have hl1 : 0 < l.length := by
        rcases Nat.eq_zero_or_pos l.length with q | q
        · exact absurd (List.eq_nil_of_length_eq_zero q) HNE.out
        · exact q
      have hw1 : wrap64 ((LS.length : Int) - 1) = (N1 : Int) := by have := LLEN.out.1; unfold wrap64; omega
      have hw2 : wrap64 ((l.length : Int) - 1) = (N2 : Int) := by have := HL4.out; unfold wrap64; omega
      have hs1 : ∀ w, _ := to_tx LS N1 (by omega)
      have HPC : Hid (∀ W, Kept w W → Calls Tryd.prog 14 #[tx (LS.take N1)] W fun e w' => ∃ v m, e = .returned (.tuple #[v, .int .i64 (N2 : Int), .int .i64 210]) ∧ m.map TxR.t = [] ∧ Lst W.heap.size w' v m ∧ Kept W w') := fun W k => by
        have := HP.out W (LS.take N1) k (by have := LLEN.out.1; rw [List.length_take]; omega)
        rw [eN1, PCUT.out, ← eN2] at this
        rw [eN1]
        exact this
      clear eN1 eN2 hl0 hl1 PCUT PALL
      generalize LS.take N1 = S2 at *
      go_wp2_with fail
      refine Calls.mono (HPC.out _ K6.out) ?_
      rintro e w7 ⟨v7, m7, rfl, em7, q7, k7⟩
      obtain ⟨a7, c7, rfl⟩ := own_empty q7 em7
      have K7 : Hid (Kept w w7) := K6.out.trans' k7
      clear k7 K6 HPC em7 q7 hs1 hw1
      by_cases hn1 : n < 0
      · have c1 : decide (n < 0) = true := decide_eq_true hn1
        go_wp2_with fail
        go_ret
        exact ⟨rfl, K7.out⟩
      · by_cases hn2 : n > (l.length : Int)
        · have c1 : decide (n < 0) = false := decide_eq_false hn1
          have c2 : decide (n > (l.length : Int)) = true := decide_eq_true hn2
          have c3 : (l.length : Int) < n := hn2
          go_wp2_with fail
          go_ret
          exact ⟨rfl, K7.out⟩
        · obtain ⟨k, rfl⟩ : ∃ k : Nat, n = (k : Int) := ⟨n.toNat, by omega⟩
          have hk : k ≤ l.length := by omega
          have c1 : decide ((k : Int) < 0) = false := decide_eq_false hn1
          have c2 : decide ((k : Int) > (l.length : Int)) = false := decide_eq_false hn2
          have c3 : ¬ (l.length : Int) < (k : Int) := hn2
          have c4 : decide (l.length < k) = false := decide_eq_false (by omega)
          have HKL : Hid (k ≤ l.length) := hk
          clear hn1 hn2
          obtain ⟨b, off, rfl⟩ : ∃ b off, a = some ⟨b, off, none⟩ := by
            cases l with
            | nil => exact absurd rfl HNE.out
            | cons r l =>
              obtain ⟨b, off, e, -⟩ := HH.out.1.txs 0 r rfl
              exact ⟨b, off, e⟩
          obtain ⟨hcut1, a2, hcut2, hdr⟩ := arg_cut HH.out.1 HH.out.2.1 k hk
          have HT : Hid (ArgL w (some ⟨b, off, none⟩) c (l.take k)) := arg_take HH.out.1 k
          have HD : Hid (ArgL w a2 (c - k) (l.drop k)) := hdr
          have PH : Hid (plogP (linesL ((l.take k).map TxR.t) ++ [10] ++ linesL ((l.drop k).map TxR.t)) = ([], k, if k = 4096 then 71 else 210)) := by
            show _ = _
            rw [List.map_take, List.map_drop]
            exact PHOLE.out k hk
          have LA : Hid (linesL ((l.take k).map TxR.t) ++ linesL ((l.drop k).map TxR.t) = LS) := by
            show _ = _
            rw [List.map_take, List.map_drop]
            exact LAPP.out k
          have R1 : Hid (((l.take k).map TxR.t).length ≤ 4096 ∧ ∀ t ∈ (l.take k).map TxR.t, Right t) := by
            refine ⟨by have := HL4.out; rw [List.length_map, List.length_take]; omega, fun t ht => ?_⟩
            rw [List.map_take] at ht
            exact HR.out t (List.mem_of_mem_take ht)
          have R2 : Hid (((l.drop k).map TxR.t).length ≤ 4096 ∧ ∀ t ∈ (l.drop k).map TxR.t, Right t) := by
            refine ⟨by have := HL4.out; rw [List.length_map, List.length_drop]; omega, fun t ht => ?_⟩
            rw [List.map_drop] at ht
            exact HR.out t (List.mem_of_mem_drop ht)
          have LN : Hid ((linesL ((l.take k).map TxR.t)).length ≤ 4202496 ∧ (linesL ((l.drop k).map TxR.t)).length ≤ 4202496) := by
            have h1 := lines_len R1.out.2
            have h2 := lines_len R2.out.2
            have h3 := R1.out.1
            have h4 := R2.out.1
            exact ⟨by omega, by omega⟩
          clear hdr PHOLE LAPP hk LLEN HNE HR
          generalize l.take k = LT at *
          generalize l.drop k = LD at *
          go_wp2_with fail
          refine Calls.mono (HC.out _ _ c LT K7.out HT.out) ?_
          rintro e w8 ⟨v8, m8, rfl, em8, q8, k8⟩
          have K8 : Hid (Kept w w8) := K7.out.trans' k8
          have HPW8 : Hid _ := HPL.out w8 _ v8 m8 (LT.map TxR.t) K8.out q8 em8 R1.out.1 R1.out.2
          clear k8 em8 q8 K7 HT R1 hcut1
          generalize linesL (LT.map TxR.t) = A at *
          go_wp2_with fail
          refine Calls.mono HPW8.out ?_
          rintro e w9 ⟨rfl, k9⟩
          have K9 : Hid (Kept w w9) := K8.out.trans' k9
          clear k9 K8 HPW8
          go_wp2_with fail
          refine Calls.mono (HC.out _ a2 (c - k) LD K9.out HD.out) ?_
          rintro e w10 ⟨v10, m10, rfl, em10, q10, k10⟩
          have K10 : Hid (Kept w w10) := K9.out.trans' k10
          have HPW10 : Hid _ := HPL.out w10 _ v10 m10 (LD.map TxR.t) K10.out q10 em10 R2.out.1 R2.out.2
          clear k10 em10 q10 K9 HD R2 hcut2 HC HPL HH
          generalize linesL (LD.map TxR.t) = B at *
          go_wp2_with fail
          refine Calls.mono HPW10.out ?_
          rintro e w11 ⟨rfl, k11⟩
          have K11 : Hid (Kept w w11) := K10.out.trans' k11
          clear k11 K10 HPW10
          have AB : Hid ((⟨A.toArray⟩ : ByteArray) ++ (⟨B.toArray⟩ : ByteArray) = ⟨(A ++ B).toArray⟩) := add_bytes A B
          have hsz1 : ¬ 9223372036854775807 < A.length + B.length := by have := LN.out; omega
          have hsz2 : ¬ 9223372036854775807 < A.length + 1 := by have := LN.out; omega
          have hsz3 : ¬ 9223372036854775807 < A.length + 1 + B.length := by have := LN.out; omega
          have hq : (((⟨A.toArray⟩ : ByteArray) ++ (⟨B.toArray⟩ : ByteArray)).toList == LS) = true := by rw [AB.out, LA.out, ByteArray.toList_eq]; simp
          have ABN : Hid ((⟨A.toArray⟩ : ByteArray) ++ (⟨#[10]⟩ : ByteArray) ++ (⟨B.toArray⟩ : ByteArray) = ⟨(A ++ [10] ++ B).toArray⟩) := by
            show _ = _
            rw [show (⟨#[10]⟩ : ByteArray) = ⟨[10].toArray⟩ from rfl, add_bytes, add_bytes]
          have HPZ : Hid (∀ W, Kept w W → Calls Tryd.prog 14 #[tx (A ++ [10] ++ B)] W fun e w' => ∃ v m, e = .returned (.tuple #[v, .int .i64 (k : Int), .int .i64 (if k = 4096 then 71 else 210)]) ∧ m.map TxR.t = [] ∧ Lst W.heap.size w' v m ∧ Kept W w') := fun W kk => by
            have := HP.out W (A ++ [10] ++ B) kk (by have := LN.out; rw [List.length_append, List.length_append]; simp only [List.length_cons, List.length_nil]; omega)
            rw [PH.out] at this
            exact this
          clear PH LA HP LN
          go_wp2_with fail
          rw [ABN.out]
          refine Calls.mono (HPZ.out _ K11.out) ?_
          rintro e w12 ⟨v12, m12, rfl, em12, q12, k12⟩
          obtain ⟨a12, c12, rfl⟩ := own_empty q12 em12
          have K12 : Hid (Kept w w12) := K11.out.trans' k12
          clear k12 K11 HPZ em12 q12 ABN AB hq hsz1 hsz2 hsz3
          have hl2 := HL4.out
          have hk2 := HKL.out
          by_cases h4 : k = 4096
          · have d1 : decide ((l.length : Int) ≥ 4096) = true := decide_eq_true (by omega)
            have d2 : 4096 ≤ (l.length : Int) := by omega
            have d3 : 4096 ≤ l.length := by omega
            subst h4
            rw [if_pos rfl]
            go_wp2_with fail
            go_ret
            exact ⟨rfl, K12.out⟩
          · rw [if_neg h4]
            have d1 : decide ((k : Int) ≥ 4096) = false := decide_eq_false (by omega)
            have d2 : ¬ 4096 ≤ (k : Int) := by omega
            have d3 : ¬ 4096 ≤ k := by omega
            have d4 : k < 4096 := by omega
            go_wp2_with fail
            all_goals (go_ret; exact ⟨rfl, K12.out⟩)
  · have hc' : (cc == 0) = false := beq_eq_false_iff_ne.2 hc
    have hc2 : (cc != 0) = true := by rw [bne, hc']; rfl
    clear HCK hc hc'
    go_wp2_with fail
    go_ret
    exact ⟨rfl, K2.out⟩
end Go.Proofs.YtlldgibpajbabaaDoor
