/- What is proved: LogfileCut answers true for every list of transactions, every number and every list of bytes. -/
import Derived.Test.YthnhfahkanpjjabLOneL
import Derived.Test.YthnhfahkanpjjabLChk
import Derived.Test.YthnhfahkanpjjabLBackD
namespace Go.Proofs.Ythnhfahkanpjjab
open Go.RowKit

/-- append onto a row of one's own, however long. -/
theorem app_wide {w : World} {base : Nat} {v : Value} {xs l : List Int} {oa : Option Addr} {c : Nat} (hown : OwnB base w v xs) (hl : BytesAt w oa l) (hnil : oa = none → l.length = 0 ∧ c = 0) (hb : xs.length + l.length ≤ 211106232532992) (hbase : base ≤ w.heap.size) (ty : TypeId) :
    ∃ v' w', (Builtin.append_ #[23, 23] ty #[v, .slice oa l.length c]).run Try.prog w = .ok v' w' ∧ OwnB base w' v' (xs ++ l) ∧ Same (fun k => base ≤ k) w w' := by
  obtain ⟨i0, hi0, hz0, hz1, hz2⟩ := info_parts Try.infoByte
  cases oa with
  | none =>
    obtain ⟨h0, rfl⟩ := hnil rfl
    obtain rfl : l = [] := List.eq_nil_of_length_eq_zero h0
    refine ⟨v, w, run_append_owned_none (P := Try.prog) (w := w) base 23 ty 5 i0 1 Try.underlying23 hi0 v xs.length _ hown, ?_, Same.refl _ _⟩
    simpa using hown
  | some ad =>
    obtain ⟨v', w', hr, r1, r2, -⟩ := Go.run_append_own_wide (P := Try.prog) w base 23 ty 5 i0 _ 1 1 Try.underlying23 hi0 hz0 hz1 hz2 rfl (by decide) v xs.length (byt xs) hown ad l.length c (byt l) (by rw [length_byt, Nat.mul_one])
      (fun j u hu => by
        rw [byt_get] at hu
        obtain ⟨x, hx, rfl⟩ := Option.map_eq_some_iff.1 hu
        obtain ⟨b', off', e, _, hc⟩ := hl _ _ hx
        cases e
        rw [Addr.add_lit]
        exact hc) (byt_one _) (by unfold maxLen; omega) (by omega) hbase
    rw [← byt_append] at r1
    exact ⟨v', w', hr, by rw [OwnB, List.length_append]; exact r1, Same.of_grown r2 (fun k e => (hown.block e).1)⟩
set_option maxRecDepth 100000 in
set_option maxHeartbeats 1600000 in
theorem lcut_no (w : World) (oa : Option Addr) (c : Nat) (l : List TxR) (ct : Int) (ob : Option Addr) (cb : Nat) (q : List Int) (h : ArgL w oa c l) (hc : (check7 (l.map TxR.t)).2 ≠ 0) :
    Calls Try.prog 3 #[.slice oa l.length c, .int .i64 ct, .slice ob q.length cb] w fun e w' => e = .returned (.bool true) ∧ Kept w w' := by
  have HC : Hid (∀ W, Kept w W → _) := fun W (k : Kept w W) => check_ref (h.on k)
  obtain ⟨L, eL⟩ : ∃ L, L = l.length := ⟨_, rfl⟩
  rw [← eL] at HC ⊢
  generalize check7 (l.map TxR.t) = z at HC hc
  obtain ⟨z1, z2⟩ := z
  have hz : (z2 != 0) = true := by simpa using hc
  simp only at HC
  clear h hc eL
  go_enter Try.func3, Try.ntmps3
  go_wp2_with fail
  refine Calls.mono (anchor_any w) ?_
  rintro e w1 ⟨rfl, k1⟩
  have K1 : Hid _ := k1
  clear k1
  go_wp2_with fail
  refine Calls.mono (HC.out _ K1.out) ?_
  rintro e w2 ⟨rfl, k2⟩
  have K2 : Hid _ := K1.out.trans' k2
  clear k2
  go_wp2_with fail
  go_ret
  exact ⟨rfl, K2.out⟩
set_option maxRecDepth 100000 in
set_option maxHeartbeats 3200000 in
theorem lcut_ok (w : World) (oa : Option Addr) (c : Nat) (l : List TxR) (ct : Int) (ob : Option Addr) (cb : Nat) (q : List Int) (h : ArgL w oa c l) (hq : ArgB w ob cb q) (hc : (check7 (l.map TxR.t)).2 = 0) :
    Calls Try.prog 3 #[.slice oa l.length c, .int .i64 ct, .slice ob q.length cb] w fun e w' => e = .returned (.bool true) ∧ Kept w w' := by
  obtain ⟨hr, hl⟩ := check7_ok.1 hc
  have HC : Hid (∀ W, Kept w W → _) := fun W (k : Kept w W) => check_ref (h.on k)
  rw [check7_zero hc] at HC
  have HCP : Hid (∀ W, Kept w W → _) := fun W (k : Kept w W) => copies_any (h.on k)
  obtain ⟨L, eL⟩ : ∃ L, L = l.length := ⟨_, rfl⟩
  rw [← eL] at HC HCP ⊢
  obtain ⟨ts, ets⟩ : ∃ ts, ts = l.map TxR.t := ⟨_, rfl⟩
  rw [← ets] at hr hl HCP
  have HT : Hid ((∀ t ∈ ts, Right t) ∧ ts.length ≤ 4096) := ⟨hr, hl⟩
  obtain ⟨ll1, ll2⟩ := log_len hr hl
  obtain ⟨lg, elg⟩ : ∃ lg, lg = log7 ts := ⟨_, rfl⟩
  have hdec := dec7_log hr hl
  have hby := byts_log ts
  rw [← elg] at ll1 ll2 hdec hby
  have ELG : Hid _ := elg
  have hqle := hq.le
  have HQ : Hid _ := hq
  clear h hc eL hr hl ets
  go_enter Try.func3, Try.ntmps3
  go_wp2_with fail
  refine Calls.mono (anchor_any w) ?_
  rintro e w1 ⟨rfl, k1⟩
  have K1 : Hid _ := k1
  clear k1
  go_wp2_with fail
  refine Calls.mono (HC.out _ K1.out) ?_
  rintro e w2 ⟨rfl, k2⟩
  have K2 : Hid _ := K1.out.trans' k2
  clear k2
  go_wp2_with fail
  refine Calls.mono (HCP.out _ K2.out) ?_
  rintro e w3 ⟨v3, m3, rfl, e3, s3, k3⟩
  have K3 : Hid _ := K2.out.trans' k3
  have HE : Hid _ := enc7_own s3 (by rw [e3]; exact HT.out.1) (by have := HT.out.2; rw [← e3, List.length_map] at this; exact this)
  rw [e3, ← ELG.out] at HE
  clear k3 s3 e3 elg HC HCP HT
  go_wp2_with fail
  refine Calls.mono HE.out ?_
  rintro e w4 ⟨u4, rfl, o4, k4⟩
  have K4 : Hid _ := K3.out.trans' k4
  obtain ⟨N, eN⟩ : ∃ N, N = lg.length := ⟨_, rfl⟩
  have EN : Hid _ := eN
  obtain ⟨a4, c4, rfl, d4, hcap4, n4, -, -⟩ := OwnB.bytes o4
  have O4 : Hid _ := o4
  have HB4 : Hid _ := hby
  have HDC : Hid _ := hdec
  rw [← eN] at ll1 ll2 hcap4 ⊢
  -- the whole, with the tail
  have HA1 : Hid (∀ W, Kept w4 W → ∀ ty, _) := fun W (k : Kept w4 W) ty => app_lit (c := c4) (BytesAt.kept d4 k (fun _ _ h => h)) n4 (by rw [← eN]; omega) ty
  rw [← eN] at HA1
  have HA2 : Hid (∀ W W2 v, Kept w W → Kept W W2 → OwnB W.heap.size W2 v lg → ∀ ty, _) := fun W W2 v (k : Kept w W) (k2 : Kept W W2) (o : OwnB W.heap.size W2 v lg) ty => app_wide (c := cb) o ((HQ.out.on k).on k2).data HQ.out.nil (by rw [← eN]; omega) k2.size ty
  obtain ⟨m, em⟩ : ∃ m, m = q.length := ⟨_, rfl⟩
  have EM : Hid _ := em
  rw [← em] at HA2 hqle ⊢
  have hmi : (m : Int) ≤ 140737488351232 := by omega
  have hNi : (N : Int) ≤ 1908743 := by omega
  have HAC : Hid (∀ W, Kept w4 W → ∀ ty, ∀ k, k < N → ∃ v' w', (Builtin.append_ #[23, 23] ty #[.slice (some ⟨W.heap.size, 0, none⟩) 0 0, .slice a4 k c4]).run Try.prog (W.alloc (.cells #[] 5)) = .ok v' w' ∧ OwnB W.heap.size w' v' (lg.take k) ∧ Kept W w') := fun W (k : Kept w4 W) ty kc hkc => by
    have hlk : (lg.take kc).length = kc := by rw [List.length_take]; omega
    have := app_lit (c := c4) (bytes_take (BytesAt.kept d4 k (fun _ _ h => h)) kc) (fun e => by have := n4 e; omega) (by rw [hlk]; omega) ty
    rw [hlk] at this
    exact this
  clear o4 d4 n4 k4 hby hdec em eN HE
  by_cases hc1 : 0 ≤ ct
  · have d1 : decide (ct ≥ 0) = true := decide_eq_true hc1
    obtain ⟨kc, rfl⟩ := Int.eq_ofNat_of_zero_le hc1
    by_cases hc2 : kc < N
    · have d2 : decide ((kc : Int) < (N : Int)) = true := decide_eq_true (by omega)
      have d2' : (kc : Int) < (N : Int) := by omega
      have hkc4 : kc ≤ c4 := by omega
      obtain ⟨pe, hpe, hde⟩ := dec7_cut HB4.out HDC.out (c := kc) (by rw [← EN.out]; exact hc2)
      have HCA : Hid (∀ W, Kept w4 W → ∀ ty, _) := fun W (k : Kept w4 W) ty => HAC.out W k ty kc hc2
      have HDE : Hid (∀ base W v, OwnB base W v (lg.take kc) → _) := fun base W v (o : OwnB base W v (lg.take kc)) => dec7_own_no o (Byts.take HB4.out kc) (by rw [List.length_take]; omega) hde
      have e1 : decide ((pe : Int) < 0) = false := decide_eq_false (by omega)
      have e2 : decide ((pe : Int) > (kc : Int)) = false := decide_eq_false (by omega)
      have e2' : (pe : Int) ≤ (kc : Int) := by omega
      clear hde HAC hc1
      go_wp2_with (at_builtin; refine wpList_app rfl (.tmp 45) (.tmp 48) 23 23 rfl _ _ rfl rfl _ (HCA.out _ (Same.refl _ _)) ?_; rintro vc wc ⟨oc, kc'⟩; have OC : Hid _ := oc; have KC : Hid _ := kc'; clear oc kc')
      refine Calls.mono (HDE.out _ _ _ OC.out) ?_
      rintro x wd ⟨rfl, kd⟩
      have KX : Hid (Kept w4 wd) := KC.out.trans' kd
      clear kd
      go_wp2_with (first
        | (at_builtin; refine wpList_app rfl (.tmp 66) (.tmp 67) 23 23 rfl _ _ rfl rfl _ (HA1.out _ KX.out) ?_; rintro v5 w5 ⟨o5, k5⟩; have O5 : Hid _ := o5; have K5 : Hid _ := k5; have HA5 : Hid _ := HA2.out _ _ _ (K4.out.trans' KX.out) k5 o5; clear o5 k5)
        | (at_builtin; refine wpList_app rfl (.tmp 68) (.tmp 69) 23 23 rfl _ _ rfl rfl _ HA5.out ?_; rintro v6 w6 ⟨o6, k6⟩; have O6 : Hid _ := o6; have K6 : Hid _ := k6; clear o6 k6))
      have K7 : Hid (Kept w w6) := (K4.out.trans' (KX.out.trans' K5.out)).trans K6.out (fun i hi e => absurd e (by have := K4.out.size; have := KX.out.size; omega))
      have hb6 : (lg ++ q).length ≤ 211106232532992 := by have h1 := EN.out; have h2 := EM.out; rw [List.length_append]; omega
      by_cases hm0 : m = 0
      · subst hm0
        have hq0 : q = [] := List.eq_nil_of_length_eq_zero EM.out.symm
        have o6 := O6.out
        rw [hq0, List.append_nil] at o6
        rw [hq0, List.append_nil] at hb6
        refine Calls.mono (dec7_own_ok o6 HB4.out hb6 HDC.out) ?_
        rintro x w7 ⟨v7, l7, -, rfl, m7, k7⟩
        have K8 : Hid _ := K7.out.trans' k7
        obtain ⟨a7, c7, rfl, -⟩ := OwnT.txs m7.row
        clear o6 m7 k7
        go_wp2_with fail
        go_ret
        exact ⟨rfl, K8.out⟩
      · have hm1 : ((m : Int) == 0) = false := by simpa using fun c => hm0 (by omega)
        have hq0 : q ≠ [] := fun e => hm0 (by rw [EM.out, e]; rfl)
        have hdt := dec7_tail HB4.out HDC.out hq0
        rw [← EN.out] at hdt
        have hnn : ((N : Int) == (N : Int)) = true := by simp
        refine Calls.mono (dec7_own_no O6.out (Byts.append HB4.out HQ.out.byts) hb6 hdt) ?_
        rintro x w7 ⟨rfl, k7⟩
        have K8 : Hid _ := K7.out.trans' k7
        clear hdt hq0 hm0 k7
        go_wp2_with fail
        go_ret
        exact ⟨rfl, K8.out⟩
    · have d2 : decide ((kc : Int) < (N : Int)) = false := decide_eq_false (by omega)
      have d2' : (N : Int) ≤ (kc : Int) := by omega
      have KX : Hid (Kept w4 w4) := Same.refl _ _
      clear HAC hc1 hc2
      go_wp2_with (first
        | (at_builtin; refine wpList_app rfl (.tmp 66) (.tmp 67) 23 23 rfl _ _ rfl rfl _ (HA1.out _ KX.out) ?_; rintro v5 w5 ⟨o5, k5⟩; have O5 : Hid _ := o5; have K5 : Hid _ := k5; have HA5 : Hid _ := HA2.out _ _ _ (K4.out.trans' KX.out) k5 o5; clear o5 k5)
        | (at_builtin; refine wpList_app rfl (.tmp 68) (.tmp 69) 23 23 rfl _ _ rfl rfl _ HA5.out ?_; rintro v6 w6 ⟨o6, k6⟩; have O6 : Hid _ := o6; have K6 : Hid _ := k6; clear o6 k6))
      have K7 : Hid (Kept w w6) := (K4.out.trans' (KX.out.trans' K5.out)).trans K6.out (fun i hi e => absurd e (by have := K4.out.size; have := KX.out.size; omega))
      have hb6 : (lg ++ q).length ≤ 211106232532992 := by have h1 := EN.out; have h2 := EM.out; rw [List.length_append]; omega
      by_cases hm0 : m = 0
      · subst hm0
        have hq0 : q = [] := List.eq_nil_of_length_eq_zero EM.out.symm
        have o6 := O6.out
        rw [hq0, List.append_nil] at o6
        rw [hq0, List.append_nil] at hb6
        refine Calls.mono (dec7_own_ok o6 HB4.out hb6 HDC.out) ?_
        rintro x w7 ⟨v7, l7, -, rfl, m7, k7⟩
        have K8 : Hid _ := K7.out.trans' k7
        obtain ⟨a7, c7, rfl, -⟩ := OwnT.txs m7.row
        clear o6 m7 k7
        go_wp2_with fail
        go_ret
        exact ⟨rfl, K8.out⟩
      · have hm1 : ((m : Int) == 0) = false := by simpa using fun c => hm0 (by omega)
        have hq0 : q ≠ [] := fun e => hm0 (by rw [EM.out, e]; rfl)
        have hdt := dec7_tail HB4.out HDC.out hq0
        rw [← EN.out] at hdt
        have hnn : ((N : Int) == (N : Int)) = true := by simp
        refine Calls.mono (dec7_own_no O6.out (Byts.append HB4.out HQ.out.byts) hb6 hdt) ?_
        rintro x w7 ⟨rfl, k7⟩
        have K8 : Hid _ := K7.out.trans' k7
        clear hdt hq0 hm0 k7
        go_wp2_with fail
        go_ret
        exact ⟨rfl, K8.out⟩
  · have d1 : decide (ct ≥ 0) = false := decide_eq_false hc1
    have d1' : ct < 0 := by omega
    have KX : Hid (Kept w4 w4) := Same.refl _ _
    clear HAC hc1
    go_wp2_with (first
      | (at_builtin; refine wpList_app rfl (.tmp 66) (.tmp 67) 23 23 rfl _ _ rfl rfl _ (HA1.out _ KX.out) ?_; rintro v5 w5 ⟨o5, k5⟩; have O5 : Hid _ := o5; have K5 : Hid _ := k5; have HA5 : Hid _ := HA2.out _ _ _ (K4.out.trans' KX.out) k5 o5; clear o5 k5)
      | (at_builtin; refine wpList_app rfl (.tmp 68) (.tmp 69) 23 23 rfl _ _ rfl rfl _ HA5.out ?_; rintro v6 w6 ⟨o6, k6⟩; have O6 : Hid _ := o6; have K6 : Hid _ := k6; clear o6 k6))
    have K7 : Hid (Kept w w6) := (K4.out.trans' (KX.out.trans' K5.out)).trans K6.out (fun i hi e => absurd e (by have := K4.out.size; have := KX.out.size; omega))
    have hb6 : (lg ++ q).length ≤ 211106232532992 := by have h1 := EN.out; have h2 := EM.out; rw [List.length_append]; omega
    by_cases hm0 : m = 0
    · subst hm0
      have hq0 : q = [] := List.eq_nil_of_length_eq_zero EM.out.symm
      have o6 := O6.out
      rw [hq0, List.append_nil] at o6
      rw [hq0, List.append_nil] at hb6
      refine Calls.mono (dec7_own_ok o6 HB4.out hb6 HDC.out) ?_
      rintro x w7 ⟨v7, l7, -, rfl, m7, k7⟩
      have K8 : Hid _ := K7.out.trans' k7
      obtain ⟨a7, c7, rfl, -⟩ := OwnT.txs m7.row
      clear o6 m7 k7
      go_wp2_with fail
      go_ret
      exact ⟨rfl, K8.out⟩
    · have hm1 : ((m : Int) == 0) = false := by simpa using fun c => hm0 (by omega)
      have hq0 : q ≠ [] := fun e => hm0 (by rw [EM.out, e]; rfl)
      have hdt := dec7_tail HB4.out HDC.out hq0
      rw [← EN.out] at hdt
      have hnn : ((N : Int) == (N : Int)) = true := by simp
      refine Calls.mono (dec7_own_no O6.out (Byts.append HB4.out HQ.out.byts) hb6 hdt) ?_
      rintro x w7 ⟨rfl, k7⟩
      have K8 : Hid _ := K7.out.trans' k7
      clear hdt hq0 hm0 k7
      go_wp2_with fail
      go_ret
      exact ⟨rfl, K8.out⟩
end Go.Proofs.Ythnhfahkanpjjab
