/- What is proved: LogfileMemory answers true for every list of transactions, and all that was there stays as it was. -/
import Derived.Test.YtflemfohnpjeaaaLMmA
namespace Go.Proofs.Ytflemfohnpjeaaa
open Go.RowKit

set_option maxRecDepth 100000 in
set_option maxHeartbeats 1600000 in
theorem lmem_no (w : World) (oa : Option Addr) (c : Nat) (l : List TxR) (h : ArgL w oa c l) (hc : (check7 (l.map TxR.t)).2 ≠ 0) :
    Calls Try.prog 3 #[.slice oa l.length c] w fun e w' => e = .returned (.bool true) ∧ Kept w w' := by
  have HC : Hid (∀ W, Kept w W → _) := fun W (k : Kept w W) => check_ref (h.on k)
  obtain ⟨L, eL⟩ : ∃ L, L = l.length := ⟨_, rfl⟩
  rw [← eL] at HC ⊢
  generalize check7 (l.map TxR.t) = z at HC hc
  obtain ⟨z1, z2⟩ := z
  have hz : (z2 != 0) = true := by simpa using hc
  simp only at HC
  clear h hc eL
  go_enter Try.func3, Try.ntmps3
  go_wp2_with fail
  refine Calls.mono (anchor_any w) ?_
  rintro e w1 ⟨rfl, k1⟩
  have K1 : Hid _ := k1
  clear k1
  go_wp2_with fail
  refine Calls.mono (HC.out _ K1.out) ?_
  rintro e w2 ⟨rfl, k2⟩
  have K2 : Hid _ := K1.out.trans' k2
  clear k2
  go_wp2_with fail
  go_ret
  exact ⟨rfl, K2.out⟩
set_option maxRecDepth 100000 in
set_option maxHeartbeats 1600000 in
theorem lmem_nil (w : World) (oa : Option Addr) (c : Nat) (l : List TxR) (h : ArgL w oa c l) (hc : (check7 (l.map TxR.t)).2 = 0) (h0 : l.length < 1) :
    Calls Try.prog 3 #[.slice oa l.length c] w fun e w' => e = .returned (.bool true) ∧ Kept w w' := by
  have HC : Hid (∀ W, Kept w W → _) := fun W (k : Kept w W) => check_ref (h.on k)
  rw [check7_zero hc] at HC
  obtain ⟨L, eL⟩ : ∃ L, L = l.length := ⟨_, rfl⟩
  rw [← eL] at HC h0 ⊢
  have d1 : decide ((L : Int) < 1) = true := decide_eq_true (by omega)
  clear h hc eL
  go_enter Try.func3, Try.ntmps3
  go_wp2_with fail
  refine Calls.mono (anchor_any w) ?_
  rintro e w1 ⟨rfl, k1⟩
  have K1 : Hid _ := k1
  clear k1
  go_wp2_with fail
  refine Calls.mono (HC.out _ K1.out) ?_
  rintro e w2 ⟨rfl, k2⟩
  have K2 : Hid _ := K1.out.trans' k2
  clear k2
  go_wp2_with fail
  go_ret
  exact ⟨rfl, K2.out⟩
set_option maxRecDepth 100000 in
set_option maxHeartbeats 6400000 in
theorem lmem_ok (w : World) (oa : Option Addr) (c : Nat) (l : List TxR) (h : ArgL w oa c l) (hc : (check7 (l.map TxR.t)).2 = 0) (h0 : ¬ l.length < 1) :
    Calls Try.prog 3 #[.slice oa l.length c] w fun e w' => e = .returned (.bool true) ∧ Kept w w' := by
  obtain ⟨hr, hl⟩ := check7_ok.1 hc
  have HC : Hid (∀ W, Kept w W → _) := fun W (k : Kept w W) => check_ref (h.on k)
  rw [check7_zero hc] at HC
  have HCP : Hid (∀ W, Kept w W → _) := fun W (k : Kept w W) => copies_any (h.on k)
  have HSL : Hid (∀ W base v m, Kept w W → Lst base W v m → m.map TxR.t = l.map TxR.t → _) := fun W base v m (k : Kept w W) (hm : Lst base W v m) he => same_arg hm (h.on k) he hr
  have HLA : Hid (ArgL w oa c l) := h
  obtain ⟨L, eL⟩ : ∃ L, L = l.length := ⟨_, rfl⟩
  obtain ⟨ts, ets⟩ : ∃ ts, l.map TxR.t = ts := ⟨_, rfl⟩
  have hlts : ts.length = L := by rw [← ets, List.length_map, eL]
  rw [ets] at hr hl HSL HCP
  obtain ⟨hd1, hd2⟩ := log_len hr hl
  rw [← eL] at HC HCP HSL h0 ⊢
  have HT : Hid ((∀ t ∈ ts, Right t) ∧ ts.length ≤ 4096) := ⟨hr, hl⟩
  have hL : L ≤ 4096 := by omega
  have d1 : decide ((L : Int) < 1) = false := decide_eq_false (by omega)
  have ETS : Hid (l.map TxR.t = ts) := ets
  have EL : Hid (L = l.length) := eL
  have HOPS : Hid (∀ t ∈ ts, t.ops.length ≤ 4096) := fun t ht => by
    have := (hr t ht).2.1
    omega
  have HBY : Hid (Byts (log7 ts)) := byts_log ts
  obtain ⟨d, ed⟩ : ∃ d, log7 ts = d := ⟨_, rfl⟩
  obtain ⟨np, enp⟩ : ∃ np, np = d.length := ⟨_, rfl⟩
  rw [ed] at hd1 hd2 HBY
  rw [← enp] at hd1 hd2
  have ED : Hid (log7 ts = d) := ed
  have ENP : Hid (np = d.length) := enp
  clear h hc eL hr hl ets ed enp
  go_enter Try.func3, Try.ntmps3
  go_wp2_with fail
  refine Calls.mono (anchor_any w) ?_
  rintro e w1 ⟨rfl, k1⟩
  have K1 : Hid (Kept w w1) := k1
  clear k1
  go_wp2_with fail
  refine Calls.mono (HC.out _ K1.out) ?_
  rintro e w2 ⟨rfl, k2⟩
  have K2 : Hid (Kept w w2) := K1.out.trans' k2
  clear k2
  go_wp2_with fail
  refine Calls.mono (HCP.out _ K2.out) ?_
  rintro e w3 ⟨v3, m3, rfl, e3, s3, k3⟩
  have K3 : Hid (Kept w w3) := K2.out.trans' k3
  have E3 : Hid (m3.map TxR.t = ts) := e3
  have S3 : Hid (Lst w2.heap.size w3 v3 m3) := s3
  have HE : Hid _ := enc7_own s3 (by rw [e3]; exact HT.out.1) (by have := HT.out.2; rw [← e3, List.length_map] at this; exact this)
  rw [e3, ED.out] at HE
  clear k3 s3 e3
  go_wp2_with fail
  refine Calls.mono HE.out ?_
  rintro e w4 ⟨u4, rfl, o4, k4⟩
  have K4 : Hid (Kept w w4) := K3.out.trans' k4
  have K34 : Hid (Kept w3 w4) := k4
  obtain ⟨gp, pc, rfl, -⟩ := OwnB.addr o4 (by rw [← ENP.out]; omega)
  rw [← ENP.out] at o4 ⊢
  have O4 : Hid (OwnB w3.heap.size w4 (.slice (some ⟨gp, 0, none⟩) np pc) d) := o4
  obtain ⟨hgp1, hgp2⟩ := OwnB.block o4 (k := gp) rfl
  have HS0 : Hid _ := HSL.out _ _ _ _ K4.out (Lst.on S3.out k4) E3.out
  clear k4 o4
  go_wp2_with fail
  refine Calls.mono HS0.out ?_
  rintro e w5 ⟨rfl, k5⟩
  have K5 : Hid (Kept w w5) := K4.out.trans' k5
  have O5 : Hid (OwnB w3.heap.size w5 (.slice (some ⟨gp, 0, none⟩) np pc) d) := OwnB.kept O4.out k5 fun _ _ e => e
  have K45 : Hid (Kept w4 w5) := k5
  have HB5 : Hid (BytesAt w5 (some ⟨gp, 0, none⟩) d) := BytesAt.at_own O5.out
  have HAP : Hid (∀ ty, _) := fun ty => app_lit (c := pc) HB5.out (fun e => by cases e) (by rw [← ENP.out]; omega) ty
  rw [← ENP.out] at HAP
  clear k5 HS0
  go_wp2_with (at_builtin; apply Hid.out)
  refine wpList_app rfl (.tmp 56) (.tmp 57) 27 27 rfl _ _ rfl rfl _ HAP.out ?_
  rintro v6 w6 ⟨o6, k6⟩
  obtain ⟨ta, tc, rfl, b6, -, -, -, -⟩ := OwnB.bytes o6
  rw [← ENP.out]
  have B6 : Hid (BytesAt w6 ta d) := b6
  have K6 : Hid (Kept w w6) := K5.out.trans' k6
  have O6 : Hid (OwnB w3.heap.size w6 (.slice (some ⟨gp, 0, none⟩) np pc) d) := OwnB.kept O5.out k6 fun _ _ e => e
  have K46 : Hid (Kept w4 w6) := K45.out.trans' k6
  have HD1 : Hid _ := back_dec (ts := ts) (by rw [ED.out]; exact O6.out) HT.out.1 HT.out.2
  clear o6 b6 k6 HAP
  go_wp2_with fail
  refine Calls.mono HD1.out ?_
  rintro e w7 ⟨v7, LA, e7, rfl, s7, k7⟩
  have E7 : Hid (LA.map TxR.t = ts) := e7
  have S7 : Hid (Lst w6.heap.size w7 v7 LA) := s7
  have K67 : Hid (Kept w6 w7) := k7
  have K7 : Hid (Kept w w7) := K6.out.trans' k7
  have O7 : Hid (OwnB w3.heap.size w7 (.slice (some ⟨gp, 0, none⟩) np pc) d) := OwnB.kept O6.out k7 fun _ _ e => e
  have hLA : LA.length = L := by rw [← hlts, ← e7, List.length_map]
  obtain ⟨va, ca, rfl, -⟩ := OwnT.txs s7.row
  rw [hLA] at S7 ⊢
  have HLEN : Hid (LA.length = L) := hLA
  have HD2 : Hid _ := back_dec (ts := ts) (by rw [ED.out]; exact O7.out) HT.out.1 HT.out.2
  clear e7 s7 k7 HD1 hLA
  go_wp2_with fail
  refine Calls.mono HD2.out ?_
  rintro e w8 ⟨v8, LB, e8, rfl, s8, k8⟩
  have E8 : Hid (LB.map TxR.t = ts) := e8
  have K78 : Hid (Kept w7 w8) := k8
  have K8 : Hid (Kept w w8) := K7.out.trans' k8
  have O8 : Hid (OwnB w3.heap.size w8 (.slice (some ⟨gp, 0, none⟩) np pc) d) := OwnB.kept O7.out k8 fun _ _ e => e
  obtain ⟨vb, cb, rfl, -⟩ := OwnT.txs s8.row
  have hLB : LB.length = L := by rw [← hlts, ← e8, List.length_map]
  rw [hLB] at s8 ⊢
  have S8 : Hid (Lst w7.heap.size w8 (.slice vb L cb) LB) := s8
  have HN : Hid _ := snew_any w8
  clear e8 s8 k8 HD2 hLB
  go_wp2_with fail
  refine Calls.mono HN.out ?_
  rintro e w9 ⟨sb, rfl, n9, k9, hsb⟩
  have N9 : Hid (Sn w8.heap.size w9 sb (.slice none 0 0) 0 [] 0 0 false 0) := n9
  have K89 : Hid (Kept w8 w9) := k9
  have K9 : Hid (Kept w w9) := K8.out.trans' k9
  have O9 : Hid (OwnB w3.heap.size w9 (.slice (some ⟨gp, 0, none⟩) np pc) d) := OwnB.kept O8.out k9 fun _ _ e => e
  have B9 : Hid (BytesAt w9 (some ⟨gp, 0, none⟩) d) := BytesAt.at_own O9.out
  have HSM : Hid _ := same_true w9 (some ⟨gp, 0, none⟩) ta pc tc d B9.out (BytesAt.kept B6.out ((K67.out.trans' K78.out).trans' k9) fun _ _ e => e) (by rw [← ENP.out]; omega)
  have HFD : Hid _ := sfeed_any n9 k9.size (c := pc) B9.out (fun e => by cases e) HBY.out (by rw [List.nil_append, ← ENP.out]; omega)
  rw [← ENP.out] at HSM HFD
  clear n9 k9 HN
  go_wp2_with fail
  refine Calls.mono HSM.out ?_
  rintro e w9' ⟨rfl, rfl⟩
  go_wp2_with fail
  refine Calls.mono HFD.out ?_
  rintro e w10 ⟨rfl, f10⟩
  unfold FeedR at f10
  rw [if_neg (by simp)] at f10
  obtain ⟨vs, n10, h10, s10⟩ := f10
  have hsbl : sb < w10.heap.size := n10.lt
  have AT : Hid (At w8.heap.size w10 sb vs d false sc0) := at_start (by rw [← ENP.out]; omega) HBY.out n10
  have HVS : Hid (∀ k, vs.ownBlock = some k → w8.heap.size ≤ k) := fun k hk => (Tl.block n10.row hk).1
  have K810 : Hid (Kept w8 w10) := Same.trans K89.out s10 fun i hi e => by
    rcases e with rfl | e
    · omega
    · cases e
  have O10 : Hid (OwnB w3.heap.size w10 (.slice (some ⟨gp, 0, none⟩) np pc) d) := OwnB.kept O8.out K810.out fun _ _ e => e
  have z34 : w3.heap.size ≤ w4.heap.size := Same.size K34.out
  have z46 : w4.heap.size ≤ w6.heap.size := Same.size K46.out
  have z67 : w6.heap.size ≤ w7.heap.size := Same.size K67.out
  have z78 : w7.heap.size ≤ w8.heap.size := Same.size K78.out
  have z810 : w8.heap.size ≤ w10.heap.size := Same.size K810.out
  have zw3 : w.heap.size ≤ w3.heap.size := Same.size K3.out
  clear n10 h10 s10 HSM HFD
  simp only [Bool.false_eq_true, if_false]
  go_wp2_with fail
  go_loopw [94] (fun i wr => ∃ j : Nat, j ≤ np ∧ i = .int .i64 (j : Int) ∧ Shp w3.heap.size wr 5 1 (.slice (some ⟨gp, 0, none⟩) np pc) np ∧ Same (fun b => b = gp) w10 wr) (fun i _ => np - (intOf i).toNat)
  case atStart => exact ⟨0, Nat.zero_le _, rfl, ⟨_, by have h9 := O10.out; rw [OwnB, ← ENP.out] at h9; exact h9⟩, Same.refl _ _⟩
  case round =>
    obtain ⟨j, hj, rfl, rj, sj⟩ := hrel
    have RJ : Hid (Shp w3.heap.size wr 5 1 (.slice (some ⟨gp, 0, none⟩) np pc) np) := rj
    have SJ : Hid (Same (fun b => b = gp) w10 wr) := sj
    clear rj sj
    by_cases hlt : j < np
    · have c1 : decide ((j : Int) < (np : Int)) = true := by simp only [decide_eq_true_eq]; omega
      have hlt2 : (j : Int) < (np : Int) := by omega
      obtain ⟨g', c', eg, -, hg2, hcl, hfz⟩ := Shp.cells RJ.out (by omega)
      cases eg
      obtain ⟨u0, m0⟩ := hcl j (by omega)
      have f0 := hfz j
      have NR : Hid _ := Shp.set RJ.out gp j (.int .u8 1)
      have NS : Hid _ := Same.setCell (S := fun b => b = gp) SJ.out ⟨gp, j, none⟩ (.inr rfl) (.int .u8 1)
      clear hcl hfz
      go_wp2_with fail
      go_roundw
      case rel => exact ⟨j + 1, by omega, by first | rfl | simp, NR.out, NS.out⟩
      case measure => simp only [intOf]; omega
    · have c1 : decide ((j : Int) < (np : Int)) = false := by simp only [decide_eq_false_iff_not]; omega
      obtain rfl : np = j := by omega
      rename World => w11
      have S11 : Hid (Same (fun b => b = gp) w10 w11) := SJ.out
      have K611 : Hid (Same (fun b => b < w6.heap.size) w6 w11) := Same.trans (Kept.to ((K67.out.trans' K78.out).trans' K810.out) _) S11.out fun i hi e => by omega
      have S711 : Hid (Same (fun b => b < w6.heap.size) w7 w11) := Same.trans (Kept.to (K78.out.trans' K810.out) _) S11.out fun i hi e => by omega
      have hs11 : w10.heap.size ≤ w11.heap.size := S11.out.size
      clear RJ SJ c1 hlt hj
      have HBA : Hid (∀ r ∈ LA, ∀ b, r.sl.ownBlock = some b → w6.heap.size ≤ b ∧ b < w7.heap.size) := fun r hx b hb => by
        obtain ⟨h1, cur, hc⟩ := rw_block (Lst.ops S7.out r hx) hb
        exact ⟨h1, lt_of_heap hc⟩
      have HGA : Hid (∀ g, va = some ⟨g, 0, none⟩ → w6.heap.size ≤ g ∧ g < w7.heap.size) := fun g hg => by
        obtain ⟨h1, cur, hc⟩ := rw_block (Lst.row S7.out) (k := g) (by rw [hg]; rfl)
        exact ⟨h1, lt_of_heap hc⟩
      have R11 : Hid (w11.ownsRow w6.heap.size 40 8 (.slice va L ca) L (txc LA)) := by
        have h9 : OwnT w6.heap.size w11 (.slice va L ca) LA := rw_kept (Lst.row S7.out) S711.out fun k hk e => by
          obtain ⟨h1, -⟩ := rw_block (Lst.row S7.out) hk
          omega
        rw [OwnT, HLEN.out] at h9
        exact h9
      have I11 : Hid (∀ r ∈ LA, Shp w6.heap.size w11 42 4 r.sl r.t.ops.length) := fun r hx => ⟨_, rw_kept (Lst.ops S7.out r hx) S711.out fun k hk e => by
        obtain ⟨h1, -⟩ := rw_block (Lst.ops S7.out r hx) hk
        omega⟩
      have D7 : Hid (∀ (p q : Nat) (x y : TxR) (b : Nat), p < q → LA[p]? = some x → LA[q]? = some y → x.sl.ownBlock = some b → y.sl.ownBlock ≠ some b) := fun p q x y b hpq hp hq hb => by
        obtain ⟨hp1, hp2⟩ := List.getElem?_eq_some_iff.1 hp
        obtain ⟨hq1, hq2⟩ := List.getElem?_eq_some_iff.1 hq
        have h9 := List.pairwise_iff_getElem.1 (Lst.ap S7.out) p q hp1 hq1 hpq b
        rw [hp2, hq2] at h9
        exact h9 hb
      go_wp2_with fail
      go_loopw [103] (fun i wr => ∃ (j : Nat) (xs : List Value), j ≤ L ∧ i = .int .i64 (j : Int) ∧ wr.ownsRow w6.heap.size 40 8 (.slice va L ca) L xs ∧ (∀ q x, j ≤ q → LA[q]? = some x → xs[q * 8 + 7]? = some x.sl ∧ Shp w6.heap.size wr 42 4 x.sl x.t.ops.length) ∧ Same (fun b => w6.heap.size ≤ b ∧ b < w7.heap.size) w11 wr) (fun i _ => L - (intOf i).toNat)
      case atStart => exact ⟨0, txc LA, Nat.zero_le _, rfl, R11.out, fun q x _ hx => ⟨txc_get hx (j := 7) (by omega), I11.out x (List.mem_of_getElem? hx)⟩, Same.refl _ _⟩
      case round =>
        obtain ⟨j, xs, hj, rfl, rj, ij, sj⟩ := hrel
        have RJ : Hid (wr.ownsRow w6.heap.size 40 8 (.slice va L ca) L xs) := rj
        have IJ : Hid (∀ q x, j ≤ q → LA[q]? = some x → xs[q * 8 + 7]? = some x.sl ∧ Shp w6.heap.size wr 42 4 x.sl x.t.ops.length) := ij
        have SJ : Hid (Same (fun b => w6.heap.size ≤ b ∧ b < w7.heap.size) w11 wr) := sj
        clear rj ij sj
        by_cases hlt : j < L
        · have c1 : decide ((j : Int) < (L : Int)) = true := by simp only [decide_eq_true_eq]; omega
          have hlt2 : (j : Int) < (L : Int) := by omega
          obtain ⟨r, htu⟩ : ∃ p, LA[j]? = some p := ⟨_, List.getElem?_eq_getElem (by rw [HLEN.out]; exact hlt)⟩
          obtain ⟨h7, shu⟩ := IJ.out j r (Nat.le_refl _) htu
          have hmt : r.t ∈ ts := by rw [← E7.out]; exact List.mem_map.2 ⟨r, List.mem_of_getElem? htu, rfl⟩
          have hnu : r.t.ops.length ≤ 4096 := HOPS.out r.t hmt
          have HBU : Hid (∀ b, r.sl.ownBlock = some b → w6.heap.size ≤ b ∧ b < w7.heap.size) := HBA.out r (List.mem_of_getElem? htu)
          have HDU : Hid (∀ q y b, j < q → LA[q]? = some y → r.sl.ownBlock = some b → y.sl.ownBlock ≠ some b) := fun q y b hq hy hb => D7.out j q r y b hq htu hy hb
          obtain ⟨nu, enu⟩ : ∃ nu, nu = r.t.ops.length := ⟨_, rfl⟩
          have HJ : Hid (LA[j]? = some r) := htu
          have ENU : Hid (nu = r.t.ops.length) := enu
          obtain ⟨u, eu⟩ : ∃ u, u = r.sl := ⟨_, rfl⟩
          have EU : Hid (u = r.sl) := eu
          rw [← enu] at hnu shu
          rw [← eu] at h7 shu HBU HDU
          obtain ⟨xu, hxu⟩ := shu
          obtain ⟨ua, uc, eu', -⟩ := rw_shape hxu
          subst eu'
          obtain ⟨ga, eva, hga1, hga2, p7⟩ := rw_cell RJ.out h7
          subst eva
          obtain ⟨hga3, hga4⟩ := HGA.out ga rfl
          have H7 : Hid (xs[j * 8 + 7]? = some (.slice ua nu uc)) := h7
          clear htu h7 hmt hxu enu eu
          go_wp2_with fail
          go_loopw [112] (fun i wx => ∃ (k : Nat), k ≤ nu ∧ i = .int .i64 (k : Int) ∧ wx.ownsRow w6.heap.size 40 8 (.slice (some ⟨ga, 0, none⟩) L ca) L xs ∧ (∀ q x, j ≤ q → LA[q]? = some x → Shp w6.heap.size wx 42 4 x.sl x.t.ops.length) ∧ Same (fun b => w6.heap.size ≤ b ∧ b < w7.heap.size) w11 wx) (fun i _ => nu - (intOf i).toNat)
          case atStart => exact ⟨0, Nat.zero_le _, rfl, RJ.out, fun q x hq hx => (IJ.out q x hq hx).2, SJ.out⟩
          case round =>
            rename World => wx
            obtain ⟨k, hk, rfl, rk, ik, sk⟩ := hrel
            have RK : Hid (wx.ownsRow w6.heap.size 40 8 (.slice (some ⟨ga, 0, none⟩) L ca) L xs) := rk
            have IK : Hid (∀ q x, j ≤ q → LA[q]? = some x → Shp w6.heap.size wx 42 4 x.sl x.t.ops.length) := ik
            have SK : Hid (Same (fun b => w6.heap.size ≤ b ∧ b < w7.heap.size) w11 wx) := sk
            have shk : Shp w6.heap.size wx 42 4 (.slice ua nu uc) nu := by
              have h9 := ik j _ (Nat.le_refl _) HJ.out
              rw [← ENU.out, ← EU.out] at h9
              exact h9
            obtain ⟨g', eg, -, hgl, y7⟩ := rw_cell rk H7.out
            cases eg
            clear rk ik sk p7
            by_cases hlk : k < nu
            · have e1 : decide ((k : Int) < (nu : Int)) = true := by simp only [decide_eq_true_eq]; omega
              have e2 : (k : Int) < (nu : Int) := by omega
              obtain ⟨gu, cu, eu, hg1, hg2, hcl, hfz⟩ := Shp.cells shk (by omega)
              cases eu
              obtain ⟨u0, m0⟩ := hcl (k * 4) (by omega)
              obtain ⟨u1, m1⟩ := hcl (k * 4 + 1) (by omega)
              obtain ⟨u2, m2⟩ := hcl (k * 4 + 2) (by omega)
              obtain ⟨u3, m3⟩ := hcl (k * 4 + 3) (by omega)
              have f0 := hfz (k * 4)
              have f1 := hfz (k * 4 + 1)
              have f2 := hfz (k * 4 + 2)
              have f3 := hfz (k * 4 + 3)
              have hne : ga ≠ gu := fun e => by
                subst e
                obtain ⟨xk, hxk⟩ := shk
                obtain ⟨-, cur, hc⟩ := rw_block hxk (k := ga) rfl
                obtain ⟨-, cur', hc'⟩ := rw_block RK.out (k := ga) rfl
                exact ty_ne hc hc' (by decide)
              obtain ⟨hbu1, hbu2⟩ := HBU.out gu rfl
              have NR : Hid _ := rw_kept RK.out (same_at4 (w := wx) (g := gu) (k * 4) (.int .i64 77) (.string ⟨#[]⟩) (.bool false) (.string ⟨#[]⟩)) fun b hb e => by
                simp only [Value.ownBlock, Option.some.injEq] at hb
                exact hne (by omega)
              have NI : Hid (∀ q x, j ≤ q → LA[q]? = some x → _) := fun q x hq hx => Shp.put4 (IK.out q x hq hx) gu (k * 4) (.int .i64 77) (.string ⟨#[]⟩) (.bool false) (.string ⟨#[]⟩)
              have NS : Hid _ := Same.trans SK.out (same_at4 (w := wx) (g := gu) (k * 4) (.int .i64 77) (.string ⟨#[]⟩) (.bool false) (.string ⟨#[]⟩)) fun i _ e => ⟨by omega, by omega⟩
              clear shk hcl hfz
              go_wp2_with fail
              go_roundw
              case rel => exact ⟨k + 1, by omega, by first | rfl | simp, NR.out, NI.out, NS.out⟩
              case measure => simp only [intOf]; omega
            · have e1 : decide ((k : Int) < (nu : Int)) = false := by simp only [decide_eq_false_iff_not]; omega
              obtain rfl : nu = k := by omega
              have hsx : w11.heap.size ≤ wx.heap.size := SK.out.size
              have HAP2 : Hid (∀ ty, ∃ v' w', (Builtin.append_ #[38, 38] ty #[.slice ua nu uc, .slice (some ⟨wx.heap.size, 0, none⟩) 2 2]).run Try.prog (wx.alloc (.cells #[.int .i64 76, .string ⟨#[]⟩, .bool false, .string ⟨#[]⟩, .int .i64 75, .string ⟨#[]⟩, .bool false, .string ⟨#[]⟩] 42 (0, 0))) = .ok v' w' ∧ ∃ a c, v' = .slice a (nu + 2) c ∧ Same (fun k => (Value.slice ua nu uc).ownBlock = some k) wx w') := fun ty => app_two76 shk hnu (by omega) ty
              have SHK : Hid (Shp w6.heap.size wx 42 4 (.slice ua nu uc) nu) := shk
              clear shk
              go_upto_region 32 with (at_builtin; refine wpList_app rfl (.tmp 128) (.tmp 131) 38 38 rfl _ _ rfl rfl _ HAP2.out ?_; rintro v8 y8 ⟨xa, xc, rfl, s8⟩)
              have R8 : Hid (y8.ownsRow w6.heap.size 40 8 (.slice (some ⟨ga, 0, none⟩) L ca) L xs) := rw_kept RK.out s8 fun b hb e => by
                obtain ⟨xk, hxk⟩ := SHK.out
                obtain ⟨-, cur, hc⟩ := rw_block hxk e
                obtain ⟨-, cur', hc'⟩ := rw_block RK.out hb
                exact ty_ne hc hc' (by decide)
              have I8 : Hid (∀ q x, j < q → LA[q]? = some x → Shp w6.heap.size y8 42 4 x.sl x.t.ops.length) := fun q x hq hx => Shp.kept (IK.out q x (by omega) hx) s8 fun b hb e => HDU.out q x b hq hx e hb
              have S8' : Hid (Same (fun b => w6.heap.size ≤ b ∧ b < w7.heap.size) w11 y8) := Same.trans SK.out s8 fun i _ e => HBU.out i e
              clear s8 HAP2 RK IK SK SHK
              obtain ⟨g', c', eg, -, hg2, hcl, hfz⟩ := Shp.cells ⟨_, R8.out⟩ (by omega)
              cases eg
              obtain ⟨u0, m0⟩ := hcl (j * 8) (by omega)
              obtain ⟨u1, m1⟩ := hcl (j * 8 + 1) (by omega)
              obtain ⟨u2, m2⟩ := hcl (j * 8 + 2) (by omega)
              obtain ⟨u3, m3⟩ := hcl (j * 8 + 3) (by omega)
              obtain ⟨u4, m4⟩ := hcl (j * 8 + 4) (by omega)
              obtain ⟨u5, m5⟩ := hcl (j * 8 + 5) (by omega)
              obtain ⟨u6, m6⟩ := hcl (j * 8 + 6) (by omega)
              obtain ⟨u7, m7⟩ := hcl (j * 8 + 7) (by omega)
              have f0 := hfz (j * 8)
              have f1 := hfz (j * 8 + 1)
              have f2 := hfz (j * 8 + 2)
              have f3 := hfz (j * 8 + 3)
              have f4 := hfz (j * 8 + 4)
              have f5 := hfz (j * 8 + 5)
              have f6 := hfz (j * 8 + 6)
              have f7 := hfz (j * 8 + 7)
              obtain ⟨ys, r9, hy9⟩ := row_at8 R8.out (j * 8) (.int .i64 9) (.int .i64 0) (.int .i64 0) (.int .i64 0) (.int .i64 0) (.int .i64 0) (.int .i64 0) (.slice xa (nu + 2) xc)
              have s9 := Same.trans S8'.out (same_at8 (w := y8) (g := ga) (j * 8) (.int .i64 9) (.int .i64 0) (.int .i64 0) (.int .i64 0) (.int .i64 0) (.int .i64 0) (.int .i64 0) (.slice xa (nu + 2) xc)) fun i _ e => ⟨by omega, by omega⟩
              have i9 := fun q x (hq : j + 1 ≤ q) (hx : LA[q]? = some x) => Shp.at8 (I8.out q x hq hx) ga (j * 8) (.int .i64 9) (.int .i64 0) (.int .i64 0) (.int .i64 0) (.int .i64 0) (.int .i64 0) (.int .i64 0) (.slice xa (nu + 2) xc)
              unfold at8 at r9 s9 i9
              have R9 : Hid _ := r9
              have S9 : Hid _ := s9
              have I9 : Hid (∀ q x, j + 1 ≤ q → LA[q]? = some x → _) := i9
              have Y9 : Hid (∀ q x, j + 1 ≤ q → LA[q]? = some x → ys[q * 8 + 7]? = some x.sl) := fun q x hq hx => (hy9 _ (by omega)).trans (IJ.out q x (by omega) hx).1
              clear r9 s9 i9 hy9 hcl hfz y7
              go_wp2_with fail
              go_roundw
              case rel => exact ⟨j + 1, ys, by omega, by first | rfl | simp, R9.out, fun q x hq hx => ⟨Y9.out q x hq hx, I9.out q x hq hx⟩, S9.out⟩
              case measure => simp only [intOf]; omega
        · have c1 : decide ((j : Int) < (L : Int)) = false := by simp only [decide_eq_false_iff_not]; omega
          obtain rfl : L = j := by omega
          rename World => w12
          have S12 : Hid (Same (fun b => w6.heap.size ≤ b ∧ b < w7.heap.size) w11 w12) := SJ.out
          clear SJ IJ RJ c1 hlt hj HBA HGA R11 I11 D7
          have S812 : Hid (Same (fun b => b < w7.heap.size) w8 w12) := Same.trans (Same.trans (Kept.to K810.out _) S11.out fun i hi e => by omega) S12.out fun i hi e => e.2
          have K12 : Hid (Kept w w12) := Same.trans (Same.trans (K8.out.trans' K810.out) S11.out fun i hi e => by omega) S12.out fun i hi e => by omega
          have LB12 : Hid (Lst w7.heap.size w12 (.slice vb L cb) LB) := Lst.kept S8.out S812.out fun k hk e => by
            have h9 := (Lst.block S8.out hk).1
            omega
          have AT12 : Hid (At w8.heap.size w12 sb vs d false sc0) := At.kept (At.kept AT.out S11.out (by omega) fun k hk e => by have := HVS.out k hk; omega) S12.out (by omega) fun k hk e => by have := HVS.out k hk; omega
          have HS2 : Hid _ := HSL.out _ _ _ _ K12.out LB12.out E8.out
          clear S12 S812 S11 K611 S711 LB12 AT
          go_wp2_with fail
          refine Calls.mono HS2.out ?_
          rintro e w13 ⟨rfl, k13⟩
          have K13 : Hid (Kept w w13) := Same.trans' K12.out k13
          have AT13 : Hid (At w8.heap.size w13 sb vs d false sc0) := At.on AT12.out k13
          clear k13 HS2 AT12
          go_wp2_with fail
          have zw8 : w.heap.size ≤ w8.heap.size := Same.size K8.out
          go_loopw [145] (fun i wr => ∃ (j : Nat) (s : Sc) (vs' : Value), j ≤ L ∧ i = .int .i64 (j : Int) ∧ At w8.heap.size wr sb vs' d false s ∧ RdAt ts j s ∧ Kept w wr) (fun i _ => L - (intOf i).toNat)
          case atStart => exact ⟨0, sc0, vs, Nat.zero_le _, rfl, AT13.out, .inl ⟨rfl, rfl⟩, K13.out⟩
          case round =>
            obtain ⟨j, s, vj, hj, rfl, aj, dj, kj⟩ := hrel
            have AJ : Hid (At w8.heap.size wr sb vj d false s) := aj
            have DJ : Hid (RdAt ts j s) := dj
            have KJ : Hid (Kept w wr) := kj
            have hsr : sb < wr.heap.size := aj.sn.lt
            clear aj dj kj
            by_cases hlt : j < L
            · have c1 : decide ((j : Int) < (L : Int)) = true := by simp only [decide_eq_true_eq]; omega
              have hlt2 : (j : Int) < (L : Int) := by omega
              obtain ⟨r, hrj⟩ : ∃ r, l[j]? = some r := ⟨_, List.getElem?_eq_getElem (by rw [← EL.out]; exact hlt)⟩
              have htj : ts[j]? = some r.t := by rw [← ETS.out, List.getElem?_map, hrj]; rfl
              obtain ⟨s', hn, her, hrd⟩ := next_log (en := false) HT.out.1 HT.out.2 htj DJ.out
              have hops := HOPS.out r.t (List.mem_of_getElem? htj)
              have hAL := ArgL.on HLA.out KJ.out
              obtain ⟨b1, off1, rfl, hb1, -⟩ := hAL.txs j r hrj
              obtain ⟨x0, x1, x2, x3, x4, x5, x6, x7⟩ := TxsAt.get hAL.txs hrj
              have HRM : Hid (r ∈ l) := List.mem_of_getElem? hrj
              have HNX : Hid _ := snext_any (At.on AJ.out ((Same.refl _ wr).alloc (.cells #[.int .i64 r.t.f0, .int .i64 r.t.f1, .int .i64 r.t.f2, .int .i64 r.t.f3, .int .i64 r.t.f4, .int .i64 r.t.f5, .int .i64 r.t.f6, .slice r.a r.t.ops.length r.c] 40 (0, 0))))
              rw [← ED.out, hn] at HNX
              have HRD : Hid (RdAt ts (j + 1) s') := hrd
              have HER : Hid (s'.er = 0) := her
              clear hAL hrj htj hn hrd her
              go_wp2_with fail
              refine Calls.mono HNX.out ?_
              rintro e w14 ⟨tv, rfl, ⟨na, nc, rfl, no⟩, ⟨⟨v2, at2, hv2⟩, s2⟩⟩
              rw [ED.out] at at2
              have AT2 : Hid (At w8.heap.size w14 sb v2 d false s') := at2
              have bx : w14.heap[wr.heap.size]? = some (.cells #[.int .i64 r.t.f0, .int .i64 r.t.f1, .int .i64 r.t.f2, .int .i64 r.t.f3, .int .i64 r.t.f4, .int .i64 r.t.f5, .int .i64 r.t.f6, .slice r.a r.t.ops.length r.c] 40 (0, 0)) := (s2.block _ (by rw [World.size_alloc]; omega) (by omega)).trans (heap_new wr _)
              have hbl := lt_of_heap bx
              have y0 : w14.cell? ⟨wr.heap.size, 0, none⟩ = some (.int .i64 r.t.f0) := (cell_of bx 0).trans rfl
              have y1 : w14.cell? ⟨wr.heap.size, 1, none⟩ = some (.int .i64 r.t.f1) := (cell_of bx 1).trans rfl
              have y2 : w14.cell? ⟨wr.heap.size, 2, none⟩ = some (.int .i64 r.t.f2) := (cell_of bx 2).trans rfl
              have y3 : w14.cell? ⟨wr.heap.size, 3, none⟩ = some (.int .i64 r.t.f3) := (cell_of bx 3).trans rfl
              have y4 : w14.cell? ⟨wr.heap.size, 4, none⟩ = some (.int .i64 r.t.f4) := (cell_of bx 4).trans rfl
              have y5 : w14.cell? ⟨wr.heap.size, 5, none⟩ = some (.int .i64 r.t.f5) := (cell_of bx 5).trans rfl
              have y6 : w14.cell? ⟨wr.heap.size, 6, none⟩ = some (.int .i64 r.t.f6) := (cell_of bx 6).trans rfl
              have y7 : w14.cell? ⟨wr.heap.size, 7, none⟩ = some (.slice r.a r.t.ops.length r.c) := (cell_of bx 7).trans rfl
              have KW14 : Hid (Kept w w14) := Same.trans (Same.trans' KJ.out ((Same.refl _ wr).alloc (.cells #[.int .i64 r.t.f0, .int .i64 r.t.f1, .int .i64 r.t.f2, .int .i64 r.t.f3, .int .i64 r.t.f4, .int .i64 r.t.f5, .int .i64 r.t.f6, .slice r.a r.t.ops.length r.c] 40 (0, 0)))) s2 fun i hi e => by omega
              have HSMT : Hid (∀ W, Kept w14 W → _) := fun W (kk : Kept w14 W) => sameT W r.t (txV r.t (.slice r.a r.t.ops.length r.c)) (txV r.t (.slice na r.t.ops.length nc)) ⟨_, _, rfl, OpsAt.on (ArgL.deep (ArgL.on HLA.out KW14.out) r HRM.out) kk⟩ ⟨_, _, rfl, OpsAt.on (by
                  obtain ⟨a9, c9, e9, h9, -⟩ := OwnO.ops no
                  cases e9
                  exact h9) kk⟩ (by omega)
              unfold txV at HSMT
              rw [show s'.er = 0 from HER.out]
              clear no at2 hv2 s2 bx HNX x0 x1 x2 x3 x4 x5 x6 x7
              unfold txV
              simp only [Option.isSome_some]
              generalize r.t.ops.length = nu at *
              go_wp2_with fail
              refine Calls.mono (HSMT.out _ ((Same.refl _ w14).alloc _)) ?_
              rintro e w15 ⟨rfl, k15⟩
              have K15 : Hid (Kept w14 w15) := Same.trans' ((Same.refl _ w14).alloc _) k15
              clear k15 HSMT y0 y1 y2 y3 y4 y5 y6 y7
              go_wp2_with fail
              go_roundw
              case rel => exact ⟨j + 1, s', v2, by omega, by first | rfl | simp, At.on AT2.out K15.out, HRD.out, Same.trans' KW14.out K15.out⟩
              case measure => simp only [intOf]; omega
            · have c1 : decide ((j : Int) < (L : Int)) = false := by simp only [decide_eq_false_iff_not]; omega
              obtain rfl : L = j := by omega
              go_wp2_with fail
              go_ret
              exact ⟨rfl, KJ.out⟩
theorem memory_law (w : World) (oa : Option Addr) (c : Nat) (l : List TxR) (h : ArgL w oa c l) : Calls Try.prog 3 #[.slice oa l.length c] w fun e w' => e = .returned (.bool true) ∧ Kept w w' := by
  by_cases hc : (check7 (l.map TxR.t)).2 = 0
  · by_cases h0 : l.length < 1
    · exact lmem_nil w oa c l h hc h0
    · exact lmem_ok w oa c l h hc h0
  · exact lmem_no w oa c l h hc
end Go.Proofs.Ytflemfohnpjeaaa
