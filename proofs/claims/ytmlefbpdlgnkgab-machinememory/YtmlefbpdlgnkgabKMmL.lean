/- What is proved: the law MachineMemory answers true, and all that was there stays as it was; the script lies in memory. -/
import Derived.Test.YtmlefbpdlgnkgabKMmA
import Derived.Test.YtmlefbpdlgnkgabKFree
namespace Go.Proofs.Ytmlefbpdlgnkgab
open Go.RowKit

theorem pl_inv (l : List Stp) : Inv (plM (newM 4 0) l) := by
  have h5 : ∀ (l : List Stp) {M : Mm}, Inv M → Inv (plM M l) := fun l => by
    induction l with
    | nil => exact fun h => h
    | cons s r ih => exact fun h => ih (h.step s)
  exact h5 l (Inv.new (by decide) (by decide) 0)
set_option maxRecDepth 100000 in
set_option maxHeartbeats 6400000 in
theorem memory_law {w : World} {a : Option Addr} {l : List Stp} {cap : Nat} (hl : StepsAt w a l) (hs : SmallS l) (hn : l.length ≤ 2513169434918) (hcap : a = none → cap = 0) :
    Calls Try.prog 5 #[.slice a l.length cap] w fun e w' => e = .returned (.bool true) ∧ Kept w w' := by
  have HAN : Hid _ := anchor15 w
  have HPL : Hid (∀ W, Kept w W → _) := fun W (k : Kept w W) => played15 (cap := cap) (hl.on k) hs (by omega)
  have HAP : Hid (∀ W, Kept w W → ∀ ty, ∃ v' w', (Builtin.append_ #[22, 22] ty #[.slice (some ⟨W.heap.size, 0, none⟩) 0 0, .slice a l.length cap]).run Try.prog (W.alloc (.cells #[] 33)) = .ok v' w' ∧ ((∃ a' c', v' = .slice a' l.length c' ∧ StepsAt w' a' l) ∧ Kept W w')) := fun W k' ty => copy_steps (hl.on k') hcap hn ty
  have HEM : Hid (∀ W a' c', StepsAt W a' l → Calls Try.prog 13 #[.int .i64 4, .int .i64 0, .slice a' l.length c'] W (EmP W (emM 4 0 l).log)) := fun W a' c' h' => emit15 h' hs (by omega) 4 0 (by decide) (by decide) (by decide) (by decide)
  have HST : Hid (StepsAt w a l) := hl
  obtain ⟨rr, hrr⟩ := em_more 4 0 l
  have hiP := pl_inv l
  have hiE := em_inv (N := 4) 0 l (by decide) (by decide)
  have hb1 : (plM (newM 4 0) l).log.length ≤ 4096 := by
    have h1 := hiP.cnt
    have h2 := hiP.b1
    omega
  have hb2 : (emM 4 0 l).log.length ≤ 4096 := by
    have h1 := hiE.cnt
    have h2 := hiE.b1
    omega
  have HO1 : Hid (∀ t ∈ (plM (newM 4 0) l).log, t.ops.length ≤ 4096) := fun t ht => by
    have h9 := hiP.lg t ht
    omega
  have HO2 : Hid (∀ t ∈ (emM 4 0 l).log, t.ops.length ≤ 4096) := fun t ht => by
    have h9 := hiE.lg t ht
    omega
  obtain ⟨EM, eEM⟩ : ∃ EM, (emM 4 0 l).log = EM := ⟨_, rfl⟩
  obtain ⟨M, eM⟩ : ∃ M, plM (newM 4 0) l = M := ⟨_, rfl⟩
  rw [eEM] at hrr hb2 HO2 HEM
  rw [eM] at hrr hb1 HO1 HPL
  obtain ⟨n, en⟩ : ∃ n, n = l.length := ⟨_, rfl⟩
  rw [← en] at hn HAP HEM HPL ⊢
  have EN : Hid (n = l.length) := en
  have HRR : Hid (EM = M.log ++ rr) := hrr
  obtain ⟨m, em⟩ : ∃ m, m = M.log.length := ⟨_, rfl⟩
  obtain ⟨x, ex⟩ : ∃ x, x = EM.length := ⟨_, rfl⟩
  have hmx : m ≤ x := by rw [em, ex, hrr, List.length_append]; omega
  rw [← em] at hb1
  rw [← ex] at hb2
  have EMM : Hid (m = M.log.length) := em
  have EX : Hid (x = EM.length) := ex
  clear hl hs hrr hiP hiE eEM eM en em ex hcap
  go_enter Try.func5, Try.ntmps5
  go_wp2_with fail
  refine Calls.mono HAN.out ?_
  rintro e w0 ⟨rfl, k0⟩
  have K0 : Hid (Kept w w0) := k0
  have HP2 : Hid _ := HPL.out w0 k0
  clear k0 HAN HPL
  go_wp2_with fail
  refine Calls.mono HP2.out ?_
  rintro e w1 ⟨mb, rfl, m1⟩
  have M1 : Hid (MkN w0 w1 mb M) := m1
  have K1 : Hid (Kept w w1) := Same.trans' K0.out (MkN.kept m1)
  have HA2 : Hid _ := HAP.out w1 K1.out
  clear m1 HP2 HAP
  go_wp2_with (at_builtin; apply Hid.out)
  refine wpList_app rfl (.tmp 23) (.tmp 24) 22 rfl _ _ rfl rfl _ HA2.out ?_
  rintro v' w2 ⟨⟨a', c', rfl, st2⟩, k2⟩
  have K2 : Hid (Kept w w2) := Same.trans' K1.out k2
  have M2 : Hid (MkN w0 w2 mb M) := MkN.on M1.out k2
  have ST2 : Hid (StepsAt w2 a' l) := st2
  clear k2 st2 HA2 M1
  obtain ⟨F, mk2, hF, -⟩ := M2.out
  have MK2 : Hid (Mk F w2 mb M) := mk2
  have HF : Hid (∀ b, F b → b < w2.heap.size) := Mk.lt mk2
  have HL1 : Hid _ := log15A mk2
  clear mk2 hF
  go_wp2_with fail
  refine Calls.mono HL1.out ?_
  rintro e w3 ⟨v3, LA, rfl, o3, l3, p3, d3, k3⟩
  have hLA : LA.length = m := by
    have h9 := congrArg List.length l3
    rw [EMM.out]
    simpa using h9
  obtain ⟨va, ca, rfl, -⟩ := row_shape o3
  rw [hLA] at o3 ⊢
  have O3 : Hid (OwnT w2.heap.size w3 (.slice va m ca) LA) := o3
  have L3 : Hid (LA.map (·.1) = M.log) := l3
  have P3 : Hid (∀ x ∈ LA, OwnO w2.heap.size w3 x.2 x.1.ops) := p3
  have D3 : Hid (∀ (p q : Nat) (x y : TxM × Value) (b : Nat), p < q → LA[p]? = some x → LA[q]? = some y → x.2.ownBlock = some b → y.2.ownBlock ≠ some b) := d3
  have K3 : Hid (Kept w2 w3) := k3
  have HLA : Hid (LA.length = m) := hLA
  have HL2 : Hid _ := log15 (Mk.on MK2.out k3)
  clear o3 l3 p3 d3 k3 hLA HL1
  go_wp2_with fail
  refine Calls.mono HL2.out ?_
  rintro e w4 ⟨v4, LB, rfl, o4, l4, p4, k4⟩
  have hLB : LB.length = m := by
    have h9 := congrArg List.length l4
    rw [EMM.out]
    simpa using h9
  obtain ⟨vb, cb, rfl, -⟩ := row_shape o4
  rw [hLB] at o4 ⊢
  have O4 : Hid (OwnT w3.heap.size w4 (.slice vb m cb) LB) := o4
  have L4 : Hid (LB.map (·.1) = M.log) := l4
  have P4 : Hid (∀ x ∈ LB, OwnO w3.heap.size w4 x.2 x.1.ops) := p4
  have K4 : Hid (Kept w3 w4) := k4
  have K24 : Hid (Kept w2 w4) := Same.trans' K3.out k4
  have HE1 : Hid _ := HEM.out w4 a' c' (StepsAt.on ST2.out K24.out)
  clear o4 l4 p4 k4 hLB HL2
  go_wp2_with fail
  refine Calls.mono HE1.out ?_
  rintro e w5 ⟨v5, LC, rfl, o5, l5, p5, k5⟩
  have hLC : LC.length = x := by
    have h9 := congrArg List.length l5
    rw [EX.out]
    simpa using h9
  obtain ⟨vc, cc, rfl, -⟩ := row_shape o5
  rw [hLC] at o5 ⊢
  have O5 : Hid (OwnT w4.heap.size w5 (.slice vc x cc) LC) := o5
  have L5 : Hid (LC.map (·.1) = EM) := l5
  have P5 : Hid (∀ x ∈ LC, OwnO w4.heap.size w5 x.2 x.1.ops) := p5
  have K5 : Hid (Kept w4 w5) := k5
  have K35 : Hid (Kept w3 w5) := Same.trans' K4.out k5
  have HLC : Hid (LC.length = x) := hLC
  have HSM : Hid (Calls Try.prog 14 #[.slice va m ca, .slice vb m cb] w5 fun e w' => e = .returned (.bool true) ∧ Kept w5 w') := by
    have h1 : TxnsAt w5 va M.log := by
      have h9 := TxnsAt.on (OwnT.txns O3.out P3.out) K35.out
      rw [L3.out] at h9
      exact h9
    have h2 : TxnsAt w5 vb M.log := by
      have h9 := TxnsAt.on (OwnT.txns O4.out P4.out) K5.out
      rw [L4.out] at h9
      exact h9
    exact sameL15 w5 va vb ca cb m M.log h1 h2 EMM.out (by omega) fun t ht => by have := HO1.out t ht; omega
  clear o5 l5 p5 k5 hLC HE1
  go_wp2_with fail
  refine Calls.mono HSM.out ?_
  rintro e w6 ⟨rfl, k6⟩
  have K26 : Hid (Kept w2 w6) := Same.trans' (Same.trans' K24.out K5.out) k6
  have K6 : Hid (Kept w5 w6) := k6
  clear k6 HSM
  go_wp2_with fail
  go_loopw [45] (fun i wr => ∃ j : Nat, j ≤ n ∧ i = .int .i64 (j : Int) ∧ Kept w6 wr) (fun i _ => n - (intOf i).toNat)
  case atStart => exact ⟨0, Nat.zero_le _, rfl, Same.refl _ _⟩
  case round =>
    obtain ⟨j, hj, rfl, kj⟩ := hrel
    have KJ : Hid (Kept w6 wr) := kj
    clear kj
    by_cases hlt : j < n
    · have c1 : decide ((j : Int) < (n : Int)) = true := by simp only [decide_eq_true_eq]; omega
      have hlt2 : (j : Int) < (n : Int) := by omega
      obtain ⟨s, hsj⟩ : ∃ s, l[j]? = some s := ⟨_, List.getElem?_eq_getElem (by rw [← EN.out]; exact hlt)⟩
      obtain ⟨b, off, rfl, hb, q0, q1, q2, q3, q4⟩ := (StepsAt.on HST.out (Same.trans' (Same.trans' K2.out K26.out) KJ.out)) j s hsj
      obtain ⟨b', off', rfl, hb', r0, r1, r2, r3, r4⟩ := (StepsAt.on ST2.out (Same.trans' K26.out KJ.out)) j s hsj
      have hq := step_alike s.kind s.ses s.gap s.key s.value
      clear hsj
      go_wp2_with fail
      go_quiet (fail)
      go_wp2_with fail
      go_roundw
      case rel => exact ⟨j + 1, by omega, by first | rfl | simp, Same.drewN KJ.out _⟩
      case measure => simp only [intOf]; omega
    · have c1 : decide ((j : Int) < (n : Int)) = false := by simp only [decide_eq_false_iff_not]; omega
      obtain rfl : n = j := by omega
      have K7 : Hid (Kept w5 wr) := Same.trans' K6.out KJ.out
      have K27 : Hid (Kept w2 wr) := Same.trans' K26.out KJ.out
      rename World => w7
      clear KJ c1 hlt hj
      go_wp2_with fail
      have HBA : Hid (∀ x ∈ LA, ∀ b, x.2.ownBlock = some b → w2.heap.size ≤ b ∧ b < w3.heap.size) := fun x hx b hb => by
        obtain ⟨h1, cur, hc⟩ := row_block (P3.out x hx) hb
        exact ⟨h1, lt_of_heap hc⟩
      have HGA : Hid (∀ g, va = some ⟨g, 0, none⟩ → w2.heap.size ≤ g ∧ g < w3.heap.size) := fun g hg => by
        obtain ⟨h1, cur, hc⟩ := row_block O3.out (k := g) (by rw [hg]; rfl)
        exact ⟨h1, lt_of_heap hc⟩
      have R7 : Hid (w7.ownsRow w2.heap.size 41 8 (.slice va m ca) m (txc LA)) := by
        have h9 : OwnT w2.heap.size w7 (.slice va m ca) LA := row_kept O3.out (Same.trans' K35.out K7.out) fun _ _ e => e
        rw [OwnT, HLA.out] at h9
        exact h9
      have S7 : Hid (∀ x ∈ LA, Shp w2.heap.size w7 50 4 x.2 x.1.ops.length) := fun x hx => ⟨_, row_kept (P3.out x hx) (Same.trans' K35.out K7.out) fun _ _ e => e⟩
      have hs27 : w2.heap.size ≤ w7.heap.size := K27.out.size
      go_loopw [60] (fun i wr => ∃ (j : Nat) (xs : List Value), j ≤ m ∧ i = .int .i64 (j : Int) ∧ wr.ownsRow w2.heap.size 41 8 (.slice va m ca) m xs ∧ (∀ q x, j ≤ q → LA[q]? = some x → xs[q * 8 + 7]? = some x.2 ∧ Shp w2.heap.size wr 50 4 x.2 x.1.ops.length) ∧ Same (fun b => w2.heap.size ≤ b ∧ b < w3.heap.size) w7 wr) (fun i _ => m - (intOf i).toNat)
      case atStart => exact ⟨0, txc LA, Nat.zero_le _, rfl, R7.out, fun q x _ hx => ⟨txc_get hx 7 (by omega), S7.out x (List.mem_of_getElem? hx)⟩, Same.refl _ _⟩
      case round =>
        obtain ⟨j, xs, hj, rfl, rj, ij, sj⟩ := hrel
        have RJ : Hid (wr.ownsRow w2.heap.size 41 8 (.slice va m ca) m xs) := rj
        have IJ : Hid (∀ q x, j ≤ q → LA[q]? = some x → xs[q * 8 + 7]? = some x.2 ∧ Shp w2.heap.size wr 50 4 x.2 x.1.ops.length) := ij
        have SJ : Hid (Same (fun b => w2.heap.size ≤ b ∧ b < w3.heap.size) w7 wr) := sj
        clear rj ij sj
        by_cases hlt : j < m
        · have c1 : decide ((j : Int) < (m : Int)) = true := by simp only [decide_eq_true_eq]; omega
          have hlt2 : (j : Int) < (m : Int) := by omega
          obtain ⟨⟨t, u⟩, htu⟩ : ∃ p, LA[j]? = some p := ⟨_, List.getElem?_eq_getElem (by rw [HLA.out]; exact hlt)⟩
          obtain ⟨h7, shu⟩ := IJ.out j (t, u) (Nat.le_refl _) htu
          have hmt : t ∈ M.log := by rw [← L3.out]; exact List.mem_map.2 ⟨(t, u), List.mem_of_getElem? htu, rfl⟩
          have hnu : t.ops.length ≤ 4096 := HO1.out t hmt
          have HBU : Hid (∀ b, u.ownBlock = some b → w2.heap.size ≤ b ∧ b < w3.heap.size) := HBA.out (t, u) (List.mem_of_getElem? htu)
          have HDU : Hid (∀ q y b, j < q → LA[q]? = some y → u.ownBlock = some b → y.2.ownBlock ≠ some b) := fun q y b hq hy hb => D3.out j q (t, u) y b hq htu hy hb
          simp only at h7 shu
          obtain ⟨nu, enu⟩ : ∃ nu, nu = t.ops.length := ⟨_, rfl⟩
          rw [← enu] at hnu shu
          obtain ⟨xu, hxu⟩ := shu
          obtain ⟨ua, uc, eu, -⟩ := row_shape hxu
          subst eu
          obtain ⟨ga, eva, hga1, hga2, p7⟩ := row_cell RJ.out h7
          subst eva
          obtain ⟨hga3, hga4⟩ := HGA.out ga rfl
          have HXU : Hid (Shp w2.heap.size wr 50 4 (.slice ua nu uc) nu) := ⟨_, hxu⟩
          have H7 : Hid (xs[j * 8 + 7]? = some (.slice ua nu uc)) := h7
          have HJ : Hid (LA[j]? = some (t, .slice ua nu uc)) := htu
          have ENU : Hid (nu = t.ops.length) := enu
          clear htu h7 hmt hxu enu
          go_wp2_with fail
          go_loopw [69] (fun i wx => ∃ (k : Nat), k ≤ nu ∧ i = .int .i64 (k : Int) ∧ wx.ownsRow w2.heap.size 41 8 (.slice (some ⟨ga, 0, none⟩) m ca) m xs ∧ (∀ q x, j ≤ q → LA[q]? = some x → Shp w2.heap.size wx 50 4 x.2 x.1.ops.length) ∧ Same (fun b => w2.heap.size ≤ b ∧ b < w3.heap.size) w7 wx) (fun i _ => nu - (intOf i).toNat)
          case atStart => exact ⟨0, Nat.zero_le _, rfl, RJ.out, fun q x hq hx => (IJ.out q x hq hx).2, SJ.out⟩
          case round =>
            rename World => wx
            obtain ⟨k, hk, rfl, rk, ik, sk⟩ := hrel
            have RK : Hid (wx.ownsRow w2.heap.size 41 8 (.slice (some ⟨ga, 0, none⟩) m ca) m xs) := rk
            have IK : Hid (∀ q x, j ≤ q → LA[q]? = some x → Shp w2.heap.size wx 50 4 x.2 x.1.ops.length) := ik
            have SK : Hid (Same (fun b => w2.heap.size ≤ b ∧ b < w3.heap.size) w7 wx) := sk
            have shk : Shp w2.heap.size wx 50 4 (.slice ua nu uc) nu := by
              have h9 := ik j _ (Nat.le_refl _) HJ.out
              simp only at h9
              rw [← ENU.out] at h9
              exact h9
            obtain ⟨g', eg, -, hgl, y7⟩ := row_cell rk H7.out
            cases eg
            clear rk ik sk p7
            by_cases hlk : k < nu
            · have e1 : decide ((k : Int) < (nu : Int)) = true := by simp only [decide_eq_true_eq]; omega
              have e2 : (k : Int) < (nu : Int) := by omega
              obtain ⟨gu, cu, eu, hg1, hg2, hcl, hfz⟩ := Shp.cells shk (by omega)
              cases eu
              obtain ⟨u0, m0⟩ := hcl (k * 4) (by omega)
              obtain ⟨u1, m1⟩ := hcl (k * 4 + 1) (by omega)
              obtain ⟨u2, m2⟩ := hcl (k * 4 + 2) (by omega)
              obtain ⟨u3, m3⟩ := hcl (k * 4 + 3) (by omega)
              have f0 := hfz (k * 4)
              have f1 := hfz (k * 4 + 1)
              have f2 := hfz (k * 4 + 2)
              have f3 := hfz (k * 4 + 3)
              have hne : ga ≠ gu := fun e => by
                subst e
                obtain ⟨xk, hxk⟩ := shk
                obtain ⟨-, cur, hc⟩ := row_block hxk (k := ga) rfl
                obtain ⟨-, cur', hc'⟩ := row_block RK.out (k := ga) rfl
                exact types_ne hc hc' (by decide)
              obtain ⟨hbu1, hbu2⟩ := HBU.out gu rfl
              have NR : Hid _ := row_kept RK.out (same_put4 (w := wx) (g := gu) (k * 4) (.int .i64 50) (.string ⟨#[]⟩) (.bool false) (.string ⟨#[]⟩)) fun b hb e => by
                simp only [Value.ownBlock, Option.some.injEq] at hb
                exact hne (by omega)
              have NI : Hid (∀ q x, j ≤ q → LA[q]? = some x → _) := fun q x hq hx => Shp.put4 (IK.out q x hq hx) gu (k * 4) (.int .i64 50) (.string ⟨#[]⟩) (.bool false) (.string ⟨#[]⟩)
              have NS : Hid _ := Same.trans SK.out (same_put4 (w := wx) (g := gu) (k * 4) (.int .i64 50) (.string ⟨#[]⟩) (.bool false) (.string ⟨#[]⟩)) fun i _ e => ⟨by omega, by omega⟩
              clear shk hcl hfz
              go_wp2_with fail
              go_roundw
              case rel => exact ⟨k + 1, by omega, by first | rfl | simp, NR.out, NI.out, NS.out⟩
              case measure => simp only [intOf]; omega
            · have e1 : decide ((k : Int) < (nu : Int)) = false := by simp only [decide_eq_false_iff_not]; omega
              obtain rfl : nu = k := by omega
              have hsx : w7.heap.size ≤ wx.heap.size := SK.out.size
              have HAP2 : Hid (∀ ty, ∃ v' w', (Builtin.append_ #[39, 39] ty #[.slice ua nu uc, .slice (some ⟨wx.heap.size, 0, none⟩) 2 2]).run Try.prog (wx.alloc (.cells #[.int .i64 51, .string ⟨#[]⟩, .bool false, .string ⟨#[]⟩, .int .i64 52, .string ⟨#[]⟩, .bool false, .string ⟨#[]⟩] 50 (0, 0))) = .ok v' w' ∧ ∃ a c, v' = .slice a (nu + 2) c ∧ Same (fun k => (Value.slice ua nu uc).ownBlock = some k) wx w') := fun ty => app_two51 shk hnu (by omega) ty
              clear shk
              go_upto_region 26 with (at_builtin; refine wpList_app rfl (.tmp 85) (.tmp 88) 39 rfl _ _ rfl rfl _ HAP2.out ?_; rintro v8 y8 ⟨xa, xc, rfl, s8⟩)
              have R8 : Hid (y8.ownsRow w2.heap.size 41 8 (.slice (some ⟨ga, 0, none⟩) m ca) m xs) := row_kept RK.out s8 fun b hb e => by
                obtain ⟨xk, hxk⟩ := show Shp w2.heap.size wx 50 4 (.slice ua nu uc) nu from by
                  have h9 := IK.out j _ (Nat.le_refl _) HJ.out
                  simp only at h9
                  rw [← ENU.out] at h9
                  exact h9
                obtain ⟨-, cur, hc⟩ := row_block hxk e
                obtain ⟨-, cur', hc'⟩ := row_block RK.out hb
                exact types_ne hc hc' (by decide)
              have I8 : Hid (∀ q x, j < q → LA[q]? = some x → Shp w2.heap.size y8 50 4 x.2 x.1.ops.length) := fun q x hq hx => Shp.kept (IK.out q x (by omega) hx) s8 fun b hb e => HDU.out q x b hq hx e hb
              have S8 : Hid (Same (fun b => w2.heap.size ≤ b ∧ b < w3.heap.size) w7 y8) := Same.trans SK.out s8 fun i _ e => HBU.out i e
              clear s8 HAP2 RK IK SK
              obtain ⟨g', c', eg, -, hg2, hcl, hfz⟩ := Shp.cells ⟨_, R8.out⟩ (by omega)
              cases eg
              obtain ⟨u0, m0⟩ := hcl (j * 8) (by omega)
              obtain ⟨u1, m1⟩ := hcl (j * 8 + 1) (by omega)
              obtain ⟨u2, m2⟩ := hcl (j * 8 + 2) (by omega)
              obtain ⟨u3, m3⟩ := hcl (j * 8 + 3) (by omega)
              obtain ⟨u4, m4⟩ := hcl (j * 8 + 4) (by omega)
              obtain ⟨u5, m5⟩ := hcl (j * 8 + 5) (by omega)
              obtain ⟨u6, m6⟩ := hcl (j * 8 + 6) (by omega)
              obtain ⟨u7, m7⟩ := hcl (j * 8 + 7) (by omega)
              have f0 := hfz (j * 8)
              have f1 := hfz (j * 8 + 1)
              have f2 := hfz (j * 8 + 2)
              have f3 := hfz (j * 8 + 3)
              have f4 := hfz (j * 8 + 4)
              have f5 := hfz (j * 8 + 5)
              have f6 := hfz (j * 8 + 6)
              have f7 := hfz (j * 8 + 7)
              obtain ⟨ys, r9, hy9⟩ := row_put8 R8.out (j * 8) (.int .i64 0) (.int .i64 53) (.int .i64 0) (.int .i64 0) (.int .i64 0) (.int .i64 0) (.int .i64 0) (.slice xa (nu + 2) xc)
              have s9 := Same.trans S8.out (same_put8 (w := y8) (g := ga) (j * 8) (.int .i64 0) (.int .i64 53) (.int .i64 0) (.int .i64 0) (.int .i64 0) (.int .i64 0) (.int .i64 0) (.slice xa (nu + 2) xc)) fun i _ e => ⟨by omega, by omega⟩
              have i9 := fun q x (hq : j + 1 ≤ q) (hx : LA[q]? = some x) => Shp.put8 (I8.out q x hq hx) ga (j * 8) (.int .i64 0) (.int .i64 53) (.int .i64 0) (.int .i64 0) (.int .i64 0) (.int .i64 0) (.int .i64 0) (.slice xa (nu + 2) xc)
              unfold put8 at r9 s9 i9
              have R9 : Hid _ := r9
              have S9 : Hid _ := s9
              have I9 : Hid (∀ q x, j + 1 ≤ q → LA[q]? = some x → _) := i9
              have Y9 : Hid (∀ q x, j + 1 ≤ q → LA[q]? = some x → ys[q * 8 + 7]? = some x.2) := fun q x hq hx => (hy9 _ (by omega)).trans (IJ.out q x (by omega) hx).1
              clear r9 s9 i9 hy9 hcl hfz y7
              go_wp2_with fail
              go_roundw
              case rel => exact ⟨j + 1, ys, by omega, by first | rfl | simp, R9.out, fun q x hq hx => ⟨Y9.out q x hq hx, I9.out q x hq hx⟩, S9.out⟩
              case measure => simp only [intOf]; omega
        · have c1 : decide ((j : Int) < (m : Int)) = false := by simp only [decide_eq_false_iff_not]; omega
          obtain rfl : m = j := by omega
          rename World => w8
          have S8 : Hid (Same (fun b => w2.heap.size ≤ b ∧ b < w3.heap.size) w7 w8) := SJ.out
          clear SJ IJ RJ c1 hlt hj HBA HGA R7 S7
          go_wp2_with fail
          have hs78 : w7.heap.size ≤ w8.heap.size := S8.out.size
          have z34 : w3.heap.size ≤ w4.heap.size := K4.out.size
          have z45 : w4.heap.size ≤ w5.heap.size := K5.out.size
          have z57 : w5.heap.size ≤ w7.heap.size := K7.out.size
          have z23 : w2.heap.size ≤ w3.heap.size := K3.out.size
          have HBC : Hid (∀ y ∈ LC, ∀ b, y.2.ownBlock = some b → w4.heap.size ≤ b ∧ b < w5.heap.size) := fun y hy b hb => by
            obtain ⟨h1, cur, hc⟩ := row_block (P5.out y hy) hb
            exact ⟨h1, lt_of_heap hc⟩
          have R8 : Hid (OwnT w4.heap.size w8 (.slice vc x cc) LC) := row_kept (row_kept O5.out K7.out fun _ _ e => e) S8.out fun k hk e => by
            obtain ⟨h1, -⟩ := row_block O5.out hk
            omega
          have I8 : Hid (∀ y ∈ LC, Shp w4.heap.size w8 50 4 y.2 y.1.ops.length) := fun y hy => ⟨_, row_kept (row_kept (P5.out y hy) K7.out fun _ _ e => e) S8.out fun k hk e => by
            obtain ⟨h1, -⟩ := row_block (P5.out y hy) hk
            omega⟩
          go_loopw [98] (fun i wr => ∃ (j : Nat), j ≤ x ∧ i = .int .i64 (j : Int) ∧ OwnT w4.heap.size wr (.slice vc x cc) LC ∧ (∀ y ∈ LC, Shp w4.heap.size wr 50 4 y.2 y.1.ops.length) ∧ Same (fun b => w4.heap.size ≤ b ∧ b < w5.heap.size) w8 wr) (fun i _ => x - (intOf i).toNat)
          case atStart => exact ⟨0, Nat.zero_le _, rfl, R8.out, I8.out, Same.refl _ _⟩
          case round =>
            obtain ⟨j, hj, rfl, rj, ij, sj⟩ := hrel
            have RJ : Hid (OwnT w4.heap.size wr (.slice vc x cc) LC) := rj
            have IJ : Hid (∀ y ∈ LC, Shp w4.heap.size wr 50 4 y.2 y.1.ops.length) := ij
            have SJ : Hid (Same (fun b => w4.heap.size ≤ b ∧ b < w5.heap.size) w8 wr) := sj
            clear rj ij sj
            by_cases hlt : j < x
            · have c1 : decide ((j : Int) < (x : Int)) = true := by simp only [decide_eq_true_eq]; omega
              have hlt2 : (j : Int) < (x : Int) := by omega
              obtain ⟨⟨t, u⟩, htu⟩ : ∃ p, LC[j]? = some p := ⟨_, List.getElem?_eq_getElem (by rw [HLC.out]; exact hlt)⟩
              have h7 := txc_get htu 7 (by omega)
              have shu := IJ.out (t, u) (List.mem_of_getElem? htu)
              have hmt : t ∈ EM := by rw [← L5.out]; exact List.mem_map.2 ⟨(t, u), List.mem_of_getElem? htu, rfl⟩
              have hnu : t.ops.length ≤ 4096 := HO2.out t hmt
              have HBU : Hid (∀ b, u.ownBlock = some b → w4.heap.size ≤ b ∧ b < w5.heap.size) := HBC.out (t, u) (List.mem_of_getElem? htu)
              simp only [List.getElem?_cons_succ, List.getElem?_cons_zero] at h7 shu
              obtain ⟨nu, enu⟩ : ∃ nu, nu = t.ops.length := ⟨_, rfl⟩
              rw [← enu] at hnu shu
              obtain ⟨xu, hxu⟩ := shu
              obtain ⟨ua, uc, eu, -⟩ := row_shape hxu
              subst eu
              obtain ⟨ga, eva, hga1, hga2, p7⟩ := row_cell RJ.out h7
              subst eva
              have H7 : Hid ((txc LC)[j * 8 + 7]? = some (.slice ua nu uc)) := h7
              have HJ : Hid ((t, .slice ua nu uc) ∈ LC) := List.mem_of_getElem? htu
              have ENU : Hid (nu = t.ops.length) := enu
              clear htu h7 hmt hxu enu
              go_wp2_with fail
              go_loopw [107] (fun i wx => ∃ (k : Nat), k ≤ nu ∧ i = .int .i64 (k : Int) ∧ OwnT w4.heap.size wx (.slice (some ⟨ga, 0, none⟩) x cc) LC ∧ (∀ y ∈ LC, Shp w4.heap.size wx 50 4 y.2 y.1.ops.length) ∧ Same (fun b => w4.heap.size ≤ b ∧ b < w5.heap.size) w8 wx) (fun i _ => nu - (intOf i).toNat)
              case atStart => exact ⟨0, Nat.zero_le _, rfl, RJ.out, IJ.out, SJ.out⟩
              case round =>
                rename World => wx
                obtain ⟨k, hk, rfl, rk, ik, sk⟩ := hrel
                have RK : Hid (OwnT w4.heap.size wx (.slice (some ⟨ga, 0, none⟩) x cc) LC) := rk
                have IK : Hid (∀ y ∈ LC, Shp w4.heap.size wx 50 4 y.2 y.1.ops.length) := ik
                have SK : Hid (Same (fun b => w4.heap.size ≤ b ∧ b < w5.heap.size) w8 wx) := sk
                have shk : Shp w4.heap.size wx 50 4 (.slice ua nu uc) nu := by
                  have h9 := ik _ HJ.out
                  simp only at h9
                  rw [← ENU.out] at h9
                  exact h9
                obtain ⟨g', eg, -, hgl, y7⟩ := row_cell rk H7.out
                cases eg
                clear rk ik sk p7
                by_cases hlk : k < nu
                · have e1 : decide ((k : Int) < (nu : Int)) = true := by simp only [decide_eq_true_eq]; omega
                  have e2 : (k : Int) < (nu : Int) := by omega
                  obtain ⟨gu, cu, eu, hg1, hg2, hcl, hfz⟩ := Shp.cells shk (by omega)
                  cases eu
                  obtain ⟨u0, m0⟩ := hcl (k * 4) (by omega)
                  obtain ⟨u1, m1⟩ := hcl (k * 4 + 1) (by omega)
                  obtain ⟨u2, m2⟩ := hcl (k * 4 + 2) (by omega)
                  obtain ⟨u3, m3⟩ := hcl (k * 4 + 3) (by omega)
                  have f0 := hfz (k * 4)
                  have f1 := hfz (k * 4 + 1)
                  have f2 := hfz (k * 4 + 2)
                  have f3 := hfz (k * 4 + 3)
                  have hne : ga ≠ gu := fun e => by
                    subst e
                    obtain ⟨xk, hxk⟩ := shk
                    obtain ⟨-, cur, hc⟩ := row_block hxk (k := ga) rfl
                    obtain ⟨-, cur', hc'⟩ := row_block RK.out (k := ga) rfl
                    exact types_ne hc hc' (by decide)
                  obtain ⟨hbu1, hbu2⟩ := HBU.out gu rfl
                  have NR : Hid _ := row_kept RK.out (same_put4 (w := wx) (g := gu) (k * 4) (.int .i64 54) (.string ⟨#[]⟩) (.bool false) (.string ⟨#[]⟩)) fun b hb e => by
                    simp only [Value.ownBlock, Option.some.injEq] at hb
                    exact hne (by omega)
                  have NI : Hid (∀ y ∈ LC, _) := fun y hy => Shp.put4 (IK.out y hy) gu (k * 4) (.int .i64 54) (.string ⟨#[]⟩) (.bool false) (.string ⟨#[]⟩)
                  have NS : Hid _ := Same.trans SK.out (same_put4 (w := wx) (g := gu) (k * 4) (.int .i64 54) (.string ⟨#[]⟩) (.bool false) (.string ⟨#[]⟩)) fun i _ e => ⟨by omega, by omega⟩
                  clear shk hcl hfz
                  go_wp2_with fail
                  go_roundw
                  case rel => exact ⟨k + 1, by omega, by first | rfl | simp, NR.out, NI.out, NS.out⟩
                  case measure => simp only [intOf]; omega
                · have e1 : decide ((k : Int) < (nu : Int)) = false := by simp only [decide_eq_false_iff_not]; omega
                  obtain rfl : nu = k := by omega
                  clear shk y7
                  go_wp2_with fail
                  go_roundw
                  case rel => exact ⟨j + 1, by omega, by first | rfl | simp, RK.out, IK.out, SK.out⟩
                  case measure => simp only [intOf]; omega
            · have c1 : decide ((j : Int) < (x : Int)) = false := by simp only [decide_eq_false_iff_not]; omega
              obtain rfl : x = j := by omega
              rename World => w9
              have S9 : Hid (Same (fun b => w4.heap.size ≤ b ∧ b < w5.heap.size) w8 w9) := SJ.out
              clear SJ IJ RJ c1 hlt hj HBC R8 I8
              have K29 : Hid (Kept w2 w9) := Same.trans (Same.trans K27.out S8.out fun i hi e => by omega) S9.out fun i hi e => by omega
              have S49 : Hid (Same (fun b => b < w3.heap.size ∨ w4.heap.size ≤ b) w4 w9) := Same.trans (Same.trans (Kept.to (Same.trans' K5.out K7.out) _) S8.out fun i hi e => .inl e.2) S9.out fun i hi e => .inr e.1
              have TB9 : Hid (TxnsAt w9 vb M.log) := by
                have h1 : OwnT w3.heap.size w9 (.slice vb m cb) LB := row_kept O4.out S49.out fun k hk e => by
                  obtain ⟨h1, cur, hc⟩ := row_block O4.out hk
                  have := lt_of_heap hc
                  omega
                have h2 : ∀ y ∈ LB, OwnO w3.heap.size w9 y.2 y.1.ops := fun y hy => row_kept (P4.out y hy) S49.out fun k hk e => by
                  obtain ⟨h1, cur, hc⟩ := row_block (P4.out y hy) hk
                  have := lt_of_heap hc
                  omega
                have h3 := OwnT.txns h1 h2
                rw [L4.out] at h3
                exact h3
              have HE2 : Hid _ := HEM.out w9 a' c' (StepsAt.on ST2.out K29.out)
              clear S8 S9 S49
              go_wp2_with fail
              refine Calls.mono HE2.out ?_
              rintro e w10 ⟨v10, LD, rfl, o10, l10, p10, k10⟩
              have hLD : LD.length = x := by
                have h9 := congrArg List.length l10
                rw [EX.out]
                simpa using h9
              obtain ⟨vd, cd, rfl, hcd, hdn, -⟩ := row_shape o10
              rw [hLD] at o10 hcd hdn ⊢
              have TD10 : Hid (TxnsAt w10 vd M.log) := by
                have h3 := OwnT.txns o10 p10
                rw [l10, HRR.out] at h3
                exact h3.head
              have K10 : Hid (Kept w9 w10) := k10
              have HL3 : Hid _ := log15 (Mk.on MK2.out (Same.trans' K29.out k10))
              clear o10 l10 p10 k10 hLD HE2
              go_wp2_with fail
              refine Calls.mono HL3.out ?_
              rintro e w11 ⟨v11, LE, rfl, o11, l11, p11, k11⟩
              have hLE : LE.length = m := by
                have h9 := congrArg List.length l11
                rw [EMM.out]
                simpa using h9
              obtain ⟨ve, ce, rfl, -⟩ := row_shape o11
              rw [hLE] at o11 ⊢
              have TE : TxnsAt w11 ve M.log := by
                have h3 := OwnT.txns o11 p11
                rw [l11] at h3
                exact h3
              have HS1 : Hid (Calls Try.prog 14 #[.slice ve m ce, .slice vb m cb] w11 fun e w' => e = .returned (.bool true) ∧ Kept w11 w') := sameL15 w11 ve vb ce cb m M.log TE (TxnsAt.on TB9.out (Same.trans' K10.out k11)) EMM.out (by omega) fun t ht => by have := HO1.out t ht; omega
              have K11 : Hid (Kept w9 w11) := Same.trans' K10.out k11
              have K1011 : Hid (Kept w10 w11) := k11
              clear o11 l11 p11 k11 hLE TE HL3
              go_wp2_with fail
              refine Calls.mono HS1.out ?_
              rintro e w12 ⟨rfl, k12⟩
              have K12 : Hid (Kept w9 w12) := Same.trans' K11.out k12
              have HS2 : Hid (∀ ct, Calls Try.prog 14 #[.slice vd m ct, .slice vb m cb] w12 fun e w' => e = .returned (.bool true) ∧ Kept w12 w') := fun ct => sameL15 w12 vd vb ct cb m M.log (TxnsAt.on TD10.out (Same.trans' K1011.out k12)) (TxnsAt.on TB9.out K12.out) EMM.out (by omega) fun t ht => by have := HO1.out t ht; omega
              clear k12 HS1
              have g1 : (x : Int) ≥ (m : Int) := by omega
              have g2 : decide ((x : Int) ≥ (m : Int)) = true := decide_eq_true g1
              have g3 : (m : Int) ≤ (x : Int) := by omega
              have g4 : decide ((m : Int) ≤ (x : Int)) = true := decide_eq_true g3
              have g5 : (m : Int) ≤ (cd : Int) := by omega
              have g6 : m ≤ cd := by omega
              have g7 : ¬ m > cd := by omega
              have g8 : ¬ m > x := by omega
              go_wp2_with fail
              refine Calls.mono (HS2.out cd) ?_
              rintro e w13 ⟨rfl, k13⟩
              have K13 : Hid (Kept w w13) := Same.trans' (Same.trans' (Same.trans' K2.out K29.out) K12.out) k13
              clear k13 HS2
              go_wp2_with fail
              go_ret
              exact ⟨rfl, K13.out⟩
end Go.Proofs.Ytmlefbpdlgnkgab
