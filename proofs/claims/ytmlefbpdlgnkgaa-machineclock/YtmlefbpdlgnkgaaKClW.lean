/- What is proved: the law MachineClock answers true, and all that was there stays as it was; the script lies in memory. -/
import Derived.Test.YtmlefbpdlgnkgaaKClL
import Derived.Test.YtmlefbpdlgnkgaaKFree
namespace Go.Proofs.Ytmlefbpdlgnkgaa
open Go.RowKit

/-- What the rows hold when j transactions were looked at. -/
def EndOk (l : List TxM) (j : Nat) (E : Nat → Int) : Prop := ∀ s : Nat, E s = 0 ∨ ∃ k u, k < j ∧ l[k]? = some u ∧ u.f0 = (s : Int) ∧ E s = u.f3
def LastOk (l : List TxM) (j : Nat) (x : Int) : Prop := x = 0 ∨ ∃ k u, k < j ∧ l[k]? = some u ∧ x = u.f3
theorem nOf_take {l : List TxM} {j : Nat} {t : TxM} (h : l[j]? = some t) (s : Int) : nOf (l.take (j + 1)) s = nOf (l.take j) s + if t.f0 = s then 1 else 0 := by
  rw [List.take_add_one, h]
  exact nOf_snoc _ _ _
set_option maxRecDepth 100000 in
set_option maxHeartbeats 6400000 in
theorem clock_law {w : World} {a : Option Addr} {l : List Stp} {cap : Nat} (hl : StepsAt w a l) (hs : SmallS l) (hn : l.length ≤ 2513169434918) (hcap : a = none → cap = 0) (n0 fl : Int) :
    Calls Try.prog 8 #[.int .i64 n0, .int .i64 fl, .slice a l.length cap] w fun e w' => e = .returned (.bool true) ∧ Kept w w' := by
  have HAN : Hid _ := anchor15 w
  have HAP : Hid (∀ W, Kept w W → ∀ ty, ∃ v' w', (Builtin.append_ #[22, 22] ty #[.slice (some ⟨W.heap.size, 0, none⟩) 0 0, .slice a l.length cap]).run Try.prog (W.alloc (.cells #[] 32)) = .ok v' w' ∧ ((∃ a' c', v' = .slice a' l.length c' ∧ StepsAt w' a' l) ∧ Kept W w')) := fun W k' ty => copy_steps (hl.on k') hcap hn ty
  obtain ⟨n, en⟩ : ∃ n, n = l.length := ⟨_, rfl⟩
  by_cases hbad : (n0 < 1 ∨ 64 < n0) ∨ (fl < 0 ∨ 4 < fl)
  · have HEB : Hid (∀ W a' m c', Calls Try.prog 21 #[.int .i64 n0, .int .i64 fl, .slice a' m c'] W fun e w' => (∃ cd : Int, (cd = 150 ∨ cd = 158) ∧ e = .returned (.tuple #[.slice none 0 0, .int .i64 cd])) ∧ w' = W) := fun W a' m c' => emitBad W n0 fl _ hbad rfl
    rw [← en] at hn HAP ⊢
    have HBD : Hid ((n0 < 1 ∨ 64 < n0) ∨ (fl < 0 ∨ 4 < fl)) := hbad
    clear hl hs en hbad hcap
    go_enter Try.func8, Try.ntmps8
    go_wp2_with fail
    refine Calls.mono HAN.out ?_
    rintro e w0 ⟨rfl, k0⟩
    have K0 : Hid (Kept w w0) := k0
    have HA2 : Hid _ := HAP.out w0 k0
    clear k0 HAN HAP
    go_wp2_with (at_builtin; apply Hid.out)
    refine wpList_app rfl (.tmp 20) (.tmp 21) 22 rfl _ _ rfl rfl _ HA2.out ?_
    rintro v' w1 ⟨⟨a', c', rfl, -⟩, k1⟩
    have K1 : Hid (Kept w w1) := Same.trans' K0.out k1
    clear k1 HA2
    go_wp2_with fail
    refine Calls.mono (HEB.out _ _ _ _) ?_
    rintro e w2 ⟨⟨cd, hcd, rfl⟩, h2⟩
    subst w2
    have f1 : (cd != 0) = true := by rcases hcd with rfl | rfl <;> rfl
    have f2 : ¬ cd = 0 := by rcases hcd with rfl | rfl <;> decide
    clear hcd HEB
    rcases HBD.out with (h | h) | (h | h)
    all_goals
      by_cases d1 : n0 < 1
      all_goals
        by_cases d2 : 64 < n0
        all_goals
          by_cases d3 : fl < 0
          all_goals
            by_cases d4 : 4 < fl
            all_goals first
              | (exfalso; omega)
              | (have e1 : decide (n0 < 1) = decide (n0 < 1) := rfl
                 go_wp2_with fail
                 go_ret
                 exact ⟨by simp [*], K1.out⟩)
  · obtain ⟨N, eN⟩ : ∃ N : Nat, n0 = (N : Int) := ⟨n0.toNat, by omega⟩
    subst eN
    have hN0 : 1 ≤ N := by omega
    have hN1 : N ≤ 64 := by omega
    obtain ⟨hlg, hll, hl4⟩ := em_log fl l hN0 hN1
    have HEM : Hid (∀ W a' c', Kept w W → StepsAt W a' l → Calls Try.prog 21 #[.int .i64 (N : Int), .int .i64 fl, .slice a' l.length c'] W (EmP W (emM N fl l).log)) := fun W a' c' _ h' => emit15 h' hs (by omega) N fl hN0 hN1 (by omega) (by omega)
    rw [← en] at hn HAP HEM hll ⊢
    obtain ⟨c9, ec9⟩ : ∃ c9, (emM N fl l).clock = c9 := ⟨_, rfl⟩
    rw [ec9] at hlg
    obtain ⟨LG, eLG⟩ : ∃ LG, (emM N fl l).log = LG := ⟨_, rfl⟩
    rw [eLG] at hlg hll hl4 HEM
    have HLG : Hid (Lg N c9 LG) := hlg
    have d1 : ¬ (N : Int) < 1 := by omega
    have d2 : decide ((N : Int) < 1) = false := decide_eq_false d1
    have d3 : ¬ (64 : Int) < (N : Int) := by omega
    have d4 : decide ((64 : Int) < (N : Int)) = false := decide_eq_false d3
    have hmk := fun W => make_ints W N hN1
    clear hl hs en hbad hcap hlg ec9 eLG
    obtain ⟨m, em⟩ : ∃ m, m = LG.length := ⟨_, rfl⟩
    rw [← em] at hll hl4
    have EM : Hid (m = LG.length) := em
    clear em
    have d5 : ¬ (n : Int) < (m : Int) := by omega
    have d6 : decide ((n : Int) < (m : Int)) = false := decide_eq_false d5
    have d7 : ¬ n < m := by omega
    go_enter Try.func8, Try.ntmps8
    go_wp2_with fail
    refine Calls.mono HAN.out ?_
    rintro e w0 ⟨rfl, k0⟩
    have K0 : Hid (Kept w w0) := k0
    have HA2 : Hid _ := HAP.out w0 k0
    clear k0 HAN HAP
    go_wp2_with (at_builtin; apply Hid.out)
    refine wpList_app rfl (.tmp 20) (.tmp 21) 22 rfl _ _ rfl rfl _ HA2.out ?_
    rintro v' w1 ⟨⟨a', c', rfl, st1⟩, k1⟩
    have K1 : Hid (Kept w w1) := Same.trans' K0.out k1
    have HE2 : Hid _ := HEM.out w1 a' c' K1.out st1
    clear k1 HA2 st1 HEM
    go_wp2_with fail
    refine Calls.mono HE2.out ?_
    rintro e w2 ⟨v2, L, rfl, o2, l2, p2, k2⟩
    have hLm : L.length = m := by
      have h9 := congrArg List.length l2
      rw [EM.out]
      simpa using h9
    obtain ⟨va, vc, rfl, -⟩ := row_shape o2
    rw [hLm] at o2 ⊢
    have O2 : Hid (OwnT w1.heap.size w2 (.slice va m vc) L) := o2
    have L2 : Hid (L.map (·.1) = LG) := l2
    have P2 : Hid (∀ x ∈ L, OwnO w1.heap.size w2 x.2 x.1.ops) := p2
    have K2 : Hid (Kept w w2) := Same.trans' K1.out k2
    have HLM : Hid (L.length = m) := hLm
    clear o2 l2 p2 k2 HE2 hLm
    have ez : (w2.alloc (.cells (madeCells #[Value.int .i64 0] N) 3 (0, 0))).heap.size = w2.heap.size + 1 := World.size_alloc _ _
    have K3 : Hid (Kept w2 ((w2.alloc (.cells (madeCells #[Value.int .i64 0] N) 3 (0, 0))).alloc (.cells (madeCells #[Value.int .i64 0] N) 3 (0, 0)))) := ((Same.refl _ _).alloc _).alloc _
    have R9 : Hid (IntR ((w2.alloc (.cells (madeCells #[Value.int .i64 0] N) 3 (0, 0))).alloc (.cells (madeCells #[Value.int .i64 0] N) 3 (0, 0))) w2.heap.size N (fun _ => 0)) := ⟨_, (heap_old _ _ (by rw [ez]; omega)).trans (heap_new w2 _), made_ints N⟩
    have R10 : Hid (IntR ((w2.alloc (.cells (madeCells #[Value.int .i64 0] N) 3 (0, 0))).alloc (.cells (madeCells #[Value.int .i64 0] N) 3 (0, 0))) (w2.heap.size + 1) N (fun _ => 0)) := by
      have h9 := heap_new (w2.alloc (.cells (madeCells #[Value.int .i64 0] N) 3 (0, 0))) (.cells (madeCells #[Value.int .i64 0] N) 3 (0, 0))
      rw [ez] at h9
      exact ⟨_, h9, made_ints N⟩
    have hne : w2.heap.size ≠ w2.heap.size + 1 := by omega
    have hg9 : w2.heap.size ≤ w2.heap.size := Nat.le_refl _
    have hg10 : w2.heap.size ≤ w2.heap.size + 1 := by omega
    clear ez
    go_upto_region 12 with fail
    generalize (w2.alloc (.cells (madeCells #[Value.int .i64 0] N) 3 (0, 0))).alloc (.cells (madeCells #[Value.int .i64 0] N) 3 (0, 0)) = Z at *
    obtain ⟨g9, e9⟩ : ∃ g9, g9 = w2.heap.size := ⟨_, rfl⟩
    obtain ⟨g10, e10⟩ : ∃ g10, g10 = w2.heap.size + 1 := ⟨_, rfl⟩
    rw [← e10] at R10 hne hg10 ⊢
    rw [← e9] at R9 hne ⊢
    have hg9' : w2.heap.size ≤ g9 := Nat.le_of_eq e9.symm
    clear e9 e10 hg9
    go_loopw [11, 61] (fun s11 i wr => ∃ (j : Nat) (x : Int) (E : Nat → Int), j ≤ m ∧ i = .int .i64 (j : Int) ∧ s11 = .int .i64 x ∧ LastOk LG j x ∧ IntR wr g9 N E ∧ EndOk LG j E ∧ IntR wr g10 N (fun s => ((nOf (LG.take j) (s : Int) : Nat) : Int)) ∧ Same (fun b => b = g9 ∨ b = g10) Z wr) (fun _ i _ => m - (intOf i).toNat)
    case atStart => exact ⟨0, 0, fun _ => 0, Nat.zero_le _, rfl, rfl, .inl rfl, R9.out, fun s => .inl rfl, R10.out, Same.refl _ _⟩
    case round =>
      obtain ⟨j, x, E, hj, rfl, rfl, hx, r9, hE, r10, sj⟩ := hrel
      have HX : Hid (LastOk LG j x) := hx
      have R9J : Hid (IntR wr g9 N E) := r9
      have HEJ : Hid (EndOk LG j E) := hE
      have R10J : Hid (IntR wr g10 N (fun s => ((nOf (LG.take j) (s : Int) : Nat) : Int))) := r10
      have SJ : Hid (Same (fun b => b = g9 ∨ b = g10) Z wr) := sj
      have KWJ : Hid (Kept w2 wr) := (Same.trans K3.out sj fun b hb e => by omega)
      clear hx r9 hE r10 sj R9 R10
      by_cases hlt : j < m
      · have c1 : decide ((j : Int) < (m : Int)) = true := by simp only [decide_eq_true_eq]; omega
        have hlt2 : (j : Int) < (m : Int) := by omega
        obtain ⟨⟨t, u⟩, htu⟩ : ∃ p, L[j]? = some p := ⟨_, List.getElem?_eq_getElem (by rw [HLM.out]; exact hlt)⟩
        have htl : LG[j]? = some t := by rw [← L2.out, List.getElem?_map, htu]; rfl
        have hmem : t ∈ LG := List.mem_of_getElem? htl
        obtain ⟨b1, b2, b3, b4, b5, b6, b7⟩ := (Lg.one HLG.out) t hmem
        have hsq := (Lg.seq HLG.out) j t htl
        obtain ⟨s0, es0⟩ : ∃ s0 : Nat, t.f0 = (s0 : Int) := ⟨t.f0.toNat, by omega⟩
        have hs0 : s0 < N := by omega
        have hxl : x < t.f3 := by
          rcases HX.out with h | ⟨k, v, hk, hv, h⟩
          · omega
          · have := ((Lg.two HLG.out) k j v t hk hv htl).1
            omega
        have hEl : E s0 < t.f2 := by
          rcases HEJ.out s0 with h | ⟨k, v, hk, hv, h, h'⟩
          · omega
          · have := ((Lg.two HLG.out) k j v t hk hv htl).2.2.2 (by rw [h, es0])
            omega
        have HTWO : Hid (∀ k v, k < j → LG[k]? = some v → v.f2 ≠ t.f2 ∧ v.f3 ≠ t.f2) := fun k v hk hv => by
          have h9 := (Lg.two HLG.out) k j v t hk hv htl
          exact ⟨h9.2.1, h9.2.2.1⟩
        have HNX : Hid (LastOk LG (j + 1) t.f3 ∧ EndOk LG (j + 1) (fun q => if q = s0 then t.f3 else E q)) := by
          refine ⟨.inr ⟨j, t, by omega, htl, rfl⟩, fun q => ?_⟩
          by_cases hq : q = s0
          · subst hq
            exact .inr ⟨j, t, by omega, htl, es0, by simp⟩
          · simp only [hq, if_false]
            rcases HEJ.out q with h | ⟨k, v, hk, h⟩
            · exact .inl h
            · exact .inr ⟨k, v, by omega, h⟩
        have HNS : Hid (∀ q : Nat, ((nOf (LG.take (j + 1)) (q : Int) : Nat) : Int) = if q = s0 then ((nOf (LG.take j) (s0 : Int) : Nat) : Int) + 1 else ((nOf (LG.take j) (q : Int) : Nat) : Int)) := fun q => by
          rw [nOf_take htl, es0]
          by_cases hq : q = s0
          · subst hq
            simp
          · rw [if_neg (by omega), if_neg hq]
            simp
        have hnb : nOf (LG.take j) (s0 : Int) ≤ 4096 := by
          have h8 : nOf (LG.take j) (s0 : Int) ≤ (LG.take j).length := List.countP_le_length
          simp only [List.length_take] at h8
          omega
        have hO : OwnT w1.heap.size wr (.slice va m vc) L := row_kept O2.out KWJ.out fun _ _ e => e
        have hU : OwnO w1.heap.size wr u t.ops := OwnO.on (P2.out (t, u) (List.mem_of_getElem? htu)) KWJ.out
        obtain ⟨ua, uc, rfl, -⟩ := OwnO.ops hU
        obtain ⟨g, rfl, -, hgl, p0⟩ := row_cell hO (txc_get htu 0 (by omega))
        have cl : ∀ q (hq : q < 8), wr.cell? ⟨g, j * 8 + q, none⟩ = [Value.int .i64 t.f0, .int .i64 t.f1, .int .i64 t.f2, .int .i64 t.f3, .int .i64 t.f4, .int .i64 t.f5, .int .i64 t.f6, .slice ua t.ops.length uc][q]? := fun q hq => by
          have h9 := txc_get htu q hq
          have h8 : q < [Value.int .i64 t.f0, .int .i64 t.f1, .int .i64 t.f2, .int .i64 t.f3, .int .i64 t.f4, .int .i64 t.f5, .int .i64 t.f6, .slice ua t.ops.length uc].length := hq
          rw [List.getElem?_eq_getElem h8] at h9 ⊢
          obtain ⟨g', eg, -, -, hc⟩ := row_cell hO h9
          cases eg
          exact hc
        have p1 := cl 1 (by omega)
        have p2 := cl 2 (by omega)
        have p3 := cl 3 (by omega)
        have p4 := cl 4 (by omega)
        have p5 := cl 5 (by omega)
        have p6 := cl 6 (by omega)
        have p7 := cl 7 (by omega)
        simp only [List.getElem?_cons_succ, List.getElem?_cons_zero] at p1 p2 p3 p4 p5 p6 p7
        rw [es0] at p0
        rw [hsq, es0] at p1
        rw [← b4] at p5
        obtain ⟨q9, f9, hl9⟩ := IntR.cell R9J.out hs0
        obtain ⟨q10, f10, hl10⟩ := IntR.cell R10J.out hs0
        have HROW : Hid (OwnT w1.heap.size wr (.slice (some ⟨g, 0, none⟩) m vc) L) := hO
        have n1 : ¬ t.f2 ≤ t.f4 := by omega
        have n2 : decide (t.f2 ≤ t.f4) = false := decide_eq_false n1
        have n3 : ¬ t.f4 < 0 := by omega
        have n4 : decide (t.f4 < 0) = false := decide_eq_false n3
        have n5 : ¬ t.f3 ≤ t.f2 := by omega
        have n6 : decide (t.f3 ≤ t.f2) = false := decide_eq_false n5
        have n7 : (t.f3 != t.f3) = false := by simp
        have n8 : ¬ t.f3 ≤ x := by omega
        have n9 : decide (t.f3 ≤ x) = false := decide_eq_false n8
        have o1 : ¬ (s0 : Int) < 0 := by omega
        have o3 : ¬ (N : Int) ≤ (s0 : Int) := by omega
        have o4 : decide ((N : Int) ≤ (s0 : Int)) = false := decide_eq_false o3
        have o5 : (s0 : Int) < (N : Int) := by omega
        have o6 : decide ((s0 : Int) < (N : Int)) = true := decide_eq_true o5
        have o7 : ¬ t.f2 ≤ E s0 := by omega
        have o8 : decide (t.f2 ≤ E s0) = false := decide_eq_false o7
        obtain ⟨NQ, eNQ⟩ : ∃ NQ : Nat, NQ = nOf (LG.take j) (s0 : Int) := ⟨_, rfl⟩
        rw [← eNQ] at p1 q10 hnb HNS
        have o9 : ((NQ : Int) != (NQ : Int)) = false := by simp
        have nqb : (NQ : Int) + 1 ≤ 9223372036854775807 := by omega
        obtain ⟨ES, eES⟩ : ∃ ES, ES = E s0 := ⟨_, rfl⟩
        rw [← eES] at q9 o7 o8
        clear hmem htl hsq hxl hEl hO hU cl b1 b2 b3 b4 b5 b6 b7 es0 htu eNQ eES
        generalize t.f2 = F2 at *
        generalize t.f3 = F3 at *
        generalize t.f4 = F4 at *
        generalize t.f6 = F6 at *
        generalize t.ops.length = ol at *
        have HY : Hid (∀ nq, IntR (((((wr.alloc (.cells #[.int .i64 (s0 : Int), .int .i64 (NQ : Int), .int .i64 F2, .int .i64 F3, .int .i64 F4, .int .i64 F3, .int .i64 F6, .slice ua ol uc] 51 (0, 0))).drewN nq).setCell ⟨g10, s0, none⟩ (.int .i64 ((NQ : Int) + 1))).setCell ⟨g9, s0, none⟩ (.int .i64 F3))) g9 N (fun q => if q = s0 then F3 else E q) ∧
            IntR (((((wr.alloc (.cells #[.int .i64 (s0 : Int), .int .i64 (NQ : Int), .int .i64 F2, .int .i64 F3, .int .i64 F4, .int .i64 F3, .int .i64 F6, .slice ua ol uc] 51 (0, 0))).drewN nq).setCell ⟨g10, s0, none⟩ (.int .i64 ((NQ : Int) + 1))).setCell ⟨g9, s0, none⟩ (.int .i64 F3))) g10 N (fun s => ((nOf (LG.take (j + 1)) (s : Int) : Nat) : Int)) ∧
            Same (fun b => b = g9 ∨ b = g10) Z (((((wr.alloc (.cells #[.int .i64 (s0 : Int), .int .i64 (NQ : Int), .int .i64 F2, .int .i64 F3, .int .i64 F4, .int .i64 F3, .int .i64 F6, .slice ua ol uc] 51 (0, 0))).drewN nq).setCell ⟨g10, s0, none⟩ (.int .i64 ((NQ : Int) + 1))).setCell ⟨g9, s0, none⟩ (.int .i64 F3))) ∧
            OwnT w1.heap.size (((((wr.alloc (.cells #[.int .i64 (s0 : Int), .int .i64 (NQ : Int), .int .i64 F2, .int .i64 F3, .int .i64 F4, .int .i64 F3, .int .i64 F6, .slice ua ol uc] 51 (0, 0))).drewN nq).setCell ⟨g10, s0, none⟩ (.int .i64 ((NQ : Int) + 1))).setCell ⟨g9, s0, none⟩ (.int .i64 F3))) (.slice (some ⟨g, 0, none⟩) m vc) L ∧
            (((((wr.alloc (.cells #[.int .i64 (s0 : Int), .int .i64 (NQ : Int), .int .i64 F2, .int .i64 F3, .int .i64 F4, .int .i64 F3, .int .i64 F6, .slice ua ol uc] 51 (0, 0))).drewN nq).setCell ⟨g10, s0, none⟩ (.int .i64 ((NQ : Int) + 1))).setCell ⟨g9, s0, none⟩ (.int .i64 F3))).heap[wr.heap.size]? = some (.cells #[.int .i64 (s0 : Int), .int .i64 (NQ : Int), .int .i64 F2, .int .i64 F3, .int .i64 F4, .int .i64 F3, .int .i64 F6, .slice ua ol uc] 51 (0, 0))) := fun nq => by
          obtain ⟨WX, eWX⟩ : ∃ WX, WX = (wr.alloc (.cells #[.int .i64 (s0 : Int), .int .i64 (NQ : Int), .int .i64 F2, .int .i64 F3, .int .i64 F4, .int .i64 F3, .int .i64 F6, .slice ua ol uc] 51 (0, 0))).drewN nq := ⟨_, rfl⟩
          have kx : Kept wr WX := by rw [eWX]; exact ((Same.refl _ wr).alloc _).drewN nq
          have hbx : WX.heap[wr.heap.size]? = some (.cells #[.int .i64 (s0 : Int), .int .i64 (NQ : Int), .int .i64 F2, .int .i64 F3, .int .i64 F4, .int .i64 F3, .int .i64 F6, .slice ua ol uc] 51 (0, 0)) := by rw [eWX]; exact heap_new wr _
          rw [← eWX]
          have q10' : Same (fun b => b = g10) WX (WX.setCell ⟨g10, s0, none⟩ (.int .i64 ((NQ : Int) + 1))) := Same.setCell (S := fun b => b = g10) (Same.refl _ WX) ⟨g10, s0, none⟩ (.inr rfl) _
          have q9' : Same (fun b => b = g9) (WX.setCell ⟨g10, s0, none⟩ (.int .i64 ((NQ : Int) + 1))) ((WX.setCell ⟨g10, s0, none⟩ (.int .i64 ((NQ : Int) + 1))).setCell ⟨g9, s0, none⟩ (.int .i64 F3)) := Same.setCell (S := fun b => b = g9) (Same.refl _ _) ⟨g9, s0, none⟩ (.inr rfl) _
          have r9x : IntR WX g9 N E := IntR.kept R9J.out kx (fun e => e)
          have r10x : IntR WX g10 N (fun s => ((nOf (LG.take j) (s : Int) : Nat) : Int)) := IntR.kept R10J.out kx (fun e => e)
          have hOx : OwnT w1.heap.size WX (.slice (some ⟨g, 0, none⟩) m vc) L := row_kept HROW.out kx fun _ _ e => e
          have r10y := (r10x.put hs0 ((NQ : Int) + 1)).kept q9' (fun e => hne e.symm)
          refine ⟨(r9x.kept q10' (fun e => hne e)).put hs0 F3, ?_, (((Same.trans SJ.out kx fun _ _ e => e.elim).setCell ⟨g10, s0, none⟩ (.inr (.inr rfl)) _).setCell ⟨g9, s0, none⟩ (.inr (.inl rfl)) _), row_kept (row_kept hOx q10' fun b hb e => ?_) q9' fun b hb e => ?_, ?_⟩
          · have e9 : (fun s : Nat => ((nOf (LG.take (j + 1)) (s : Int) : Nat) : Int)) = fun q : Nat => if q = s0 then (NQ : Int) + 1 else ((nOf (LG.take j) (q : Int) : Nat) : Int) := funext fun q => HNS.out q
            rw [e9]
            exact r10y
          · subst e
            obtain ⟨arr, h1, -⟩ := r10x
            obtain ⟨-, cur, hc⟩ := row_block hOx hb
            exact types_ne hc h1 (by decide)
          · subst e
            obtain ⟨arr, h1, -⟩ := r9x
            obtain ⟨-, cur, hc⟩ := row_block hOx hb
            exact types_ne hc h1 (by decide)
          · obtain ⟨arr9, h91, -⟩ := r9x
            obtain ⟨arr10, h101, -⟩ := r10x
            rw [heap_set (fun e => types_ne (hbx) (by rw [show wr.heap.size = g9 from e]; exact h91) (by decide)), heap_set (fun e => types_ne (hbx) (by rw [show wr.heap.size = g10 from e]; exact h101) (by decide))]
            exact hbx
        clear hmk
        simp only [Nat.add_zero] at p0
        go_upto_region 14 with fail
        go_upto_region 16 with fail
        go_upto_region 17 with fail
        go_quiet (fail)
        go_upto_region 22 with fail
        rename Nat => nq
        obtain ⟨y9, y10, sY, oY, bY⟩ := HY.out nq
        have Y9 : Hid _ := y9
        have Y10 : Hid _ := y10
        have SY : Hid _ := sY
        have OY : Hid _ := oY
        have BY : Hid _ := bY
        clear y9 y10 sY oY bY HY
        generalize (((((wr.alloc (.cells #[.int .i64 (s0 : Int), .int .i64 (NQ : Int), .int .i64 F2, .int .i64 F3, .int .i64 F4, .int .i64 F3, .int .i64 F6, .slice ua ol uc] 51 (0, 0))).drewN nq).setCell ⟨g10, s0, none⟩ (.int .i64 ((NQ : Int) + 1))).setCell ⟨g9, s0, none⟩ (.int .i64 F3))) = Y at *
        generalize wr.heap.size = g13 at *
        go_loopw [14] (fun i wy => ∃ k : Nat, k ≤ j ∧ i = .int .i64 (k : Int) ∧ Kept Y wy) (fun i _ => j - (intOf i).toNat)
        case atStart => exact ⟨0, Nat.zero_le _, rfl, Same.refl _ _⟩
        case round =>
          rename World => wy
          obtain ⟨k, hk, rfl, ky⟩ := hrel
          have KY : Hid (Kept Y wy) := ky
          clear ky
          by_cases hlk : k < j
          · have e1 : decide ((k : Int) < (j : Int)) = true := by simp only [decide_eq_true_eq]; omega
            have e2 : (k : Int) < (j : Int) := by omega
            have e3 : (k : Int) < (m : Int) := by omega
            have e4 : decide ((k : Int) < (m : Int)) = true := decide_eq_true e3
            obtain ⟨⟨v, u'⟩, hv⟩ : ∃ p, L[k]? = some p := ⟨_, List.getElem?_eq_getElem (by rw [HLM.out]; omega)⟩
            have hvl : LG[k]? = some v := by rw [← L2.out, List.getElem?_map, hv]; rfl
            obtain ⟨z1, z2⟩ := HTWO.out k v hlk hvl
            have hOy : OwnT _ wy (.slice (some ⟨g, 0, none⟩) m vc) L := row_kept OY.out KY.out fun _ _ e => e
            obtain ⟨g', eg, -, hgl', x2⟩ := row_cell hOy (txc_get hv 2 (by omega))
            cases eg
            obtain ⟨g', eg, -, -, x3⟩ := row_cell hOy (txc_get hv 3 (by omega))
            cases eg
            have hbY := (Same.block KY.out g13 (lt_of_heap BY.out) (fun e => e)).trans BY.out
            have x13 : wy.cell? ⟨g13, 2, none⟩ = some (.int .i64 F2) := (cell_of hbY 2).trans rfl
            have hl13 := lt_of_heap hbY
            have z3 : (v.f2 == F2) = false := by simpa using z1
            have z4 : (v.f3 == F2) = false := by simpa using z2
            clear hOy hbY hv hvl
            generalize v.f2 = V2 at *
            generalize v.f3 = V3 at *
            go_upto_region 24 with fail
            go_quiet (fail)
            go_wp2_with fail
            go_roundw
            case rel => exact ⟨k + 1, by omega, by first | rfl | simp, Same.drewN KY.out _⟩
            case measure => simp only [intOf]; omega
          · have e1 : decide ((k : Int) < (j : Int)) = false := by simp only [decide_eq_false_iff_not]; omega
            obtain rfl : j = k := by omega
            go_wp2_with fail
            go_roundw
            case rel => exact ⟨j + 1, F3, _, by omega, by first | rfl | simp, rfl, HNX.out.1, IntR.kept Y9.out KY.out (fun e => e), HNX.out.2, IntR.kept Y10.out KY.out (fun e => e), Same.trans SY.out KY.out fun _ _ e => e.elim⟩
            case measure => simp only [intOf]; omega
      · have c1 : decide ((j : Int) < (m : Int)) = false := by simp only [decide_eq_false_iff_not]; omega
        obtain rfl : m = j := by omega
        go_wp2_with fail
        go_ret
        exact ⟨rfl, Same.trans' K2.out KWJ.out⟩
end Go.Proofs.Ytmlefbpdlgnkgaa
