/- What is proved: the law StreamApart returns true and turns nothing that was there, whatever its arguments; the bounds that a machine's memory sets. -/
import Derived.Test.YtemfeaooenaelaaSApL
namespace Go.Proofs.Ytemfeaooenaelaa
open Go.RowKit

set_option maxRecDepth 100000 in
set_option maxHeartbeats 1500000 in
theorem apart_none (w : World) (c : Nat) (l : List Int) (hb : ArgB w none c l) (hl0 : l.length = 0) (ob : Option Addr) (cb : Nat) (q : List Int) (hq : NumsAt w ob q) (hql : q.length ≤ 140737488351232) :
    Calls Try.prog 8 #[.slice none l.length c, .slice ob q.length cb] w fun e w' => e = .returned (.bool true) ∧ Kept w w' := by
  have HAN : Hid _ := anchor_any8 w
  have hl : l.length ≤ 4194304 := by omega
  have HL0 : Hid _ := hl0
  clear hl0
  have hnot : ∀ (x : Bool) (w : World), (Op.unary .not (.bool x)).run Try.prog w = .ok (.bool (!x)) w := fun _ _ => rfl
  obtain ⟨n, en⟩ : ∃ n, n = l.length := ⟨_, rfl⟩
  have t3 : decide ((n : Int) > 4194304) = false := by simp; omega
  have t3' : ¬ ((n : Int) > 4194304) := by omega
  have hcap : n ≤ c := by rw [en]; exact hb.cap
  have HAB : Hid _ := And.intro hb hq
  have EN : Hid _ := en
  obtain ⟨Q, eQ⟩ : ∃ Q, Q = q.length := ⟨_, rfl⟩
  have EQ : Hid _ := eQ
  rw [← en, ← eQ]
  rw [← eQ] at hql
  clear hb hq en eQ
  go_enter Try.func8, Try.ntmps8
  go_wp2_with fail
  refine Calls.mono HAN.out ?_
  rintro x w1 ⟨rfl, k1⟩
  have hb1 := HAB.out.1.data.kept k1 (fun _ _ h => h)
  have HCL : Hid _ := clone_run (c := c) hb1 HAB.out.1.nil (by have := HAB.out.1.le; omega)
  rw [← EN.out] at HCL
  have K1 : Hid _ := k1
  clear k1 hb1 HAN
  go_wp2_with (at_builtin; refine wpList_app rfl (.tmp 21) (.tmp 22) 22 rfl _ _ rfl rfl _ HCL.out ?_; intro v' w2 hR; obtain ⟨ia, ic, rfl, b2, c2, nil2, nw2, k2⟩ := hR; have HNW : Hid (Calls Try.prog 13 #[.agg #[.int .i64 16, .int .i64 0], .slice ia l.length ic, .slice none 0 0, .slice none 0 0] w2 fun e w' => ∃ p, e = .returned (.tuple #[.pointer (some ⟨p.db, 0, none⟩), .int .i64 0]) ∧ Dv w' (M.made 16 0 l [] []) p ∧ (∀ k, Foot (M.made 16 0 l [] []) p k → w2.heap.size ≤ k) ∧ Kept w2 w') := new_yes 16 0 ia none none ic 0 0 l [] [] w2 b2 (BytesAt.nil _ _) (FaultsAt.nil _ _) nil2 (fun _ => ⟨rfl, rfl⟩) (by unfold chk okG; simp; omega); have K2 : Hid _ := k2; clear b2 c2 nil2 nw2 k2)
  refine Calls.mono HNW.out ?_
  rintro x w3 ⟨p, rfl, h3, hf3, k3⟩
  have HIN : Hid _ := sinput_any (o := tagD p) 3 h3
  have H3 : Hid _ := And.intro h3 (And.intro hf3 k3)
  clear h3 hf3 k3 HNW HCL
  go_wp2_with fail
  refine Calls.mono HIN.out ?_
  rintro x w4 ⟨rb, o4, rfl, -, st4, hr4, hi4⟩
  have H4 : Hid _ := And.intro st4 (And.intro hr4 hi4)
  have HIN2 : Hid _ := sinput_any (o := o4) 4 ((tagD_dv H3.out.1).on st4 (fun h => h) (fun h => h)).dv
  clear st4 hr4 hi4 HIN
  go_wp2_with fail
  refine Calls.mono HIN2.out ?_
  rintro x w5 ⟨sb, o5, rfl, -, st5, hs5, hi5⟩
  obtain ⟨h3, hf3, k3⟩ := H3.out
  obtain ⟨st4, hr4, hi4⟩ := H4.out
  have kW3 : Kept w w3 := (K1.out.trans' K2.out).trans' k3
  have hz5 : ∀ k, k < w.heap.size → o5 k = 0 := fun k hk => by
    have a1 := K1.out.size
    have a2 := K2.out.size
    have a3 := k3.size
    have a4 := st4.same.size
    rw [st5.tag k (by omega), st4.tag k (by omega)]
    exact tagD_old hf3 (by omega)
  have HST : Hid (∀ W, Kept w5 W → W.heap.size = w5.heap.size + 2 → ApL w l p (fun k => w5.heap.size ≤ k ∧ k < w5.heap.size + 2) 3 4 rb sb W 0 0) := fun W kw hs => by
    have := ApL.start (((tagD_dv h3).on st4 (fun h => h) (fun h => h)).on st5 (fun h => h) (fun h => h)) (hr4.on st5 (fun h => h) (fun h => h)) hs5 hi4 (kept_of (kept_of kW3 st4 fun k hk h => h) st5 fun k hk h => h) hz5 kw
    rwa [hs] at this
  have HR2 : Hid (∀ Y, ((w5.alloc (.cells #[.pointer (some ⟨rb, 0, none⟩), .pointer (some ⟨sb, 0, none⟩)] 42)).alloc Y).heap[w5.heap.size]? = some (.cells #[.pointer (some ⟨rb, 0, none⟩), .pointer (some ⟨sb, 0, none⟩)] 42 (0, 0)) ∧ ((w5.alloc (.cells #[.pointer (some ⟨rb, 0, none⟩), .pointer (some ⟨sb, 0, none⟩)] 42)).alloc Y).heap[w5.heap.size + 1]? = some Y ∧ ((w5.alloc (.cells #[.pointer (some ⟨rb, 0, none⟩), .pointer (some ⟨sb, 0, none⟩)] 42)).alloc Y).heap.size = w5.heap.size + 2) := fun Y => by
    have q1 := heap_new w5 (.cells #[.pointer (some ⟨rb, 0, none⟩), .pointer (some ⟨sb, 0, none⟩)] 42)
    have q2 := heap_new (w5.alloc (.cells #[.pointer (some ⟨rb, 0, none⟩), .pointer (some ⟨sb, 0, none⟩)] 42)) Y
    have e1 : (w5.alloc (.cells #[.pointer (some ⟨rb, 0, none⟩), .pointer (some ⟨sb, 0, none⟩)] 42)).heap.size = w5.heap.size + 1 := World.size_alloc ..
    rw [e1] at q2
    exact ⟨(((Same.refl (fun _ => False) _).alloc Y).block _ (lt_of_heap q1) (fun e => e)).trans q1, q2, by rw [World.size_alloc, e1]⟩
  clear h3 hf3 k3 kW3 hz5 st4 hr4 hi4 st5 hs5 hi5 H3 H4 HIN2 K1 K2
  go_wp2_with fail
  generalize ek0 : w5.heap.size = k0 at *
  clear ek0
  go_loopw [50] (fun i wr => ∃ (j c0 d0 : Nat) (ty : TypeId), j ≤ Q ∧ i = .int .i64 j ∧ ApL w l p (fun k => k0 ≤ k ∧ k < k0 + 2) 3 4 rb sb wr c0 d0 ∧ wr.heap[k0]? = some (.cells #[.pointer (some ⟨rb, 0, none⟩), .pointer (some ⟨sb, 0, none⟩)] 42 (0, 0)) ∧ wr.heap[k0 + 1]? = some (.cells #[.int .i64 (c0 : Int), .int .i64 (d0 : Int)] ty (0, 0))) (fun i _ => Q - (intOf i).toNat)
  case atStart => exact ⟨0, 0, 0, _, Nat.zero_le _, rfl, HST.out _ (by (repeat (first | assumption | exact Same.refl _ _ | apply Same.alloc | apply Same.drew | apply Same.drewN)); done) (HR2.out _).2.2, (HR2.out _).1, (HR2.out _).2.1⟩
  case round =>
    clear HST HR2
    obtain ⟨j, c0, d0, ty, hj, rfl, hIL, hrr, hab⟩ := hrel
    have cr0 : wr.cell? ⟨k0, 0, none⟩ = some (.pointer (some ⟨rb, 0, none⟩)) := (cell_of hrr 0).trans rfl
    have cr1 : wr.cell? ⟨k0, 1, none⟩ = some (.pointer (some ⟨sb, 0, none⟩)) := (cell_of hrr 1).trans rfl
    have lrr := lt_of_heap hrr
    obtain ⟨hc0, hd0⟩ := hIL.le
    by_cases hjq : j < Q
    · have hjq2 : (j : Int) < (Q : Int) := by omega
      obtain ⟨x, hx⟩ : ∃ x, q[j]? = some x := ⟨_, List.getElem?_eq_getElem (by rw [← EQ.out]; exact hjq)⟩
      obtain ⟨nb, noff, eo, hnb, hcell⟩ := HAB.out.2 j x hx
      have hc : wr.cell? ⟨nb, noff + j, none⟩ = some (.int .i64 x) := (hIL.kept.cell (p := ⟨nb, noff + j, none⟩) hnb (fun h => h)).trans hcell
      have hlb : nb < wr.heap.size := Nat.lt_of_lt_of_le hnb hIL.kept.size
      subst eo
      by_cases hbad : x < 0 ∨ 65536 < x
      · have HG : Hid _ := (⟨hIL, hrr, hab⟩ : _ ∧ _ ∧ _)
        have d3 : decide (x < 0) = true ∨ (decide (x < 0) = false ∧ decide (x > 65536) = true) := by simp only [decide_eq_true_eq, decide_eq_false_iff_not]; omega
        clear hIL hx hcell hbad hrr hab
        rcases d3 with d3 | ⟨d3, d4⟩
        all_goals
          go_wp2_with fail
          go_roundw
          case rel => exact ⟨j + 1, c0, d0, ty, hjq, by rw [Int.natCast_add]; rfl, HG.out⟩
          case measure => simp only [intOf]; omega
      · obtain ⟨m, rfl⟩ := Int.eq_ofNat_of_zero_le (show 0 ≤ x by omega)
        have d3 : decide ((m : Int) < 0) = false := by simp
        have d4 : decide ((m : Int) > 65536) = false := by simp; omega
        have d4' : ¬ ((m : Int) > 65536) := by omega
        have hcz : n ≤ 4194304 := by rw [EN.out]; exact hl
        rcases Nat.mod_two_eq_zero_or_one j with hp | hp
        · have hpm : Int.tmod (j : Int) 2 = 0 := by rw [Int.tmod_eq_emod_of_nonneg (by omega)]; omega
          clear hx hcell hbad hp
          have HR := (hIL).read (by decide) (by decide) hl m (by omega)
          obtain ⟨k, ek⟩ : ∃ k, k = min m (l.length - c0) := ⟨_, rfl⟩
          have hkl : c0 + k ≤ l.length := by omega
          rw [← ek] at HR
          have HR' : Hid _ := HR
          have hmin : min (m : Int) ((n : Int) - (c0 : Int)) = (k : Int) := by have := EN.out; omega
          have hn4 : n ≤ 4194304 := by rw [EN.out]; exact hl
          have hkn : c0 + k ≤ n := by rw [EN.out]; exact hkl
          have g1 : ¬ ((n : Int) - (c0 : Int) < (k : Int)) := by omega
          have g1' : decide ((n : Int) - (c0 : Int) < (k : Int)) = false := decide_eq_false g1
          have g2 : IntKind.i64.wrap ((n : Int) - (c0 : Int)) = (n : Int) - (c0 : Int) := by rw [IntKind.wrap_i64]; omega
          have g3 : IntKind.i64.wrap ((c0 : Int) + (k : Int)) = (c0 : Int) + (k : Int) := by rw [IntKind.wrap_i64]; omega
          have g4 : (0 : Int) ≤ (c0 : Int) := by omega
          have g5 : (c0 : Int) ≤ (c0 : Int) + (k : Int) := by omega
          have g6 : (c0 : Int) + (k : Int) ≤ (c : Int) := by omega
          have g7 : c0 + k ≤ c := by omega
          have g8 : ((c0 : Int) + (k : Int)).toNat = c0 + k := by omega
          have g9 : c0 + k - c0 = k := by omega
          have HRB : Hid _ := (⟨hrr, hab⟩ : _ ∧ _)
          have HIK : Hid _ := hIL.kept
          clear hIL HR hrr hab
          go_wp2_with fail
          refine Calls.mono HR'.out ?_
          rintro x2 w6 ⟨va, vc, rfl, hv, hI5, hK5⟩
          have hrr6 := (hK5 k0 ⟨Nat.le_refl _, by omega⟩).trans HRB.out.1
          have hab6 := (hK5 (k0 + 1) ⟨by omega, by omega⟩).trans HRB.out.2
          have c60 : w6.cell? ⟨k0 + 1, 0, none⟩ = some (.int .i64 (c0 : Int)) := (cell_of hab6 0).trans rfl
          have c61 : w6.cell? ⟨k0 + 1, 1, none⟩ = some (.int .i64 (d0 : Int)) := (cell_of hab6 1).trans rfl
          have f60 := frozen_of hab6 0
          have lab := lt_of_heap hab6
          have HSM : Hid (∀ W x cx, Kept w6 W → Calls Try.prog 18 #[.slice va k vc, .slice x k cx] W fun e w' => e = .returned (.bool true) ∧ w' = W) := fun W x cx kw => by
            have hz := HL0.out
            have hlk : ((l.drop c0).take k).length = k := by rw [List.length_take, List.length_drop]; omega
            have he : (l.drop c0).take k = [] := List.eq_nil_of_length_eq_zero (by rw [hlk]; omega)
            have := same_true W va x vc cx ((l.drop c0).take k) (hv.kept kw (fun _ _ h => h)) (by rw [he]; exact BytesAt.nil _ _) (by rw [hlk]; omega)
            rwa [hlk] at this
          have HFIN : Hid (∀ W, Kept w6 W → ∃ ty, ApL w l p (fun k => k0 ≤ k ∧ k < k0 + 2) 3 4 rb sb (W.setCell ⟨k0 + 1, 0, none⟩ (.int .i64 ((c0 : Int) + (k : Int)))) (c0 + k) (d0) ∧ (W.setCell ⟨k0 + 1, 0, none⟩ (.int .i64 ((c0 : Int) + (k : Int)))).heap[k0]? = some (.cells #[.pointer (some ⟨rb, 0, none⟩), .pointer (some ⟨sb, 0, none⟩)] 42 (0, 0)) ∧ (W.setCell ⟨k0 + 1, 0, none⟩ (.int .i64 ((c0 : Int) + (k : Int)))).heap[k0 + 1]? = some (.cells #[.int .i64 ((c0 + k : Nat) : Int), .int .i64 (d0 : Int)] ty (0, 0))) := fun W kw => by
            have s1 : Same (fun k => k0 ≤ k ∧ k < k0 + 2) w6 (W.setCell ⟨k0 + 1, 0, none⟩ (.int .i64 ((c0 : Int) + (k : Int)))) := (Same.setCell (Kept.to kw (fun k => k0 ≤ k ∧ k < k0 + 2)) ⟨k0 + 1, 0, none⟩ (.inr ⟨by show k0 ≤ k0 + 1; omega, by show k0 + 1 < k0 + 2; omega⟩) _)
            have s2 : Same (fun k => k = k0 + 1) W (W.setCell ⟨k0 + 1, 0, none⟩ (.int .i64 ((c0 : Int) + (k : Int)))) := (Same.refl (fun k => k = k0 + 1) W).setCell ⟨k0 + 1, 0, none⟩ (.inr rfl) _
            have hrW := (kw.block k0 (lt_of_heap hrr6) (fun e => e)).trans hrr6
            have haW := (kw.block (k0 + 1) (lt_of_heap hab6) (fun e => e)).trans hab6
            refine ⟨ty, (ApL.on (hI5) (by decide) s1), (s2.block k0 (lt_of_heap hrW) (by omega)).trans hrW, ?_⟩
            rw [setCell_at haW, Int.natCast_add]
            rfl
          clear hv hI5 hK5 hrr6 hab6 HR' HRB ek
          go_wp2_with fail
          go_quiet ((go_at_call 18; exact Calls.quiet_of_same (HSM.out _ _ _ (by (repeat (first | assumption | exact Same.refl _ _ | apply Same.alloc | apply Same.drew | apply Same.drewN)); done))))
          go_wp2_with fail
          go_roundw
          case rel =>
            obtain ⟨ty2, f1, f2, f3⟩ := HFIN.out (w6.drewN nq) ((Same.refl _ w6).drewN nq)
            exact ⟨j + 1, c0 + k, d0, ty2, hjq, by rw [Int.natCast_add]; rfl, f1, f2, f3⟩
          case measure => simp only [intOf]; omega
        · have hpm : Int.tmod (j : Int) 2 = 1 := by rw [Int.tmod_eq_emod_of_nonneg (by omega)]; omega
          clear hx hcell hbad hp
          have HR := (hIL.swap).read (by decide) (by decide) hl m (by omega)
          obtain ⟨k, ek⟩ : ∃ k, k = min m (l.length - d0) := ⟨_, rfl⟩
          have hkl : d0 + k ≤ l.length := by omega
          rw [← ek] at HR
          have HR' : Hid _ := HR
          have hmin : min (m : Int) ((n : Int) - (d0 : Int)) = (k : Int) := by have := EN.out; omega
          have hn4 : n ≤ 4194304 := by rw [EN.out]; exact hl
          have hkn : d0 + k ≤ n := by rw [EN.out]; exact hkl
          have g1 : ¬ ((n : Int) - (d0 : Int) < (k : Int)) := by omega
          have g1' : decide ((n : Int) - (d0 : Int) < (k : Int)) = false := decide_eq_false g1
          have g2 : IntKind.i64.wrap ((n : Int) - (d0 : Int)) = (n : Int) - (d0 : Int) := by rw [IntKind.wrap_i64]; omega
          have g3 : IntKind.i64.wrap ((d0 : Int) + (k : Int)) = (d0 : Int) + (k : Int) := by rw [IntKind.wrap_i64]; omega
          have g4 : (0 : Int) ≤ (d0 : Int) := by omega
          have g5 : (d0 : Int) ≤ (d0 : Int) + (k : Int) := by omega
          have g6 : (d0 : Int) + (k : Int) ≤ (c : Int) := by omega
          have g7 : d0 + k ≤ c := by omega
          have g8 : ((d0 : Int) + (k : Int)).toNat = d0 + k := by omega
          have g9 : d0 + k - d0 = k := by omega
          have HRB : Hid _ := (⟨hrr, hab⟩ : _ ∧ _)
          have HIK : Hid _ := hIL.kept
          clear hIL HR hrr hab
          go_wp2_with fail
          refine Calls.mono HR'.out ?_
          rintro x2 w6 ⟨va, vc, rfl, hv, hI5, hK5⟩
          have hrr6 := (hK5 k0 ⟨Nat.le_refl _, by omega⟩).trans HRB.out.1
          have hab6 := (hK5 (k0 + 1) ⟨by omega, by omega⟩).trans HRB.out.2
          have c60 : w6.cell? ⟨k0 + 1, 0, none⟩ = some (.int .i64 (c0 : Int)) := (cell_of hab6 0).trans rfl
          have c61 : w6.cell? ⟨k0 + 1, 1, none⟩ = some (.int .i64 (d0 : Int)) := (cell_of hab6 1).trans rfl
          have f60 := frozen_of hab6 1
          have lab := lt_of_heap hab6
          have HSM : Hid (∀ W x cx, Kept w6 W → Calls Try.prog 18 #[.slice va k vc, .slice x k cx] W fun e w' => e = .returned (.bool true) ∧ w' = W) := fun W x cx kw => by
            have hz := HL0.out
            have hlk : ((l.drop d0).take k).length = k := by rw [List.length_take, List.length_drop]; omega
            have he : (l.drop d0).take k = [] := List.eq_nil_of_length_eq_zero (by rw [hlk]; omega)
            have := same_true W va x vc cx ((l.drop d0).take k) (hv.kept kw (fun _ _ h => h)) (by rw [he]; exact BytesAt.nil _ _) (by rw [hlk]; omega)
            rwa [hlk] at this
          have HFIN : Hid (∀ W, Kept w6 W → ∃ ty, ApL w l p (fun k => k0 ≤ k ∧ k < k0 + 2) 3 4 rb sb (W.setCell ⟨k0 + 1, 1, none⟩ (.int .i64 ((d0 : Int) + (k : Int)))) (c0) (d0 + k) ∧ (W.setCell ⟨k0 + 1, 1, none⟩ (.int .i64 ((d0 : Int) + (k : Int)))).heap[k0]? = some (.cells #[.pointer (some ⟨rb, 0, none⟩), .pointer (some ⟨sb, 0, none⟩)] 42 (0, 0)) ∧ (W.setCell ⟨k0 + 1, 1, none⟩ (.int .i64 ((d0 : Int) + (k : Int)))).heap[k0 + 1]? = some (.cells #[.int .i64 (c0 : Int), .int .i64 ((d0 + k : Nat) : Int)] ty (0, 0))) := fun W kw => by
            have s1 : Same (fun k => k0 ≤ k ∧ k < k0 + 2) w6 (W.setCell ⟨k0 + 1, 1, none⟩ (.int .i64 ((d0 : Int) + (k : Int)))) := (Same.setCell (Kept.to kw (fun k => k0 ≤ k ∧ k < k0 + 2)) ⟨k0 + 1, 1, none⟩ (.inr ⟨by show k0 ≤ k0 + 1; omega, by show k0 + 1 < k0 + 2; omega⟩) _)
            have s2 : Same (fun k => k = k0 + 1) W (W.setCell ⟨k0 + 1, 1, none⟩ (.int .i64 ((d0 : Int) + (k : Int)))) := (Same.refl (fun k => k = k0 + 1) W).setCell ⟨k0 + 1, 1, none⟩ (.inr rfl) _
            have hrW := (kw.block k0 (lt_of_heap hrr6) (fun e => e)).trans hrr6
            have haW := (kw.block (k0 + 1) (lt_of_heap hab6) (fun e => e)).trans hab6
            refine ⟨ty, (ApL.on (hI5.swap) (by decide) s1), (s2.block k0 (lt_of_heap hrW) (by omega)).trans hrW, ?_⟩
            rw [setCell_at haW, Int.natCast_add]
            rfl
          clear hv hI5 hK5 hrr6 hab6 HR' HRB ek
          go_wp2_with fail
          go_quiet ((go_at_call 18; exact Calls.quiet_of_same (HSM.out _ _ _ (by (repeat (first | assumption | exact Same.refl _ _ | apply Same.alloc | apply Same.drew | apply Same.drewN)); done))))
          go_wp2_with fail
          go_roundw
          case rel =>
            obtain ⟨ty2, f1, f2, f3⟩ := HFIN.out (w6.drewN nq) ((Same.refl _ w6).drewN nq)
            exact ⟨j + 1, c0, d0 + k, ty2, hjq, by rw [Int.natCast_add]; rfl, f1, f2, f3⟩
          case measure => simp only [intOf]; omega
    · have HT0 : Hid (∀ W, Kept wr W → _) := fun W (kw : Kept wr W) => (hIL.on (by decide) (kw.to _)).tells
      have HT1 : Hid (∀ W, Kept wr W → _) := fun W (kw : Kept wr W) => (hIL.on (by decide) (kw.to _)).swap.tells
      have ca0 : wr.cell? ⟨k0 + 1, 0, none⟩ = some (.int .i64 (c0 : Int)) := (cell_of hab 0).trans rfl
      have ca1 : wr.cell? ⟨k0 + 1, 1, none⟩ = some (.int .i64 (d0 : Int)) := (cell_of hab 1).trans rfl
      have lab := lt_of_heap hab
      have KF : Hid _ := hIL.kept
      clear hIL hrr hab
      go_wp2_with fail
      go_quiet ((first
        | (go_at_call 16; exact Calls.quiet_of_same (HT0.out _ (by (repeat (first | assumption | exact Same.refl _ _ | apply Same.alloc | apply Same.drew | apply Same.drewN)); done)))
        | (go_at_call 16; exact Calls.quiet_of_same (HT1.out _ (by (repeat (first | assumption | exact Same.refl _ _ | apply Same.alloc | apply Same.drew | apply Same.drewN)); done)))))
      go_wp2_with fail
      go_ret
      exact ⟨by first | exact rfl | (congr 1; simp), by first | exact KF.out | exact KF.out.drew | exact KF.out.drewN _⟩
set_option maxRecDepth 100000 in
set_option maxHeartbeats 1500000 in
theorem apart_some (w : World) (ad : Addr) (c : Nat) (l : List Int) (hb : ArgB w (some ad) c l) (hl0 : l.length = 0) (ob : Option Addr) (cb : Nat) (q : List Int) (hq : NumsAt w ob q) (hql : q.length ≤ 140737488351232) :
    Calls Try.prog 8 #[.slice (some ad) l.length c, .slice ob q.length cb] w fun e w' => e = .returned (.bool true) ∧ Kept w w' := by
  have HAN : Hid _ := anchor_any8 w
  have hl : l.length ≤ 4194304 := by omega
  have HL0 : Hid _ := hl0
  clear hl0
  have hnot : ∀ (x : Bool) (w : World), (Op.unary .not (.bool x)).run Try.prog w = .ok (.bool (!x)) w := fun _ _ => rfl
  obtain ⟨n, en⟩ : ∃ n, n = l.length := ⟨_, rfl⟩
  have t3 : decide ((n : Int) > 4194304) = false := by simp; omega
  have t3' : ¬ ((n : Int) > 4194304) := by omega
  have hcap : n ≤ c := by rw [en]; exact hb.cap
  have HAB : Hid _ := And.intro hb hq
  have EN : Hid _ := en
  obtain ⟨Q, eQ⟩ : ∃ Q, Q = q.length := ⟨_, rfl⟩
  have EQ : Hid _ := eQ
  rw [← en, ← eQ]
  rw [← eQ] at hql
  clear hb hq en eQ
  go_enter Try.func8, Try.ntmps8
  go_wp2_with fail
  refine Calls.mono HAN.out ?_
  rintro x w1 ⟨rfl, k1⟩
  have hb1 := HAB.out.1.data.kept k1 (fun _ _ h => h)
  have HCL : Hid _ := clone_run (c := c) hb1 HAB.out.1.nil (by have := HAB.out.1.le; omega)
  rw [← EN.out] at HCL
  have K1 : Hid _ := k1
  clear k1 hb1 HAN
  go_wp2_with (at_builtin; refine wpList_app rfl (.tmp 21) (.tmp 22) 22 rfl _ _ rfl rfl _ HCL.out ?_; intro v' w2 hR; obtain ⟨ia, ic, rfl, b2, c2, nil2, nw2, k2⟩ := hR; have HNW : Hid (Calls Try.prog 13 #[.agg #[.int .i64 16, .int .i64 0], .slice ia l.length ic, .slice none 0 0, .slice none 0 0] w2 fun e w' => ∃ p, e = .returned (.tuple #[.pointer (some ⟨p.db, 0, none⟩), .int .i64 0]) ∧ Dv w' (M.made 16 0 l [] []) p ∧ (∀ k, Foot (M.made 16 0 l [] []) p k → w2.heap.size ≤ k) ∧ Kept w2 w') := new_yes 16 0 ia none none ic 0 0 l [] [] w2 b2 (BytesAt.nil _ _) (FaultsAt.nil _ _) nil2 (fun _ => ⟨rfl, rfl⟩) (by unfold chk okG; simp; omega); have K2 : Hid _ := k2; clear b2 c2 nil2 nw2 k2)
  refine Calls.mono HNW.out ?_
  rintro x w3 ⟨p, rfl, h3, hf3, k3⟩
  have HIN : Hid _ := sinput_any (o := tagD p) 3 h3
  have H3 : Hid _ := And.intro h3 (And.intro hf3 k3)
  clear h3 hf3 k3 HNW HCL
  go_wp2_with fail
  refine Calls.mono HIN.out ?_
  rintro x w4 ⟨rb, o4, rfl, -, st4, hr4, hi4⟩
  have H4 : Hid _ := And.intro st4 (And.intro hr4 hi4)
  have HIN2 : Hid _ := sinput_any (o := o4) 4 ((tagD_dv H3.out.1).on st4 (fun h => h) (fun h => h)).dv
  clear st4 hr4 hi4 HIN
  go_wp2_with fail
  refine Calls.mono HIN2.out ?_
  rintro x w5 ⟨sb, o5, rfl, -, st5, hs5, hi5⟩
  obtain ⟨h3, hf3, k3⟩ := H3.out
  obtain ⟨st4, hr4, hi4⟩ := H4.out
  have kW3 : Kept w w3 := (K1.out.trans' K2.out).trans' k3
  have hz5 : ∀ k, k < w.heap.size → o5 k = 0 := fun k hk => by
    have a1 := K1.out.size
    have a2 := K2.out.size
    have a3 := k3.size
    have a4 := st4.same.size
    rw [st5.tag k (by omega), st4.tag k (by omega)]
    exact tagD_old hf3 (by omega)
  have HST : Hid (∀ W, Kept w5 W → W.heap.size = w5.heap.size + 2 → ApL w l p (fun k => w5.heap.size ≤ k ∧ k < w5.heap.size + 2) 3 4 rb sb W 0 0) := fun W kw hs => by
    have := ApL.start (((tagD_dv h3).on st4 (fun h => h) (fun h => h)).on st5 (fun h => h) (fun h => h)) (hr4.on st5 (fun h => h) (fun h => h)) hs5 hi4 (kept_of (kept_of kW3 st4 fun k hk h => h) st5 fun k hk h => h) hz5 kw
    rwa [hs] at this
  have HR2 : Hid (∀ Y, ((w5.alloc (.cells #[.pointer (some ⟨rb, 0, none⟩), .pointer (some ⟨sb, 0, none⟩)] 42)).alloc Y).heap[w5.heap.size]? = some (.cells #[.pointer (some ⟨rb, 0, none⟩), .pointer (some ⟨sb, 0, none⟩)] 42 (0, 0)) ∧ ((w5.alloc (.cells #[.pointer (some ⟨rb, 0, none⟩), .pointer (some ⟨sb, 0, none⟩)] 42)).alloc Y).heap[w5.heap.size + 1]? = some Y ∧ ((w5.alloc (.cells #[.pointer (some ⟨rb, 0, none⟩), .pointer (some ⟨sb, 0, none⟩)] 42)).alloc Y).heap.size = w5.heap.size + 2) := fun Y => by
    have q1 := heap_new w5 (.cells #[.pointer (some ⟨rb, 0, none⟩), .pointer (some ⟨sb, 0, none⟩)] 42)
    have q2 := heap_new (w5.alloc (.cells #[.pointer (some ⟨rb, 0, none⟩), .pointer (some ⟨sb, 0, none⟩)] 42)) Y
    have e1 : (w5.alloc (.cells #[.pointer (some ⟨rb, 0, none⟩), .pointer (some ⟨sb, 0, none⟩)] 42)).heap.size = w5.heap.size + 1 := World.size_alloc ..
    rw [e1] at q2
    exact ⟨(((Same.refl (fun _ => False) _).alloc Y).block _ (lt_of_heap q1) (fun e => e)).trans q1, q2, by rw [World.size_alloc, e1]⟩
  clear h3 hf3 k3 kW3 hz5 st4 hr4 hi4 st5 hs5 hi5 H3 H4 HIN2 K1 K2
  go_wp2_with fail
  generalize ek0 : w5.heap.size = k0 at *
  clear ek0
  go_loopw [50] (fun i wr => ∃ (j c0 d0 : Nat) (ty : TypeId), j ≤ Q ∧ i = .int .i64 j ∧ ApL w l p (fun k => k0 ≤ k ∧ k < k0 + 2) 3 4 rb sb wr c0 d0 ∧ wr.heap[k0]? = some (.cells #[.pointer (some ⟨rb, 0, none⟩), .pointer (some ⟨sb, 0, none⟩)] 42 (0, 0)) ∧ wr.heap[k0 + 1]? = some (.cells #[.int .i64 (c0 : Int), .int .i64 (d0 : Int)] ty (0, 0))) (fun i _ => Q - (intOf i).toNat)
  case atStart => exact ⟨0, 0, 0, _, Nat.zero_le _, rfl, HST.out _ (by (repeat (first | assumption | exact Same.refl _ _ | apply Same.alloc | apply Same.drew | apply Same.drewN)); done) (HR2.out _).2.2, (HR2.out _).1, (HR2.out _).2.1⟩
  case round =>
    clear HST HR2
    obtain ⟨j, c0, d0, ty, hj, rfl, hIL, hrr, hab⟩ := hrel
    have cr0 : wr.cell? ⟨k0, 0, none⟩ = some (.pointer (some ⟨rb, 0, none⟩)) := (cell_of hrr 0).trans rfl
    have cr1 : wr.cell? ⟨k0, 1, none⟩ = some (.pointer (some ⟨sb, 0, none⟩)) := (cell_of hrr 1).trans rfl
    have lrr := lt_of_heap hrr
    obtain ⟨hc0, hd0⟩ := hIL.le
    by_cases hjq : j < Q
    · have hjq2 : (j : Int) < (Q : Int) := by omega
      obtain ⟨x, hx⟩ : ∃ x, q[j]? = some x := ⟨_, List.getElem?_eq_getElem (by rw [← EQ.out]; exact hjq)⟩
      obtain ⟨nb, noff, eo, hnb, hcell⟩ := HAB.out.2 j x hx
      have hc : wr.cell? ⟨nb, noff + j, none⟩ = some (.int .i64 x) := (hIL.kept.cell (p := ⟨nb, noff + j, none⟩) hnb (fun h => h)).trans hcell
      have hlb : nb < wr.heap.size := Nat.lt_of_lt_of_le hnb hIL.kept.size
      subst eo
      by_cases hbad : x < 0 ∨ 65536 < x
      · have HG : Hid _ := (⟨hIL, hrr, hab⟩ : _ ∧ _ ∧ _)
        have d3 : decide (x < 0) = true ∨ (decide (x < 0) = false ∧ decide (x > 65536) = true) := by simp only [decide_eq_true_eq, decide_eq_false_iff_not]; omega
        clear hIL hx hcell hbad hrr hab
        rcases d3 with d3 | ⟨d3, d4⟩
        all_goals
          go_wp2_with fail
          go_roundw
          case rel => exact ⟨j + 1, c0, d0, ty, hjq, by rw [Int.natCast_add]; rfl, HG.out⟩
          case measure => simp only [intOf]; omega
      · obtain ⟨m, rfl⟩ := Int.eq_ofNat_of_zero_le (show 0 ≤ x by omega)
        have d3 : decide ((m : Int) < 0) = false := by simp
        have d4 : decide ((m : Int) > 65536) = false := by simp; omega
        have d4' : ¬ ((m : Int) > 65536) := by omega
        have hcz : n ≤ 4194304 := by rw [EN.out]; exact hl
        rcases Nat.mod_two_eq_zero_or_one j with hp | hp
        · have hpm : Int.tmod (j : Int) 2 = 0 := by rw [Int.tmod_eq_emod_of_nonneg (by omega)]; omega
          clear hx hcell hbad hp
          have HR := (hIL).read (by decide) (by decide) hl m (by omega)
          obtain ⟨k, ek⟩ : ∃ k, k = min m (l.length - c0) := ⟨_, rfl⟩
          have hkl : c0 + k ≤ l.length := by omega
          rw [← ek] at HR
          have HR' : Hid _ := HR
          have hmin : min (m : Int) ((n : Int) - (c0 : Int)) = (k : Int) := by have := EN.out; omega
          have hn4 : n ≤ 4194304 := by rw [EN.out]; exact hl
          have hkn : c0 + k ≤ n := by rw [EN.out]; exact hkl
          have g1 : ¬ ((n : Int) - (c0 : Int) < (k : Int)) := by omega
          have g1' : decide ((n : Int) - (c0 : Int) < (k : Int)) = false := decide_eq_false g1
          have g2 : IntKind.i64.wrap ((n : Int) - (c0 : Int)) = (n : Int) - (c0 : Int) := by rw [IntKind.wrap_i64]; omega
          have g3 : IntKind.i64.wrap ((c0 : Int) + (k : Int)) = (c0 : Int) + (k : Int) := by rw [IntKind.wrap_i64]; omega
          have g4 : (0 : Int) ≤ (c0 : Int) := by omega
          have g5 : (c0 : Int) ≤ (c0 : Int) + (k : Int) := by omega
          have g6 : (c0 : Int) + (k : Int) ≤ (c : Int) := by omega
          have g7 : c0 + k ≤ c := by omega
          have g8 : ((c0 : Int) + (k : Int)).toNat = c0 + k := by omega
          have g9 : c0 + k - c0 = k := by omega
          have HRB : Hid _ := (⟨hrr, hab⟩ : _ ∧ _)
          have HIK : Hid _ := hIL.kept
          clear hIL HR hrr hab
          go_wp2_with fail
          refine Calls.mono HR'.out ?_
          rintro x2 w6 ⟨va, vc, rfl, hv, hI5, hK5⟩
          have hrr6 := (hK5 k0 ⟨Nat.le_refl _, by omega⟩).trans HRB.out.1
          have hab6 := (hK5 (k0 + 1) ⟨by omega, by omega⟩).trans HRB.out.2
          have c60 : w6.cell? ⟨k0 + 1, 0, none⟩ = some (.int .i64 (c0 : Int)) := (cell_of hab6 0).trans rfl
          have c61 : w6.cell? ⟨k0 + 1, 1, none⟩ = some (.int .i64 (d0 : Int)) := (cell_of hab6 1).trans rfl
          have f60 := frozen_of hab6 0
          have lab := lt_of_heap hab6
          have HSM : Hid (∀ W x cx, Kept w6 W → Calls Try.prog 18 #[.slice va k vc, .slice x k cx] W fun e w' => e = .returned (.bool true) ∧ w' = W) := fun W x cx kw => by
            have hz := HL0.out
            have hlk : ((l.drop c0).take k).length = k := by rw [List.length_take, List.length_drop]; omega
            have he : (l.drop c0).take k = [] := List.eq_nil_of_length_eq_zero (by rw [hlk]; omega)
            have := same_true W va x vc cx ((l.drop c0).take k) (hv.kept kw (fun _ _ h => h)) (by rw [he]; exact BytesAt.nil _ _) (by rw [hlk]; omega)
            rwa [hlk] at this
          have HFIN : Hid (∀ W, Kept w6 W → ∃ ty, ApL w l p (fun k => k0 ≤ k ∧ k < k0 + 2) 3 4 rb sb (W.setCell ⟨k0 + 1, 0, none⟩ (.int .i64 ((c0 : Int) + (k : Int)))) (c0 + k) (d0) ∧ (W.setCell ⟨k0 + 1, 0, none⟩ (.int .i64 ((c0 : Int) + (k : Int)))).heap[k0]? = some (.cells #[.pointer (some ⟨rb, 0, none⟩), .pointer (some ⟨sb, 0, none⟩)] 42 (0, 0)) ∧ (W.setCell ⟨k0 + 1, 0, none⟩ (.int .i64 ((c0 : Int) + (k : Int)))).heap[k0 + 1]? = some (.cells #[.int .i64 ((c0 + k : Nat) : Int), .int .i64 (d0 : Int)] ty (0, 0))) := fun W kw => by
            have s1 : Same (fun k => k0 ≤ k ∧ k < k0 + 2) w6 (W.setCell ⟨k0 + 1, 0, none⟩ (.int .i64 ((c0 : Int) + (k : Int)))) := (Same.setCell (Kept.to kw (fun k => k0 ≤ k ∧ k < k0 + 2)) ⟨k0 + 1, 0, none⟩ (.inr ⟨by show k0 ≤ k0 + 1; omega, by show k0 + 1 < k0 + 2; omega⟩) _)
            have s2 : Same (fun k => k = k0 + 1) W (W.setCell ⟨k0 + 1, 0, none⟩ (.int .i64 ((c0 : Int) + (k : Int)))) := (Same.refl (fun k => k = k0 + 1) W).setCell ⟨k0 + 1, 0, none⟩ (.inr rfl) _
            have hrW := (kw.block k0 (lt_of_heap hrr6) (fun e => e)).trans hrr6
            have haW := (kw.block (k0 + 1) (lt_of_heap hab6) (fun e => e)).trans hab6
            refine ⟨ty, (ApL.on (hI5) (by decide) s1), (s2.block k0 (lt_of_heap hrW) (by omega)).trans hrW, ?_⟩
            rw [setCell_at haW, Int.natCast_add]
            rfl
          clear hv hI5 hK5 hrr6 hab6 HR' HRB ek
          go_wp2_with fail
          go_quiet ((go_at_call 18; exact Calls.quiet_of_same (HSM.out _ _ _ (by (repeat (first | assumption | exact Same.refl _ _ | apply Same.alloc | apply Same.drew | apply Same.drewN)); done))))
          go_wp2_with fail
          go_roundw
          case rel =>
            obtain ⟨ty2, f1, f2, f3⟩ := HFIN.out (w6.drewN nq) ((Same.refl _ w6).drewN nq)
            exact ⟨j + 1, c0 + k, d0, ty2, hjq, by rw [Int.natCast_add]; rfl, f1, f2, f3⟩
          case measure => simp only [intOf]; omega
        · have hpm : Int.tmod (j : Int) 2 = 1 := by rw [Int.tmod_eq_emod_of_nonneg (by omega)]; omega
          clear hx hcell hbad hp
          have HR := (hIL.swap).read (by decide) (by decide) hl m (by omega)
          obtain ⟨k, ek⟩ : ∃ k, k = min m (l.length - d0) := ⟨_, rfl⟩
          have hkl : d0 + k ≤ l.length := by omega
          rw [← ek] at HR
          have HR' : Hid _ := HR
          have hmin : min (m : Int) ((n : Int) - (d0 : Int)) = (k : Int) := by have := EN.out; omega
          have hn4 : n ≤ 4194304 := by rw [EN.out]; exact hl
          have hkn : d0 + k ≤ n := by rw [EN.out]; exact hkl
          have g1 : ¬ ((n : Int) - (d0 : Int) < (k : Int)) := by omega
          have g1' : decide ((n : Int) - (d0 : Int) < (k : Int)) = false := decide_eq_false g1
          have g2 : IntKind.i64.wrap ((n : Int) - (d0 : Int)) = (n : Int) - (d0 : Int) := by rw [IntKind.wrap_i64]; omega
          have g3 : IntKind.i64.wrap ((d0 : Int) + (k : Int)) = (d0 : Int) + (k : Int) := by rw [IntKind.wrap_i64]; omega
          have g4 : (0 : Int) ≤ (d0 : Int) := by omega
          have g5 : (d0 : Int) ≤ (d0 : Int) + (k : Int) := by omega
          have g6 : (d0 : Int) + (k : Int) ≤ (c : Int) := by omega
          have g7 : d0 + k ≤ c := by omega
          have g8 : ((d0 : Int) + (k : Int)).toNat = d0 + k := by omega
          have g9 : d0 + k - d0 = k := by omega
          have HRB : Hid _ := (⟨hrr, hab⟩ : _ ∧ _)
          have HIK : Hid _ := hIL.kept
          clear hIL HR hrr hab
          go_wp2_with fail
          refine Calls.mono HR'.out ?_
          rintro x2 w6 ⟨va, vc, rfl, hv, hI5, hK5⟩
          have hrr6 := (hK5 k0 ⟨Nat.le_refl _, by omega⟩).trans HRB.out.1
          have hab6 := (hK5 (k0 + 1) ⟨by omega, by omega⟩).trans HRB.out.2
          have c60 : w6.cell? ⟨k0 + 1, 0, none⟩ = some (.int .i64 (c0 : Int)) := (cell_of hab6 0).trans rfl
          have c61 : w6.cell? ⟨k0 + 1, 1, none⟩ = some (.int .i64 (d0 : Int)) := (cell_of hab6 1).trans rfl
          have f60 := frozen_of hab6 1
          have lab := lt_of_heap hab6
          have HSM : Hid (∀ W x cx, Kept w6 W → Calls Try.prog 18 #[.slice va k vc, .slice x k cx] W fun e w' => e = .returned (.bool true) ∧ w' = W) := fun W x cx kw => by
            have hz := HL0.out
            have hlk : ((l.drop d0).take k).length = k := by rw [List.length_take, List.length_drop]; omega
            have he : (l.drop d0).take k = [] := List.eq_nil_of_length_eq_zero (by rw [hlk]; omega)
            have := same_true W va x vc cx ((l.drop d0).take k) (hv.kept kw (fun _ _ h => h)) (by rw [he]; exact BytesAt.nil _ _) (by rw [hlk]; omega)
            rwa [hlk] at this
          have HFIN : Hid (∀ W, Kept w6 W → ∃ ty, ApL w l p (fun k => k0 ≤ k ∧ k < k0 + 2) 3 4 rb sb (W.setCell ⟨k0 + 1, 1, none⟩ (.int .i64 ((d0 : Int) + (k : Int)))) (c0) (d0 + k) ∧ (W.setCell ⟨k0 + 1, 1, none⟩ (.int .i64 ((d0 : Int) + (k : Int)))).heap[k0]? = some (.cells #[.pointer (some ⟨rb, 0, none⟩), .pointer (some ⟨sb, 0, none⟩)] 42 (0, 0)) ∧ (W.setCell ⟨k0 + 1, 1, none⟩ (.int .i64 ((d0 : Int) + (k : Int)))).heap[k0 + 1]? = some (.cells #[.int .i64 (c0 : Int), .int .i64 ((d0 + k : Nat) : Int)] ty (0, 0))) := fun W kw => by
            have s1 : Same (fun k => k0 ≤ k ∧ k < k0 + 2) w6 (W.setCell ⟨k0 + 1, 1, none⟩ (.int .i64 ((d0 : Int) + (k : Int)))) := (Same.setCell (Kept.to kw (fun k => k0 ≤ k ∧ k < k0 + 2)) ⟨k0 + 1, 1, none⟩ (.inr ⟨by show k0 ≤ k0 + 1; omega, by show k0 + 1 < k0 + 2; omega⟩) _)
            have s2 : Same (fun k => k = k0 + 1) W (W.setCell ⟨k0 + 1, 1, none⟩ (.int .i64 ((d0 : Int) + (k : Int)))) := (Same.refl (fun k => k = k0 + 1) W).setCell ⟨k0 + 1, 1, none⟩ (.inr rfl) _
            have hrW := (kw.block k0 (lt_of_heap hrr6) (fun e => e)).trans hrr6
            have haW := (kw.block (k0 + 1) (lt_of_heap hab6) (fun e => e)).trans hab6
            refine ⟨ty, (ApL.on (hI5.swap) (by decide) s1), (s2.block k0 (lt_of_heap hrW) (by omega)).trans hrW, ?_⟩
            rw [setCell_at haW, Int.natCast_add]
            rfl
          clear hv hI5 hK5 hrr6 hab6 HR' HRB ek
          go_wp2_with fail
          go_quiet ((go_at_call 18; exact Calls.quiet_of_same (HSM.out _ _ _ (by (repeat (first | assumption | exact Same.refl _ _ | apply Same.alloc | apply Same.drew | apply Same.drewN)); done))))
          go_wp2_with fail
          go_roundw
          case rel =>
            obtain ⟨ty2, f1, f2, f3⟩ := HFIN.out (w6.drewN nq) ((Same.refl _ w6).drewN nq)
            exact ⟨j + 1, c0, d0 + k, ty2, hjq, by rw [Int.natCast_add]; rfl, f1, f2, f3⟩
          case measure => simp only [intOf]; omega
    · have HT0 : Hid (∀ W, Kept wr W → _) := fun W (kw : Kept wr W) => (hIL.on (by decide) (kw.to _)).tells
      have HT1 : Hid (∀ W, Kept wr W → _) := fun W (kw : Kept wr W) => (hIL.on (by decide) (kw.to _)).swap.tells
      have ca0 : wr.cell? ⟨k0 + 1, 0, none⟩ = some (.int .i64 (c0 : Int)) := (cell_of hab 0).trans rfl
      have ca1 : wr.cell? ⟨k0 + 1, 1, none⟩ = some (.int .i64 (d0 : Int)) := (cell_of hab 1).trans rfl
      have lab := lt_of_heap hab
      have KF : Hid _ := hIL.kept
      clear hIL hrr hab
      go_wp2_with fail
      go_quiet ((first
        | (go_at_call 16; exact Calls.quiet_of_same (HT0.out _ (by (repeat (first | assumption | exact Same.refl _ _ | apply Same.alloc | apply Same.drew | apply Same.drewN)); done)))
        | (go_at_call 16; exact Calls.quiet_of_same (HT1.out _ (by (repeat (first | assumption | exact Same.refl _ _ | apply Same.alloc | apply Same.drew | apply Same.drewN)); done)))))
      go_wp2_with fail
      go_ret
      exact ⟨by first | exact rfl | (congr 1; simp), by first | exact KF.out | exact KF.out.drew | exact KF.out.drewN _⟩
set_option maxRecDepth 100000 in
set_option maxHeartbeats 800000 in
theorem apart_out (w : World) (oa : Option Addr) (c n : Nat) (hn : n ≤ 140737488351232) (v : Value) (h : 4194304 < n) : Calls Try.prog 8 #[.slice oa n c, v] w fun e w' => e = .returned (.bool true) ∧ Kept w w' := by
  have HAN : Hid _ := anchor_any8 w
  have hnot : ∀ (x : Bool) (w : World), (Op.unary .not (.bool x)).run Try.prog w = .ok (.bool (!x)) w := fun _ _ => rfl
  have t3 : decide ((n : Int) > 4194304) = true := by simp; omega
  have t3' : (n : Int) > 4194304 := by omega
  go_enter Try.func8, Try.ntmps8
  go_wp2_with fail
  refine Calls.mono HAN.out ?_
  rintro x w1 ⟨rfl, k1⟩
  have K1 : Hid _ := k1
  clear k1
  go_wp2_with fail
  go_ret
  exact ⟨rfl, K1.out⟩
theorem apart_law (w : World) (oa : Option Addr) (c : Nat) (l : List Int) (hb : ArgB w oa c l) (ob : Option Addr) (cb : Nat) (q : List Int) (hq : NumsAt w ob q) (hql : q.length ≤ 140737488351232) :
    Calls Try.prog 8 #[.slice oa l.length c, .slice ob q.length cb] w fun e w' => e = .returned (.bool true) ∧ Kept w w' := by
  by_cases h : l.length ≤ 4194304
  · by_cases h0 : l.length = 0
    · cases oa with
      | none => exact apart_none w c l hb h0 ob cb q hq hql
      | some ad => exact apart_some w ad c l hb h0 ob cb q hq hql
    · obtain ⟨x, hx⟩ : ∃ x, l[0]? = some x := ⟨_, List.getElem?_eq_getElem (by omega)⟩
      obtain ⟨b, off, rfl, -⟩ := hb.data 0 x hx
      exact apart_go w b off c l hb h ob cb q hq hql
  · exact apart_out w oa c l.length hb.le _ (by omega)
end Go.Proofs.Ytemfeaooenaelaa
