/- What is proved: behind and ahead fill the table of neighbours; the graph lies in memory. -/
import Derived.Test.YtbhihmkgimdjpaaDoorGhB
import Derived.Deep.RegionHeld3
import Derived.Maps.RangeWalk
namespace Go.Proofs.YtbhihmkgimdjpaaDoor
open Go.RowKit

set_option maxRecDepth 100000 in
set_option maxHeartbeats 3200000 in
theorem behind19 {w : World} {gb n : Nat} {E : List Eg} (h : Gp w gb n E) (m : Int) : Calls Tryd.prog 34 #[.pointer (some ⟨gb, 0, none⟩), .int .i64 m] w fun e w' => ∃ g l, e = .returned (tbV n g (n * wN n) (n * wN n)) ∧ OwnW w.heap.size w' (.slice (some ⟨g, 0, none⟩) (n * wN n) (n * wN n)) l ∧ l.length = n * wN n ∧ Tbl (wN n) l (adj E m) ∧ Kept w w' := by
  have hn := h.nle
  obtain ⟨⟨mb, ho, D, hD, hk⟩, -, hfit, -⟩ := h
  have hgl := lt_of_heap ho
  have hml := hD.lt
  have HE : Hid (∀ e ∈ E, EFit n e) := hfit
  have HK : Hid (Kd D E) := hk
  have HN : Hid (∀ W, _) := fun W => newTable19 n hn W
  have HOV : Hid (∀ (e : Eg) (m : Int), 1 ≤ e.l → e.l ≤ 8 → ∀ W, _) := over19
  have HR : Hid (∀ (a g : Nat), a < n → ∀ W, _) := fun a g ha W => row19 n a g hn ha W
  have HP : Hid (∀ (w : World) (g off m cap x y : Nat), y ≤ 1024 → y / 64 < m → x < 18446744073709551616 → _ → _ → _) := put19
  have c0 : w.cell? ⟨gb, 0, none⟩ = some (.int .i64 n) := (cell_of ho 0).trans rfl
  have HC : Hid (∀ W, Kept w W → W.cell? ⟨gb, 1, none⟩ = some (.map (some mb)) ∧ W.ownsMap (H := Value) Tryd.prog 33 unitElem mb (Go.Maps.size D) D) := fun W k => ⟨(k.cell (p := ⟨gb, 1, none⟩) hgl (fun e => e)).trans ((cell_of ho 1).trans rfl), owns_same hD (k.block _ hml (fun e => e))⟩
  have HNL : Hid (n ≤ 1024) := hn
  clear ho hD hk hfit hn
  obtain ⟨H0, eH0⟩ : ∃ H0, H0 = w.heap.size := ⟨_, rfl⟩
  have EH0 : Hid (H0 = w.heap.size) := eH0
  clear eH0
  go_enter Tryd.func34, Tryd.ntmps34
  go_wp2_with fail
  refine Calls.mono (HN.out _) ?_
  rintro r w1 ⟨rfl, o1, k1⟩
  rw [World.size_alloc, ← show H0 = _ from EH0.out] at o1
  rw [World.size_alloc]
  have K1 : Hid (Kept w w1) := ((Same.refl _ w).alloc _).trans' k1
  have z1 : w1.heap[H0]? = some (.cells #[.int .i64 0, .slice none 0 0] 75 (0, 0)) := (k1.block H0 (by rw [World.size_alloc, show H0 = _ from EH0.out]; exact Nat.lt_succ_self _) (fun e => e)).trans (by rw [show H0 = _ from EH0.out]; exact heap_new w _)
  rw [← show H0 = _ from EH0.out]
  have hg0' : H0 < H0 + 1 + 1 := by omega
  generalize H0 + 1 + 1 = g at o1 hg0' ⊢
  have Z1 : Hid (w1.heap[H0]? = _) := z1
  obtain ⟨N, eN⟩ : ∃ N, N = n * wN n := ⟨_, rfl⟩
  rw [← eN] at o1 ⊢
  have O1 : Hid (OwnW g w1 (.slice (some ⟨g, 0, none⟩) N N) (List.replicate N 0)) := o1
  have EN : Hid (N = n * wN n) := eN
  obtain ⟨H1, eH1⟩ : ∃ H1, H1 = w1.heap.size := ⟨_, rfl⟩
  have EH1 : Hid (H1 = w1.heap.size) := eH1
  obtain ⟨-, cu, hgq⟩ := o1.block (b := g) rfl
  have hH1 : g < w1.heap.size := lt_of_heap hgq
  have HCw := HC.out _ (K1.out.alloc (tbO n g N N))
  have HW2 : Hid (Kept w (w1.alloc (tbO n g N N)) ∧ (w1.alloc (tbO n g N N)).heap[H1]? = some (tbO n g N N) ∧ (w1.alloc (tbO n g N N)).heap[H0]? = some (.cells #[.int .i64 0, .slice none 0 0] 75 (0, 0)) ∧ OwnW g (w1.alloc (tbO n g N N)) (.slice (some ⟨g, 0, none⟩) N N) (List.replicate N 0)) := ⟨K1.out.alloc _, by rw [show H1 = _ from EH1.out]; exact heap_new w1 _, (heap_old w1 _ (lt_of_heap z1)).trans z1, o1.on ((Same.refl _ w1).alloc _)⟩
  obtain ⟨c1, hown⟩ := HCw
  clear o1 z1 k1 eN eH1 Z1 O1 K1 hgq
  go_wp2_with (at_range; refine wpList_range_own _ rfl _ 58 rfl 33 70 Tryd.keyedE Tryd.underlying58 unitElem mb _ D rfl hown ?_; intro w0 hrg0 hg0 hs0)
  go_frame
  rw [World.size_alloc] at hrg0
  rw [World.size_alloc]
  have hN3 : N = n * wN n := EN.out
  have KG : Kept (w1.alloc (tbO n g N N)) w0 := Same.of_grown hg0 (fun j e => by cases e)
  have T0 : Hid (Tf pB w w0 n mb (w1.heap.size + 1) g E m D (Go.Maps.has D) (Go.Maps.size D) ∧ w0.heap[H1]? = some (tbO n g N N) ∧ w0.heap[H0]? = some (.cells #[.int .i64 0, .slice none 0 0] 75 (0, 0))) := by
    obtain ⟨q1, q2, q3, q4⟩ := HW2.out
    refine ⟨⟨hrg0, ⟨List.replicate N 0, ?_, ?_, ?_⟩, q1.trans' KG⟩, (KG.block H1 (lt_of_heap q2) (fun e => e)).trans q2, (KG.block H0 (lt_of_heap q3) (fun e => e)).trans q3⟩
    · rw [← hN3]
      exact (q4.on KG).base (by rw [← show H0 = _ from EH0.out]; omega)
    · rw [List.length_replicate]; exact hN3
    · exact (Tbl.zero _ _).congr fun a b => (adjL_start (fun e he => by rw [HK.out.has e _ (kE_some ((HE.out e he).eok HNL.out))]; simpa using he) a b).symm
  have HH : Hid (H0 < g ∧ g < H1 ∧ H0 = w.heap.size ∧ N = n * wN n) := ⟨hg0', by rw [show H1 = _ from EH1.out]; exact hH1, EH0.out, hN3⟩
  rw [← show H1 = _ from EH1.out] at T0 ⊢
  clear hrg0 hg0 hs0 KG HW2 hown c1 c0 hgl hml HN HC hN3 hH1 hg0' EH1 EN EH0
  go_loopw [] (fun wr => ∃ left ct, Tf pB w wr n mb (H1 + 1) g E m D left ct ∧ wr.heap[H1]? = some (tbO n g N N) ∧ wr.heap[H0]? = some (.cells #[.int .i64 0, .slice none 0 0] 75 (0, 0))) (fun wr => wr.rangeLeft mb (H1 + 1))
  case atStart => exact ⟨_, _, T0.out⟩
  case round =>
    obtain ⟨left, ct, tf, t1, t0⟩ := hrel
    rename World => WL
    have HT : Hid (Tf pB w WL n mb (H1 + 1) g E m D left ct) := tf
    have HT1 : Hid (WL.heap[H1]? = some (tbO n g N N)) := t1
    have HT0 : Hid (WL.heap[H0]? = some (.cells #[.int .i64 0, .slice none 0 0] 75 (0, 0))) := t0
    have rg := tf.rg
    clear tf t1 t0 T0
    go_wp2_with (at_next; refine wpList_next_ranges _ rfl _ rfl 33 Tryd.keyedE unitElem egV (fun _ : Unit => Value.agg #[]) (fun key kl hk => by obtain ⟨x, hx, _⟩ := key_inv hk; exact ⟨x, hx⟩) (fun v y hv => ⟨(), (unitElem_inv hv).1⟩) mb (H1 + 1) _ _ _ _ rfl rg ?_ ?_)
    · intro _ hl0
      have a0 := (cell_of HT1.out 0).trans (show (#[Value.int .i64 n, .slice (some ⟨g, 0, none⟩) N N] : Array Value)[0]? = some (.int .i64 n) from rfl)
      have a1 := (cell_of HT1.out 1).trans (show (#[Value.int .i64 n, .slice (some ⟨g, 0, none⟩) N N] : Array Value)[1]? = some (.slice (some ⟨g, 0, none⟩) N N) from rfl)
      have b0 := (cell_of HT0.out 0).trans (show (#[Value.int .i64 0, .slice none 0 0] : Array Value)[0]? = some (.int .i64 0) from rfl)
      have b1 := (cell_of HT0.out 1).trans (show (#[Value.int .i64 0, .slice none 0 0] : Array Value)[1]? = some (.slice none 0 0) from rfl)
      have f0 := frozen_of HT0.out 0
      have f1 := frozen_of HT0.out 1
      have HL0 : Hid (∀ k, left k = false) := hl0
      clear hl0 rg
      have HS9 : Hid (Same (fun k => k = H0) WL ((WL.setCell ⟨H0, 0, none⟩ (.int .i64 n)).setCell ⟨H0, 1, none⟩ (.slice (some ⟨g, 0, none⟩) N N))) := ((Same.refl (fun k => k = H0) WL).setCell ⟨H0, 0, none⟩ (.inr rfl) _).setCell ⟨H0, 1, none⟩ (.inr rfl) _
      have h9 : ((WL.setCell ⟨H0, 0, none⟩ (.int .i64 n)).setCell ⟨H0, 1, none⟩ (.slice (some ⟨g, 0, none⟩) N N)).heap[H0]? = some (tbO n g N N) := (setCell_at (setCell_at HT0.out 0 _) 1 _).trans rfl
      have HL9 : Hid (∀ P : Option Nat, _) := fun _ => load_tb h9
      clear h9
      go_wp2_with fail
      obtain ⟨l, ol, ll, tl⟩ := HT.out.tb
      obtain ⟨q1, q2, q3, q4⟩ := HH.out
      refine bodyPost_ret (results_g rfl rfl (HL9.out none)) rfl ⟨g, l, by rw [q4], ?_, ll, ?_, ?_⟩
      · refine ol.kept HS9.out (fun b hb e => ?_)
        cases hb
        have e : g = H0 := e
        omega
      · exact tl.congr fun a b => (adjL_end HL0.out a b).trans (pB_end E m a b)
      · exact HT.out.kept.trans HS9.out (fun i hi e => by have e : i = H0 := e; omega)
    · intro x kl' yd yp w2 ct2 hkey hlk hv hat hrg2 hlt hg2 hs2 hen
      have hx : x ∈ E := by
        have h9 := HK.out.has x kl' hkey
        rw [Go.Maps.has_true_of_atKey hat] at h9
        simpa using h9.symm
      have s2 : Same (fun b => b = H1 + 1) WL w2 := Same.of_grown hg2 (fun j e => by cases e; rfl)
      obtain ⟨l, ol, ll, tl⟩ := HT.out.tb
      obtain ⟨q1, q2, q3, q4⟩ := HH.out
      have HT1b : Hid (w2.heap[H1]? = some (tbO n g N N)) := (s2.block H1 (lt_of_heap HT1.out) (by omega)).trans HT1.out
      have HT0b : Hid (w2.heap[H0]? = some (.cells #[.int .i64 0, .slice none 0 0] 75 (0, 0))) := (s2.block H0 (lt_of_heap HT0.out) (by omega)).trans HT0.out
      have ol2 : OwnW w.heap.size w2 (.slice (some ⟨g, 0, none⟩) (n * wN n) (n * wN n)) l := ol.kept s2 (fun b hb e => by cases hb; have e : g = H1 + 1 := e; omega)
      have HO2 : Hid (OwnW w.heap.size w2 (.slice (some ⟨g, 0, none⟩) (n * wN n) (n * wN n)) l ∧ l.length = n * wN n ∧ Tbl (wN n) l (adjL pB E m left)) := ⟨ol2, ll, tl⟩
      have K2 : Hid (Kept w w2) := HT.out.kept.trans s2 (fun i hi e => by have e : i = H1 + 1 := e; omega)
      have HRG2 : Hid (w2.ranges Tryd.prog 33 unitElem mb (H1 + 1) (Go.Maps.size D) D (fun z => left z && !z.sameKey kl') ct2) := hrg2
      have HLT : Hid (ct2 < ct ∧ WL.rangeLeft mb (H1 + 1) = ct ∧ ∀ W : World, W.ranges Tryd.prog 33 unitElem mb (H1 + 1) (Go.Maps.size D) D (fun z => left z && !z.sameKey kl') ct2 → W.rangeLeft mb (H1 + 1) = ct2) := ⟨hlt, rg.left_eq, fun W h => h.left_eq⟩
      have fx := HE.out x hx
      have hne1 : ¬ mb = g := fun e => by
        subst e
        obtain ⟨es, clock, hb9, -⟩ := HT.out.rg.owns
        obtain ⟨-, cur, hg9⟩ := ol.block (b := mb) rfl
        rw [hb9] at hg9
        cases hg9
      have HNE : Hid (¬ mb = g ∧ ¬ H1 + 1 = g) := ⟨hne1, by omega⟩
      have HST : Hid (∀ a b, adjL pB E m (fun z => left z && !z.sameKey kl') a b = (adjL pB E m left a b || (pB x a b && inM x.l m))) := fun a b => adjL_step (fun e he => (HE.out e he).eok HNL.out) hx hkey a b
      obtain ⟨a, ea⟩ : ∃ a : Nat, x.f = a := ⟨x.f.toNat, by have := fx.f0; omega⟩
      obtain ⟨b, eb⟩ : ∃ b : Nat, x.t = b := ⟨x.t.toNat, by have := fx.t0; omega⟩
      have hlx : 1 ≤ x.l ∧ x.l ≤ 8 := ⟨fx.l1, fx.l8⟩
      have HAB : Hid (a < n ∧ b < n ∧ 1 ≤ x.l ∧ x.l ≤ 8) := ⟨by have := fx.fn; omega, by have := fx.tn; omega, hlx⟩
      have HOX : Hid (∀ W, _) := fun W => HOV.out x m hlx.1 hlx.2 W
      obtain ⟨xf, xt, xl⟩ := x
      simp only at ea eb
      subst ea eb
      clear hne1 hkey hlk hv hat hrg2 hlt hg2 hs2 s2 hx ol ll tl q1 q2 q3 q4 ol2 fx hlx rg
      simp only [egV] at hen ⊢
      go_wp2_with fail
      refine Calls.mono (HOX.out _) ?_
      rintro r w3 ⟨rfl, g3⟩
      have gx := heap_new w2 (egO ⟨(a : Int), (b : Int), xl⟩)
      have K3 : Hid (Kept w2 w3) := ((Same.refl _ w2).alloc _).trans' g3.kept
      have e0 : w3.cell? ⟨w2.heap.size, 0, none⟩ = some (.int .i64 a) := (g3.kept.cell (p := ⟨w2.heap.size, 0, none⟩) (lt_of_heap gx) (fun e => e)).trans ((cell_of gx 0).trans rfl)
      have e1 : w3.cell? ⟨w2.heap.size, 1, none⟩ = some (.int .i64 b) := (g3.kept.cell (p := ⟨w2.heap.size, 1, none⟩) (lt_of_heap gx) (fun e => e)).trans ((cell_of gx 1).trans rfl)
      have HE01 : Hid (w3.cell? ⟨w2.heap.size, 0, none⟩ = some (.int .i64 a) ∧ w3.cell? ⟨w2.heap.size, 1, none⟩ = some (.int .i64 b)) := ⟨e0, e1⟩
      clear gx g3 HOX hen
      by_cases hin : inM xl m = true
      · have HIN : Hid (inM xl m = true) := hin
        have q4 : N = n * wN n := HH.out.2.2.2
        subst q4
        have hjw : b / 64 < wN n := wN_lt (show b < n from HAB.out.2.1)
        have hjl : a * wN n + b / 64 < n * wN n := by have := row_le (show a < n from HAB.out.1); omega
        obtain ⟨ol, ll, tl⟩ := HO2.out
        obtain ⟨xw, hxw⟩ : ∃ xw, l[a * wN n + b / 64]? = some xw := ⟨_, List.getElem?_eq_getElem (by rw [ll]; exact hjl)⟩
        have hxl : xw < 18446744073709551616 := (tl _ _ hxw).1
        have ol3 := ol.on K3.out
        obtain ⟨p1, p2, p3⟩ := ol3.cell1 ekU hxw rfl
        have ht1 := (K3.out.block H1 (lt_of_heap HT1b.out) (fun e => e)).trans HT1b.out
        have HXW : Hid (l[a * wN n + b / 64]? = some xw ∧ a * wN n + b / 64 < l.length) := ⟨hxw, by rw [ll]; exact hjl⟩
        have hce := w3.heap.size
        have HBX : Hid (∀ w4, Same (fun k => k = g) w3 w4 → Same (fun k => k = g) w3 w4 ∧ w4.cell? ⟨H1, 0, none⟩ = some (.int .i64 n) ∧ w4.cell? ⟨H1, 1, none⟩ = some (.slice (some ⟨g, 0, none⟩) (n * wN n) (n * wN n)) ∧ w4.cell? ⟨w2.heap.size, 0, none⟩ = some (.int .i64 a) ∧ w4.cell? ⟨w2.heap.size, 1, none⟩ = some (.int .i64 b)) := fun w4 k4 => by
          have h1 := (k4.block H1 (lt_of_heap ht1) (fun e => by have e : H1 = g := e; have := HH.out.2.1; omega)).trans ht1
          have lt2 : w2.heap.size < w3.heap.size := (World.block_lt_of_cell? _ _ HE01.out.1)
          have hne : ¬ w2.heap.size = g := fun e => by
            have := HH.out.2.1
            have := lt_of_heap HT1b.out
            omega
          exact ⟨k4, (cell_of h1 0).trans rfl, (cell_of h1 1).trans rfl, (k4.cell (p := ⟨w2.heap.size, 0, none⟩) lt2 hne).trans HE01.out.1, (k4.cell (p := ⟨w2.heap.size, 1, none⟩) lt2 hne).trans HE01.out.2⟩
        have HGX : Hid (∀ w4, Grw w3 w4 → w4.cell? ⟨g, a * wN n + b / 64, none⟩ = some (.int .u64 (xw : Nat)) ∧ w4.frozen? ⟨g, a * wN n + b / 64, none⟩ = false) := fun w4 k4 => by
          obtain ⟨r1, r2, r3⟩ := (ol3.on k4.kept).cell1 ekU hxw rfl
          exact ⟨r1, r2⟩
        have HPC : Hid (∀ (W : World) (cap : Nat), Grw w3 W → _) := fun W cap h1 => HP.out W g (a * wN n) (wN n) cap xw b (by have := HAB.out; have := HNL.out; omega) hjw hxl (HGX.out W h1).1 (HGX.out W h1).2
        have HRC : Hid (∀ W, _) := fun W => HR.out a g HAB.out.1 W
        obtain ⟨k0, d0, d1, d2, d3⟩ := HBX.out w3 (Same.refl _ w3)
        clear ol ll tl hjw hjl hxw hxl ol3 p1 p2 p3 ht1 e0 e1 hce k0
        go_upto_region 6 with fail
        go_region_held3 (fun w4 => Same (fun k => k = g) w3 w4 ∧ w4.cell? ⟨H1, 0, none⟩ = some (.int .i64 n) ∧ w4.cell? ⟨H1, 1, none⟩ = some (.slice (some ⟨g, 0, none⟩) (n * wN n) (n * wN n)) ∧ w4.cell? ⟨w2.heap.size, 0, none⟩ = some (.int .i64 a) ∧ w4.cell? ⟨w2.heap.size, 1, none⟩ = some (.int .i64 b))
          (exact HBX.out _ (by (repeat (first | exact Same.refl _ _ | assumption | (refine Same.setCell ?_ _ (Or.inr (show g = g from rfl)) _) | (refine Same.trans' ?_ (Kept.to (Grw.kept (by assumption)) _)) | apply Same.drewN | apply Same.drew | apply Same.alloc)); done))
          (first
          | (go_at_call 51; refine Calls.mono (HRC.out _) ?_; rintro r w4 ⟨⟨cap, rfl⟩, g4⟩)
          | (go_at_call 40; refine Calls.mono (HPC.out _ _ (by (repeat (first | exact Grw.refl _ | assumption | (refine Grw.trans ?_ (by assumption)) | apply Grw.alloc | apply Grw.drew | apply Grw.drewN)); done)) ?_; rintro r w5 ⟨rfl, q5, rfl⟩))
        have HFI : Hid (∀ (w4 : World) (q5 : Nat), Grw w3 w4 → (∃ l', OwnW w.heap.size ((w4.setCell ⟨g, a * wN n + b / 64, none⟩ (.int .u64 ((xw ||| 2 ^ (b % 64) : Nat) : Int))).drewN q5) (.slice (some ⟨g, 0, none⟩) (n * wN n) (n * wN n)) l' ∧ l'.length = n * wN n ∧ Tbl (wN n) l' (adjL pB E m (fun z => left z && !z.sameKey kl'))) ∧ Same (fun k => k = g) w2 ((w4.setCell ⟨g, a * wN n + b / 64, none⟩ (.int .u64 ((xw ||| 2 ^ (b % 64) : Nat) : Int))).drewN q5)) := fun w4 q5 k4 => by
          obtain ⟨ol, ll, tl⟩ := HO2.out
          obtain ⟨o5, s5⟩ := ((ol.on K3.out).on k4.kept).set1 ekU HXW.out.2 (xw ||| 2 ^ (b % 64)) rfl
          refine ⟨⟨_, o5.drewN q5, by rw [List.length_set]; exact ll, ?_⟩, (((Kept.to (K3.out.trans' k4.kept) _).trans' s5).drewN q5)⟩
          refine (tl.put (a := a) (y := b) (wN_lt (show b < n from HAB.out.2.1)) HXW.out.1).congr fun p q => ?_
          rw [HST.out p q, HIN.out, Bool.and_true, pB_val]
        all_goals (go_wp2_with fail)
        all_goals
          obtain ⟨ft, fs⟩ := HFI.out w4 q5 (by (repeat (first | exact Grw.refl _ | assumption | (refine Grw.trans ?_ (by assumption)) | apply Grw.alloc | apply Grw.drew | apply Grw.drewN)); done)
          have rg5 := HRG2.out.kept (World.grownBy_of_same fs) (fun e => HNE.out.1 (by simpa using e)) (fun e => HNE.out.2 (by simpa using e))
          refine ⟨⟨_, ct2, ⟨rg5, ft, K2.out.trans fs (fun i hi e => by have e : i = g := e; have := HH.out; omega)⟩, (fs.block H1 (lt_of_heap HT1b.out) (fun e => by have e : H1 = g := e; have := HH.out; omega)).trans HT1b.out, (fs.block H0 (lt_of_heap HT0b.out) (fun e => by have e : H0 = g := e; have := HH.out; omega)).trans HT0b.out⟩, ?_⟩
          rw [HLT.out.2.2 _ rg5, HLT.out.2.1]
          exact HLT.out.1
      · have hin2 : inM xl m = false := by simpa using hin
        have HIN : Hid (inM xl m = false) := hin2
        clear hin e0 e1
        go_wp2_with fail
        have rg3 := HRG2.out.kept (World.grownBy_of_kept K3.out) (by simp) (by simp)
        go_roundw
        case rel =>
          refine ⟨_, ct2, ⟨rg3, ?_, K2.out.trans' K3.out⟩, (K3.out.block H1 (lt_of_heap HT1b.out) (fun e => e)).trans HT1b.out, (K3.out.block H0 (lt_of_heap HT0b.out) (fun e => e)).trans HT0b.out⟩
          obtain ⟨ol, ll, tl⟩ := HO2.out
          exact ⟨l, ol.on K3.out, ll, tl.congr fun p q => by rw [HST.out p q, HIN.out, Bool.and_false, Bool.or_false]⟩
        case measure => rw [HLT.out.2.2 _ rg3, HLT.out.2.1]; exact HLT.out.1
set_option maxRecDepth 100000 in
set_option maxHeartbeats 3200000 in
theorem ahead19 {w : World} {gb n : Nat} {E : List Eg} (h : Gp w gb n E) (m : Int) : Calls Tryd.prog 37 #[.pointer (some ⟨gb, 0, none⟩), .int .i64 m] w fun e w' => ∃ g l, e = .returned (tbV n g (n * wN n) (n * wN n)) ∧ OwnW w.heap.size w' (.slice (some ⟨g, 0, none⟩) (n * wN n) (n * wN n)) l ∧ l.length = n * wN n ∧ Tbl (wN n) l (jda E m) ∧ Kept w w' := by
  have hn := h.nle
  obtain ⟨⟨mb, ho, D, hD, hk⟩, -, hfit, -⟩ := h
  have hgl := lt_of_heap ho
  have hml := hD.lt
  have HE : Hid (∀ e ∈ E, EFit n e) := hfit
  have HK : Hid (Kd D E) := hk
  have HN : Hid (∀ W, _) := fun W => newTable19 n hn W
  have HOV : Hid (∀ (e : Eg) (m : Int), 1 ≤ e.l → e.l ≤ 8 → ∀ W, _) := over19
  have HR : Hid (∀ (a g : Nat), a < n → ∀ W, _) := fun a g ha W => row19 n a g hn ha W
  have HP : Hid (∀ (w : World) (g off m cap x y : Nat), y ≤ 1024 → y / 64 < m → x < 18446744073709551616 → _ → _ → _) := put19
  have c0 : w.cell? ⟨gb, 0, none⟩ = some (.int .i64 n) := (cell_of ho 0).trans rfl
  have HC : Hid (∀ W, Kept w W → W.cell? ⟨gb, 1, none⟩ = some (.map (some mb)) ∧ W.ownsMap (H := Value) Tryd.prog 33 unitElem mb (Go.Maps.size D) D) := fun W k => ⟨(k.cell (p := ⟨gb, 1, none⟩) hgl (fun e => e)).trans ((cell_of ho 1).trans rfl), owns_same hD (k.block _ hml (fun e => e))⟩
  have HNL : Hid (n ≤ 1024) := hn
  clear ho hD hk hfit hn
  obtain ⟨H0, eH0⟩ : ∃ H0, H0 = w.heap.size := ⟨_, rfl⟩
  have EH0 : Hid (H0 = w.heap.size) := eH0
  clear eH0
  go_enter Tryd.func37, Tryd.ntmps37
  go_wp2_with fail
  refine Calls.mono (HN.out _) ?_
  rintro r w1 ⟨rfl, o1, k1⟩
  rw [World.size_alloc, ← show H0 = _ from EH0.out] at o1
  rw [World.size_alloc]
  have K1 : Hid (Kept w w1) := ((Same.refl _ w).alloc _).trans' k1
  have z1 : w1.heap[H0]? = some (.cells #[.int .i64 0, .slice none 0 0] 75 (0, 0)) := (k1.block H0 (by rw [World.size_alloc, show H0 = _ from EH0.out]; exact Nat.lt_succ_self _) (fun e => e)).trans (by rw [show H0 = _ from EH0.out]; exact heap_new w _)
  rw [← show H0 = _ from EH0.out]
  have hg0' : H0 < H0 + 1 + 1 := by omega
  generalize H0 + 1 + 1 = g at o1 hg0' ⊢
  have Z1 : Hid (w1.heap[H0]? = _) := z1
  obtain ⟨N, eN⟩ : ∃ N, N = n * wN n := ⟨_, rfl⟩
  rw [← eN] at o1 ⊢
  have O1 : Hid (OwnW g w1 (.slice (some ⟨g, 0, none⟩) N N) (List.replicate N 0)) := o1
  have EN : Hid (N = n * wN n) := eN
  obtain ⟨H1, eH1⟩ : ∃ H1, H1 = w1.heap.size := ⟨_, rfl⟩
  have EH1 : Hid (H1 = w1.heap.size) := eH1
  obtain ⟨-, cu, hgq⟩ := o1.block (b := g) rfl
  have hH1 : g < w1.heap.size := lt_of_heap hgq
  have HCw := HC.out _ (K1.out.alloc (tbO n g N N))
  have HW2 : Hid (Kept w (w1.alloc (tbO n g N N)) ∧ (w1.alloc (tbO n g N N)).heap[H1]? = some (tbO n g N N) ∧ (w1.alloc (tbO n g N N)).heap[H0]? = some (.cells #[.int .i64 0, .slice none 0 0] 75 (0, 0)) ∧ OwnW g (w1.alloc (tbO n g N N)) (.slice (some ⟨g, 0, none⟩) N N) (List.replicate N 0)) := ⟨K1.out.alloc _, by rw [show H1 = _ from EH1.out]; exact heap_new w1 _, (heap_old w1 _ (lt_of_heap z1)).trans z1, o1.on ((Same.refl _ w1).alloc _)⟩
  obtain ⟨c1, hown⟩ := HCw
  clear o1 z1 k1 eN eH1 Z1 O1 K1 hgq
  go_wp2_with (at_range; refine wpList_range_own _ rfl _ 58 rfl 33 70 Tryd.keyedE Tryd.underlying58 unitElem mb _ D rfl hown ?_; intro w0 hrg0 hg0 hs0)
  go_frame
  rw [World.size_alloc] at hrg0
  rw [World.size_alloc]
  have hN3 : N = n * wN n := EN.out
  have KG : Kept (w1.alloc (tbO n g N N)) w0 := Same.of_grown hg0 (fun j e => by cases e)
  have T0 : Hid (Tf pA w w0 n mb (w1.heap.size + 1) g E m D (Go.Maps.has D) (Go.Maps.size D) ∧ w0.heap[H1]? = some (tbO n g N N) ∧ w0.heap[H0]? = some (.cells #[.int .i64 0, .slice none 0 0] 75 (0, 0))) := by
    obtain ⟨q1, q2, q3, q4⟩ := HW2.out
    refine ⟨⟨hrg0, ⟨List.replicate N 0, ?_, ?_, ?_⟩, q1.trans' KG⟩, (KG.block H1 (lt_of_heap q2) (fun e => e)).trans q2, (KG.block H0 (lt_of_heap q3) (fun e => e)).trans q3⟩
    · rw [← hN3]
      exact (q4.on KG).base (by rw [← show H0 = _ from EH0.out]; omega)
    · rw [List.length_replicate]; exact hN3
    · exact (Tbl.zero _ _).congr fun a b => (adjL_start (fun e he => by rw [HK.out.has e _ (kE_some ((HE.out e he).eok HNL.out))]; simpa using he) a b).symm
  have HH : Hid (H0 < g ∧ g < H1 ∧ H0 = w.heap.size ∧ N = n * wN n) := ⟨hg0', by rw [show H1 = _ from EH1.out]; exact hH1, EH0.out, hN3⟩
  rw [← show H1 = _ from EH1.out] at T0 ⊢
  clear hrg0 hg0 hs0 KG HW2 hown c1 c0 hgl hml HN HC hN3 hH1 hg0' EH1 EN EH0
  go_loopw [] (fun wr => ∃ left ct, Tf pA w wr n mb (H1 + 1) g E m D left ct ∧ wr.heap[H1]? = some (tbO n g N N) ∧ wr.heap[H0]? = some (.cells #[.int .i64 0, .slice none 0 0] 75 (0, 0))) (fun wr => wr.rangeLeft mb (H1 + 1))
  case atStart => exact ⟨_, _, T0.out⟩
  case round =>
    obtain ⟨left, ct, tf, t1, t0⟩ := hrel
    rename World => WL
    have HT : Hid (Tf pA w WL n mb (H1 + 1) g E m D left ct) := tf
    have HT1 : Hid (WL.heap[H1]? = some (tbO n g N N)) := t1
    have HT0 : Hid (WL.heap[H0]? = some (.cells #[.int .i64 0, .slice none 0 0] 75 (0, 0))) := t0
    have rg := tf.rg
    clear tf t1 t0 T0
    go_wp2_with (at_next; refine wpList_next_ranges _ rfl _ rfl 33 Tryd.keyedE unitElem egV (fun _ : Unit => Value.agg #[]) (fun key kl hk => by obtain ⟨x, hx, _⟩ := key_inv hk; exact ⟨x, hx⟩) (fun v y hv => ⟨(), (unitElem_inv hv).1⟩) mb (H1 + 1) _ _ _ _ rfl rg ?_ ?_)
    · intro _ hl0
      have a0 := (cell_of HT1.out 0).trans (show (#[Value.int .i64 n, .slice (some ⟨g, 0, none⟩) N N] : Array Value)[0]? = some (.int .i64 n) from rfl)
      have a1 := (cell_of HT1.out 1).trans (show (#[Value.int .i64 n, .slice (some ⟨g, 0, none⟩) N N] : Array Value)[1]? = some (.slice (some ⟨g, 0, none⟩) N N) from rfl)
      have b0 := (cell_of HT0.out 0).trans (show (#[Value.int .i64 0, .slice none 0 0] : Array Value)[0]? = some (.int .i64 0) from rfl)
      have b1 := (cell_of HT0.out 1).trans (show (#[Value.int .i64 0, .slice none 0 0] : Array Value)[1]? = some (.slice none 0 0) from rfl)
      have f0 := frozen_of HT0.out 0
      have f1 := frozen_of HT0.out 1
      have HL0 : Hid (∀ k, left k = false) := hl0
      clear hl0 rg
      have HS9 : Hid (Same (fun k => k = H0) WL ((WL.setCell ⟨H0, 0, none⟩ (.int .i64 n)).setCell ⟨H0, 1, none⟩ (.slice (some ⟨g, 0, none⟩) N N))) := ((Same.refl (fun k => k = H0) WL).setCell ⟨H0, 0, none⟩ (.inr rfl) _).setCell ⟨H0, 1, none⟩ (.inr rfl) _
      have h9 : ((WL.setCell ⟨H0, 0, none⟩ (.int .i64 n)).setCell ⟨H0, 1, none⟩ (.slice (some ⟨g, 0, none⟩) N N)).heap[H0]? = some (tbO n g N N) := (setCell_at (setCell_at HT0.out 0 _) 1 _).trans rfl
      have HL9 : Hid (∀ P : Option Nat, _) := fun _ => load_tb h9
      clear h9
      go_wp2_with fail
      obtain ⟨l, ol, ll, tl⟩ := HT.out.tb
      obtain ⟨q1, q2, q3, q4⟩ := HH.out
      refine bodyPost_ret (results_g rfl rfl (HL9.out none)) rfl ⟨g, l, by rw [q4], ?_, ll, ?_, ?_⟩
      · refine ol.kept HS9.out (fun b hb e => ?_)
        cases hb
        have e : g = H0 := e
        omega
      · exact tl.congr fun a b => (adjL_end HL0.out a b).trans (pA_end E m a b)
      · exact HT.out.kept.trans HS9.out (fun i hi e => by have e : i = H0 := e; omega)
    · intro x kl' yd yp w2 ct2 hkey hlk hv hat hrg2 hlt hg2 hs2 hen
      have hx : x ∈ E := by
        have h9 := HK.out.has x kl' hkey
        rw [Go.Maps.has_true_of_atKey hat] at h9
        simpa using h9.symm
      have s2 : Same (fun b => b = H1 + 1) WL w2 := Same.of_grown hg2 (fun j e => by cases e; rfl)
      obtain ⟨l, ol, ll, tl⟩ := HT.out.tb
      obtain ⟨q1, q2, q3, q4⟩ := HH.out
      have HT1b : Hid (w2.heap[H1]? = some (tbO n g N N)) := (s2.block H1 (lt_of_heap HT1.out) (by omega)).trans HT1.out
      have HT0b : Hid (w2.heap[H0]? = some (.cells #[.int .i64 0, .slice none 0 0] 75 (0, 0))) := (s2.block H0 (lt_of_heap HT0.out) (by omega)).trans HT0.out
      have ol2 : OwnW w.heap.size w2 (.slice (some ⟨g, 0, none⟩) (n * wN n) (n * wN n)) l := ol.kept s2 (fun b hb e => by cases hb; have e : g = H1 + 1 := e; omega)
      have HO2 : Hid (OwnW w.heap.size w2 (.slice (some ⟨g, 0, none⟩) (n * wN n) (n * wN n)) l ∧ l.length = n * wN n ∧ Tbl (wN n) l (adjL pA E m left)) := ⟨ol2, ll, tl⟩
      have K2 : Hid (Kept w w2) := HT.out.kept.trans s2 (fun i hi e => by have e : i = H1 + 1 := e; omega)
      have HRG2 : Hid (w2.ranges Tryd.prog 33 unitElem mb (H1 + 1) (Go.Maps.size D) D (fun z => left z && !z.sameKey kl') ct2) := hrg2
      have HLT : Hid (ct2 < ct ∧ WL.rangeLeft mb (H1 + 1) = ct ∧ ∀ W : World, W.ranges Tryd.prog 33 unitElem mb (H1 + 1) (Go.Maps.size D) D (fun z => left z && !z.sameKey kl') ct2 → W.rangeLeft mb (H1 + 1) = ct2) := ⟨hlt, rg.left_eq, fun W h => h.left_eq⟩
      have fx := HE.out x hx
      have hne1 : ¬ mb = g := fun e => by
        subst e
        obtain ⟨es, clock, hb9, -⟩ := HT.out.rg.owns
        obtain ⟨-, cur, hg9⟩ := ol.block (b := mb) rfl
        rw [hb9] at hg9
        cases hg9
      have HNE : Hid (¬ mb = g ∧ ¬ H1 + 1 = g) := ⟨hne1, by omega⟩
      have HST : Hid (∀ a b, adjL pA E m (fun z => left z && !z.sameKey kl') a b = (adjL pA E m left a b || (pA x a b && inM x.l m))) := fun a b => adjL_step (fun e he => (HE.out e he).eok HNL.out) hx hkey a b
      obtain ⟨a, ea⟩ : ∃ a : Nat, x.f = a := ⟨x.f.toNat, by have := fx.f0; omega⟩
      obtain ⟨b, eb⟩ : ∃ b : Nat, x.t = b := ⟨x.t.toNat, by have := fx.t0; omega⟩
      have hlx : 1 ≤ x.l ∧ x.l ≤ 8 := ⟨fx.l1, fx.l8⟩
      have HAB : Hid (a < n ∧ b < n ∧ 1 ≤ x.l ∧ x.l ≤ 8) := ⟨by have := fx.fn; omega, by have := fx.tn; omega, hlx⟩
      have HOX : Hid (∀ W, _) := fun W => HOV.out x m hlx.1 hlx.2 W
      obtain ⟨xf, xt, xl⟩ := x
      simp only at ea eb
      subst ea eb
      clear hne1 hkey hlk hv hat hrg2 hlt hg2 hs2 s2 hx ol ll tl q1 q2 q3 q4 ol2 fx hlx rg
      simp only [egV] at hen ⊢
      go_wp2_with fail
      refine Calls.mono (HOX.out _) ?_
      rintro r w3 ⟨rfl, g3⟩
      have gx := heap_new w2 (egO ⟨(a : Int), (b : Int), xl⟩)
      have K3 : Hid (Kept w2 w3) := ((Same.refl _ w2).alloc _).trans' g3.kept
      have e0 : w3.cell? ⟨w2.heap.size, 0, none⟩ = some (.int .i64 a) := (g3.kept.cell (p := ⟨w2.heap.size, 0, none⟩) (lt_of_heap gx) (fun e => e)).trans ((cell_of gx 0).trans rfl)
      have e1 : w3.cell? ⟨w2.heap.size, 1, none⟩ = some (.int .i64 b) := (g3.kept.cell (p := ⟨w2.heap.size, 1, none⟩) (lt_of_heap gx) (fun e => e)).trans ((cell_of gx 1).trans rfl)
      have HE01 : Hid (w3.cell? ⟨w2.heap.size, 0, none⟩ = some (.int .i64 a) ∧ w3.cell? ⟨w2.heap.size, 1, none⟩ = some (.int .i64 b)) := ⟨e0, e1⟩
      clear gx g3 HOX hen
      by_cases hin : inM xl m = true
      · have HIN : Hid (inM xl m = true) := hin
        have q4 : N = n * wN n := HH.out.2.2.2
        subst q4
        have hjw : a / 64 < wN n := wN_lt (show a < n from HAB.out.1)
        have hjl : b * wN n + a / 64 < n * wN n := by have := row_le (show b < n from HAB.out.2.1); omega
        obtain ⟨ol, ll, tl⟩ := HO2.out
        obtain ⟨xw, hxw⟩ : ∃ xw, l[b * wN n + a / 64]? = some xw := ⟨_, List.getElem?_eq_getElem (by rw [ll]; exact hjl)⟩
        have hxl : xw < 18446744073709551616 := (tl _ _ hxw).1
        have ol3 := ol.on K3.out
        obtain ⟨p1, p2, p3⟩ := ol3.cell1 ekU hxw rfl
        have ht1 := (K3.out.block H1 (lt_of_heap HT1b.out) (fun e => e)).trans HT1b.out
        have HXW : Hid (l[b * wN n + a / 64]? = some xw ∧ b * wN n + a / 64 < l.length) := ⟨hxw, by rw [ll]; exact hjl⟩
        have hce := w3.heap.size
        have HBX : Hid (∀ w4, Same (fun k => k = g) w3 w4 → Same (fun k => k = g) w3 w4 ∧ w4.cell? ⟨H1, 0, none⟩ = some (.int .i64 n) ∧ w4.cell? ⟨H1, 1, none⟩ = some (.slice (some ⟨g, 0, none⟩) (n * wN n) (n * wN n)) ∧ w4.cell? ⟨w2.heap.size, 0, none⟩ = some (.int .i64 a) ∧ w4.cell? ⟨w2.heap.size, 1, none⟩ = some (.int .i64 b)) := fun w4 k4 => by
          have h1 := (k4.block H1 (lt_of_heap ht1) (fun e => by have e : H1 = g := e; have := HH.out.2.1; omega)).trans ht1
          have lt2 : w2.heap.size < w3.heap.size := (World.block_lt_of_cell? _ _ HE01.out.1)
          have hne : ¬ w2.heap.size = g := fun e => by
            have := HH.out.2.1
            have := lt_of_heap HT1b.out
            omega
          exact ⟨k4, (cell_of h1 0).trans rfl, (cell_of h1 1).trans rfl, (k4.cell (p := ⟨w2.heap.size, 0, none⟩) lt2 hne).trans HE01.out.1, (k4.cell (p := ⟨w2.heap.size, 1, none⟩) lt2 hne).trans HE01.out.2⟩
        have HGX : Hid (∀ w4, Grw w3 w4 → w4.cell? ⟨g, b * wN n + a / 64, none⟩ = some (.int .u64 (xw : Nat)) ∧ w4.frozen? ⟨g, b * wN n + a / 64, none⟩ = false) := fun w4 k4 => by
          obtain ⟨r1, r2, r3⟩ := (ol3.on k4.kept).cell1 ekU hxw rfl
          exact ⟨r1, r2⟩
        have HPC : Hid (∀ (W : World) (cap : Nat), Grw w3 W → _) := fun W cap h1 => HP.out W g (b * wN n) (wN n) cap xw a (by have := HAB.out; have := HNL.out; omega) hjw hxl (HGX.out W h1).1 (HGX.out W h1).2
        have HRC : Hid (∀ W, _) := fun W => HR.out b g HAB.out.2.1 W
        obtain ⟨k0, d0, d1, d2, d3⟩ := HBX.out w3 (Same.refl _ w3)
        clear ol ll tl hjw hjl hxw hxl ol3 p1 p2 p3 ht1 e0 e1 hce k0
        go_upto_region 6 with fail
        go_region_held3 (fun w4 => Same (fun k => k = g) w3 w4 ∧ w4.cell? ⟨H1, 0, none⟩ = some (.int .i64 n) ∧ w4.cell? ⟨H1, 1, none⟩ = some (.slice (some ⟨g, 0, none⟩) (n * wN n) (n * wN n)) ∧ w4.cell? ⟨w2.heap.size, 0, none⟩ = some (.int .i64 a) ∧ w4.cell? ⟨w2.heap.size, 1, none⟩ = some (.int .i64 b))
          (exact HBX.out _ (by (repeat (first | exact Same.refl _ _ | assumption | (refine Same.setCell ?_ _ (Or.inr (show g = g from rfl)) _) | (refine Same.trans' ?_ (Kept.to (Grw.kept (by assumption)) _)) | apply Same.drewN | apply Same.drew | apply Same.alloc)); done))
          (first
          | (go_at_call 51; refine Calls.mono (HRC.out _) ?_; rintro r w4 ⟨⟨cap, rfl⟩, g4⟩)
          | (go_at_call 40; refine Calls.mono (HPC.out _ _ (by (repeat (first | exact Grw.refl _ | assumption | (refine Grw.trans ?_ (by assumption)) | apply Grw.alloc | apply Grw.drew | apply Grw.drewN)); done)) ?_; rintro r w5 ⟨rfl, q5, rfl⟩))
        have HFI : Hid (∀ (w4 : World) (q5 : Nat), Grw w3 w4 → (∃ l', OwnW w.heap.size ((w4.setCell ⟨g, b * wN n + a / 64, none⟩ (.int .u64 ((xw ||| 2 ^ (a % 64) : Nat) : Int))).drewN q5) (.slice (some ⟨g, 0, none⟩) (n * wN n) (n * wN n)) l' ∧ l'.length = n * wN n ∧ Tbl (wN n) l' (adjL pA E m (fun z => left z && !z.sameKey kl'))) ∧ Same (fun k => k = g) w2 ((w4.setCell ⟨g, b * wN n + a / 64, none⟩ (.int .u64 ((xw ||| 2 ^ (a % 64) : Nat) : Int))).drewN q5)) := fun w4 q5 k4 => by
          obtain ⟨ol, ll, tl⟩ := HO2.out
          obtain ⟨o5, s5⟩ := ((ol.on K3.out).on k4.kept).set1 ekU HXW.out.2 (xw ||| 2 ^ (a % 64)) rfl
          refine ⟨⟨_, o5.drewN q5, by rw [List.length_set]; exact ll, ?_⟩, (((Kept.to (K3.out.trans' k4.kept) _).trans' s5).drewN q5)⟩
          refine (tl.put (a := b) (y := a) (wN_lt (show a < n from HAB.out.1)) HXW.out.1).congr fun p q => ?_
          rw [HST.out p q, HIN.out, Bool.and_true, pA_val]
        all_goals (go_wp2_with fail)
        all_goals
          obtain ⟨ft, fs⟩ := HFI.out w4 q5 (by (repeat (first | exact Grw.refl _ | assumption | (refine Grw.trans ?_ (by assumption)) | apply Grw.alloc | apply Grw.drew | apply Grw.drewN)); done)
          have rg5 := HRG2.out.kept (World.grownBy_of_same fs) (fun e => HNE.out.1 (by simpa using e)) (fun e => HNE.out.2 (by simpa using e))
          refine ⟨⟨_, ct2, ⟨rg5, ft, K2.out.trans fs (fun i hi e => by have e : i = g := e; have := HH.out; omega)⟩, (fs.block H1 (lt_of_heap HT1b.out) (fun e => by have e : H1 = g := e; have := HH.out; omega)).trans HT1b.out, (fs.block H0 (lt_of_heap HT0b.out) (fun e => by have e : H0 = g := e; have := HH.out; omega)).trans HT0b.out⟩, ?_⟩
          rw [HLT.out.2.2 _ rg5, HLT.out.2.1]
          exact HLT.out.1
      · have hin2 : inM xl m = false := by simpa using hin
        have HIN : Hid (inM xl m = false) := hin2
        clear hin e0 e1
        go_wp2_with fail
        have rg3 := HRG2.out.kept (World.grownBy_of_kept K3.out) (by simp) (by simp)
        go_roundw
        case rel =>
          refine ⟨_, ct2, ⟨rg3, ?_, K2.out.trans' K3.out⟩, (K3.out.block H1 (lt_of_heap HT1b.out) (fun e => e)).trans HT1b.out, (K3.out.block H0 (lt_of_heap HT0b.out) (fun e => e)).trans HT0b.out⟩
          obtain ⟨ol, ll, tl⟩ := HO2.out
          exact ⟨l, ol.on K3.out, ll, tl.congr fun p q => by rw [HST.out p q, HIN.out, Bool.and_false, Bool.or_false]⟩
        case measure => rw [HLT.out.2.2 _ rg3, HLT.out.2.1]; exact HLT.out.1
end Go.Proofs.YtbhihmkgimdjpaaDoor
