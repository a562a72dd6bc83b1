/- What is proved: what Win of a tree answers and leaves: it waits, is dry, or the one that none beats wins; the tree is one that New made. -/
import Derived.Test.YtolaeiagfnhllaaTNew
namespace Go.Proofs.Ytolaeiagfnhllaa
open Go.RowKit

theorem results_tct {fn : Func} {a t u s : Nat} {P : Program} {w : World} {tmps : Array Value} {ad : Addr} {v : Value} (h : fn.results = #[.tmp u, .cell a t, .tmp s]) (ha : tmps.getD a undef = .pointer (some ad)) (hv : (loadVar t ad).run P w = .ok v w) : (results fn tmps).run P w = .ok (.tuple #[tmps.getD u undef, v, tmps.getD s undef]) w := by
  have ha' : tmps[a]?.getD undef = .pointer (some ad) := by simpa using ha
  simp [results, h, ha', asAddr, hv]
/-- What Win answers, and the sources behind it. -/
inductive WinR (order : Int) (S : List Sr) : Nat → RwM → Int → List Sr → Prop where
  | wait (h : 0 < wts S) : WinR order S 0 r0 113 S
  | dry (h : ∀ i, i < S.length → S.getD i .wait = .fin) : WinR order S 0 r0 114 S
  | ok {x : Nat} {r : RwM} (h : wts S = 0) (hx : x < S.length) (hr : S.getD x .wait = .fed r) (hb : ∀ i, i < S.length → bt order S i x = false) : WinR order S x r 0 (S.set x .wait)
theorem bt_tri {order : Int} {S : List Sr} {x y : Nat} {r s : RwM} (hx : S.getD x .wait = .fed r) (hy : S.getD y .wait = .fed s) (h1 : bt order S x y = false) (h2 : bt order S y x = false) : x = y := by
  unfold bt at h1 h2
  rw [hx, hy] at h1 h2
  simp only [Bool.or_eq_false_iff, Bool.and_eq_false_iff, Bool.not_eq_false', decide_eq_false_iff_not] at h1 h2
  rcases h1.2 with h | h
  · rw [h2.1] at h; cases h
  · rcases h2.2 with h' | h'
    · rw [h1.1] at h'; cases h'
    · omega
theorem WinR.det {order : Int} {S : List Sr} {x y : Nat} {r s : RwM} {c d : Int} {S1 S2 : List Sr} (h1 : WinR order S x r c S1) (h2 : WinR order S y s d S2) : x = y ∧ r = s ∧ c = d ∧ S1 = S2 := by
  cases h1 with
  | wait h =>
    cases h2 with
    | wait => exact ⟨rfl, rfl, rfl, rfl⟩
    | dry h' =>
      rw [wts_zero.2 fun i hi => by rw [h' i hi]; rfl] at h
      omega
    | ok h' => omega
  | dry h =>
    cases h2 with
    | wait h' =>
      rw [wts_zero.2 fun i hi => by rw [h i hi]; rfl] at h'
      omega
    | dry => exact ⟨rfl, rfl, rfl, rfl⟩
    | ok _ hx hr => rw [h _ hx] at hr; cases hr
  | ok h hx hr hb =>
    cases h2 with
    | wait h' => omega
    | dry h' => rw [h' _ hx] at hr; cases hr
    | ok h' hx' hr' hb' =>
      have e := bt_tri hr hr' (hb' _ hx) (hb _ hx')
      subst e
      rw [hr] at hr'
      cases hr'
      exact ⟨rfl, rfl, rfl, rfl⟩
theorem two_old {n : Nat} (W : World) (o1 o2 : Obj) (h : W.heap.size = n) : (((W.alloc o1).alloc o2).drew).heap[n]? = some o1 := by
  subst h
  exact (heap_old (W.alloc o1) o2 (k := W.heap.size) (by rw [World.size_alloc]; omega)).trans (heap_new W o1)
set_option maxRecDepth 100000 in
set_option maxHeartbeats 1600000 in
theorem win11 {w : World} {b gs gn : Nat} {order : Int} {S : List Sr} (h : Tn w b gs gn order S) :
    Calls Try.prog 19 #[.pointer (some ⟨b, 0, none⟩)] w fun e w' => ∃ x r c S', e = .returned (.tuple #[.int .i64 ((x : Nat) : Int), rowV r, .int .i64 c]) ∧ WinR order S x r c S' ∧ Tn w' b gs gn order S' ∧ Same (Ft b gs gn) w w' := by
  have HH : Hid _ := h
  obtain ⟨nd, tr, win, ht⟩ := h
  obtain ⟨⟨c0, c1, c2, c3⟩, f3, hb⟩ := tr.cells
  have hk1 := tr.k1
  have hk0 := tr.k0
  have hwl := wts_le S
  by_cases h1 : 0 < wts S
  · have d1 : decide ((0 : Int) < ((wts S : Nat) : Int)) = true := decide_eq_true (by omega)
    have d1' : (0 : Int) < ((wts S : Nat) : Int) := by omega
    have WR : Hid _ := WinR.wait (order := order) h1
    generalize wts S = ws at *
    clear tr ht hk0 hk1 hwl h1
    go_enter Try.func19, Try.ntmps19
    go_wp2_with fail
    refine bodyPost_ret (results_tct (a := 3) (t := 32) (u := 2) (s := 4) rfl rfl (loadVar_row (r := r0) (.inl rfl) (heap_new _ _))) rfl ?_
    exact ⟨0, r0, 113, S, rfl, WR.out, Tn.on HH.out ((Same.refl _ w).alloc _), (Same.refl _ w).alloc _⟩
  · have hw0 : wts S = 0 := by omega
    have d1 : decide ((0 : Int) < ((wts S : Nat) : Int)) = false := decide_eq_false (by omega)
    obtain ⟨x, hx1, hx2, hx3, hx4⟩ := ht.win hk0 (wts_zero.1 hw0)
    have hn0 := tr.nod_at (i := 0) hk0
    rw [hx2] at hn0
    have hgn := lt_of_heap tr.nod
    have hgs := lt_of_heap tr.src
    rw [hw0] at c3
    have hxn : (x : Int) < (S.length : Int) := by omega
    have hwx := wts_zero.1 hw0 x hx3
    cases hsx : S.getD x .wait with
    | wait => rw [hsx] at hwx; cases hwx
    | fin =>
      obtain ⟨p0, -⟩ := tr.src_at hx3 hsx
      simp only [Sr.code] at p0
      have WR : Hid _ := WinR.dry (order := order) (S := S) fun i hi => by
        have h2 := hx4 i hi
        have h3 := wts_zero.1 hw0 i hi
        unfold bt at h2
        rw [hsx] at h2
        cases hsi : S.getD i .wait with
        | wait => rw [hsi] at h3; cases h3
        | fin => rfl
        | fed r => rw [hsi] at h2; cases h2
      have hk0' : (0 : Int) < (S.length : Int) := by omega
      generalize S.length = n at *
      clear tr ht hk0 hwl h1 hx1 hx2 hx3 hx4 hsx hwx hw0 d1
      go_enter Try.func19, Try.ntmps19
      go_wp2_with fail
      refine bodyPost_ret (results_tct (a := 3) (t := 32) (u := 2) (s := 4) rfl rfl (loadVar_row (r := r0) (.inl rfl) (heap_new _ _))) rfl ?_
      exact ⟨0, r0, 114, S, rfl, WR.out, Tn.on HH.out ((Same.refl _ w).alloc _), (Same.refl _ w).alloc _⟩
    | fed r =>
      obtain ⟨p0, p1, p2, p3, p4, p5, p6, p7⟩ := tr.src_at hx3 hsx
      simp only [Sr.code, Sr.row] at p0 p1 p2 p3 p4 p5 p6 p7
      have WR : Hid _ := WinR.ok hw0 hx3 hsx hx4
      have hk0' : (0 : Int) < (S.length : Int) := by omega
      have hwt := wts_set hx3 .wait
      rw [hsx] at hwt
      have fz : ∀ o, w.frozen? ⟨gs, o, none⟩ = false := fun o => frozen_of tr.src o
      have HP : Hid _ := tr.put hx3 .wait (n := 1) (by simp [Sr.wt] at hwt; omega)
      have HT : Hid (∃ win, Trn order (S.set x .wait) nd win) := ⟨_, ht.take hk0 (wts_zero.1 hw0) hx1⟩
      generalize S.set x .wait = S' at *
      unfold putS at HP
      simp only [Sr.code, Sr.row, r0] at HP
      obtain ⟨n1, n2, n3⟩ := tr.ne
      generalize S.length = n at *
      clear tr ht hk0 hwl h1 hx1 hx2 hx4 hsx hwx hw0 d1 hwt
      obtain ⟨kind, time, seq, index, frm, til, body⟩ := r
      simp only at *
      go_enter Try.func19, Try.ntmps19
      go_wp2_with fail
      go_region
      all_goals (go_wp2_with fail)
      all_goals
        refine bodyPost_ret (results_tct (a := 3) (t := 32) (u := 2) (s := 4) rfl rfl (loadVar_row (r := ⟨kind, time, seq, index, frm, til, body⟩) (.inl rfl) (two_old _ _ _ (by simp only [World.size_setCell])))) rfl ?_
        exact ⟨x, _, 0, S', rfl, WR.out, ⟨nd, HP.out.1.on (((Same.refl _ _).alloc _).alloc _).drew, HT.out⟩, ((HP.out.2.alloc _).alloc _).drew⟩
end Go.Proofs.Ytolaeiagfnhllaa
