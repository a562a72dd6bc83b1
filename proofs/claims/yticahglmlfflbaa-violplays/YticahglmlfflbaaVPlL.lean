/- What is proved: the law ViolPlays holds of every limit and every script; the script lies in memory. -/
import Derived.Test.YticahglmlfflbaaVFst
import Derived.Test.YticahglmlfflbaaVSame
import Derived.Test.YticahglmlfflbaaVRef
import Derived.Test.YticahglmlfflbaaVOps
namespace Go.Proofs.Yticahglmlfflbaa
open Go.RowKit

theorem At.ov {w : World} {a : Option Addr} {l : List OpV} (h : At ov1 13 w a l) {j : Nat} {x : OpV} (hx : l[j]? = some x) : ∃ b o, a = some ⟨b, o, none⟩ ∧ b < w.heap.size ∧ w.cell? ⟨b, o + j * 13, none⟩ = some (.int .i64 x.kind) ∧ w.cell? ⟨b, o + j * 13 + 1, none⟩ = some (.int .i64 x.v.kd) ∧ w.cell? ⟨b, o + j * 13 + 2, none⟩ = some (.int .i64 x.v.tm) ∧ w.cell? ⟨b, o + j * 13 + 3, none⟩ = some (.int .i64 x.v.tx) ∧ w.cell? ⟨b, o + j * 13 + 4, none⟩ = some (.int .i64 x.v.op) ∧ w.cell? ⟨b, o + j * 13 + 5, none⟩ = some (.int .i64 x.v.wi) ∧ w.cell? ⟨b, o + j * 13 + 6, none⟩ = some (.string x.v.key) ∧ w.cell? ⟨b, o + j * 13 + 7, none⟩ = some (.bool x.v.wa) ∧ w.cell? ⟨b, o + j * 13 + 8, none⟩ = some (.string x.v.ex) ∧ w.cell? ⟨b, o + j * 13 + 9, none⟩ = some (.bool x.v.go) ∧ w.cell? ⟨b, o + j * 13 + 10, none⟩ = some (.string x.v.ob) ∧ w.cell? ⟨b, o + j * 13 + 11, none⟩ = some (.int .i64 x.v.fr) ∧ w.cell? ⟨b, o + j * 13 + 12, none⟩ = some (.int .i64 x.v.tt) := by
  obtain ⟨b, o, e, hb, hc⟩ := h j x hx
  exact ⟨b, o, e, hb, hc 0 _ rfl, hc 1 _ rfl, hc 2 _ rfl, hc 3 _ rfl, hc 4 _ rfl, hc 5 _ rfl, hc 6 _ rfl, hc 7 _ rfl, hc 8 _ rfl, hc 9 _ rfl, hc 10 _ rfl, hc 11 _ rfl, hc 12 _ rfl⟩
abbrev ovO (x : OpV) : Obj := .cells #[.int .i64 x.kind, .int .i64 x.v.kd, .int .i64 x.v.tm, .int .i64 x.v.tx, .int .i64 x.v.op, .int .i64 x.v.wi, .string x.v.key, .bool x.v.wa, .string x.v.ex, .bool x.v.go, .string x.v.ob, .int .i64 x.v.fr, .int .i64 x.v.tt] 32 (0, 0)
/-- What stands between the steps. -/
structure Ps (w W : World) (tb lim n : Nat) (u : Value) (vs : List Vl) : Prop where
  top : TpN w W tb lim vs
  own : OwnV w.heap.size W u vs
  len : vs.length ≤ n
theorem Ps.on {w W W' : World} {tb lim n : Nat} {u : Value} {vs : List Vl} (h : Ps w W tb lim n u vs) (k : Kept W W') : Ps w W' tb lim n u vs := ⟨h.top.on k, h.own.on k, h.len⟩
theorem Ps.at {w W : World} {tb lim n : Nat} {u : Value} {vs : List Vl} (h : Ps w W tb lim n u vs) : ∃ a c, u = .slice a vs.length c ∧ At vl1 12 W a vs ∧ vs.length ≤ c ∧ (a = none → vs.length = 0 ∧ c = 0) := by
  obtain ⟨a, c, e, h1, h2, -⟩ := h.own.shape
  subst e
  exact ⟨a, c, rfl, h.own.at ekV, h1, fun e => ⟨by rw [(h2 e).1]; rfl, (h2 e).2⟩⟩
theorem Ps.more {w W : World} {tb lim n : Nat} {u : Value} {vs : List Vl} (h : Ps w W tb lim n u vs) : Ps w W tb lim (n + 1) u vs := ⟨h.top, h.own, Nat.le_succ_of_le h.len⟩
theorem TpN.no2 {w W : World} {tb lim : Nat} {vs : List Vl} (h : TpN w W tb lim vs) {x : Vl} (hx : okV x = false) : Calls Try.prog 11 #[.pointer (some ⟨tb, 0, none⟩), vlV x] W fun e w' => e = .returned (.int .i64 181) ∧ Kept W w' := by
  obtain ⟨⟨v, L, t⟩, k0⟩ := h
  exact put18_no t hx
set_option maxRecDepth 100000 in
set_option maxHeartbeats 1600000 in
theorem plays_out (lim : Int) (hl : lim < 0 ∨ 10000 < lim) (v : Value) (w : World) : Calls Try.prog 3 #[.int .i64 lim, v] w fun e w' => e = .returned (.bool true) ∧ Kept w w' := by
  have HA : Hid _ := anchor18 w
  have HN : Hid (∀ W, _) := fun W => new18_no lim hl W
  have d1 : decide (lim < 0) = true ∨ (decide (lim < 0) = false ∧ decide (lim > 10000) = true) := by
    by_cases h : lim < 0
    · exact .inl (decide_eq_true h)
    · exact .inr ⟨decide_eq_false h, decide_eq_true (by omega)⟩
  rcases d1 with d1 | ⟨d1, d2⟩
  · have d1' : lim < 0 := of_decide_eq_true d1
    clear hl
    go_enter Try.func3, Try.ntmps3
    go_wp2_with fail
    refine Calls.mono HA.out ?_
    rintro r w1 ⟨rfl, k1⟩
    have K1 : Hid (Kept w w1) := k1
    clear k1 HA
    go_wp2_with fail
    refine Calls.mono (HN.out _) ?_
    rintro r w2 ⟨rfl, rfl⟩
    go_wp2_with fail
    go_ret
    exact ⟨rfl, K1.out⟩
  · have d1' : ¬ lim < 0 := of_decide_eq_false d1
    have d2' : 10000 < lim := of_decide_eq_true d2
    clear hl
    go_enter Try.func3, Try.ntmps3
    go_wp2_with fail
    refine Calls.mono HA.out ?_
    rintro r w1 ⟨rfl, k1⟩
    have K1 : Hid (Kept w w1) := k1
    clear k1 HA
    go_wp2_with fail
    refine Calls.mono (HN.out _) ?_
    rintro r w2 ⟨rfl, rfl⟩
    go_wp2_with fail
    go_ret
    exact ⟨rfl, K1.out⟩
set_option maxRecDepth 100000 in
set_option maxHeartbeats 6400000 in
theorem plays_law (lim : Nat) (hl : lim ≤ 10000) (w : World) (a : Option Addr) (cap : Nat) (l : List OpV) (h : At ov1 13 w a l) (hn : l.length ≤ 1099511627776) : Calls Try.prog 3 #[.int .i64 (lim : Int), .slice a l.length cap] w fun e w' => e = .returned (.bool true) ∧ Kept w w' := by
  have HA : Hid _ := anchor18 w
  have HN : Hid (∀ W, _) := fun W => new18_ok lim hl W
  have HT0 : Hid (∀ W, Kept w W → TpN w (W.alloc (tpO lim 0 (.slice none 0 0))) W.heap.size lim []) := fun W k => TpN.new k hl
  have HL : Hid (At ov1 13 w a l) := h
  have d1 : decide ((lim : Int) < 0) = false := decide_eq_false (by omega)
  have d1' : ¬ (lim : Int) < 0 := by omega
  have d2 : decide ((lim : Int) > 10000) = false := decide_eq_false (by omega)
  have d2' : ¬ (10000 : Int) < (lim : Int) := by omega
  obtain ⟨n, en⟩ : ∃ n, n = l.length := ⟨_, rfl⟩
  have EN : Hid (n = l.length) := en
  rw [← en] at hn ⊢
  clear h en hl
  go_enter Try.func3, Try.ntmps3
  go_wp2_with fail
  refine Calls.mono HA.out ?_
  rintro r w1 ⟨rfl, k1⟩
  have K1 : Hid (Kept w w1) := k1
  clear k1 HA
  go_wp2_with fail
  refine Calls.mono (HN.out _) ?_
  rintro r w2 ⟨rfl, rfl⟩
  have HT1 : Hid (Ps w (w1.alloc (tpO lim 0 (.slice none 0 0))) w1.heap.size lim 0 (.slice none 0 0) []) := ⟨HT0.out w1 K1.out, Own.nil _ _ _ _ _, Nat.le_refl _⟩
  generalize w1.alloc (tpO lim 0 (.slice none 0 0)) = W1 at HT1 ⊢
  generalize w1.heap.size = tb at HT1 ⊢
  clear HT0 HN K1
  go_wp2_with fail
  go_loopw [39, 7] (fun i u wr => ∃ (j : Nat) (vs : List Vl), i = .int .i64 (j : Int) ∧ j ≤ n ∧ Ps w wr tb lim j u vs) (fun i _ _ => n - (intOf i).toNat)
  case atStart => exact ⟨0, [], rfl, Nat.zero_le _, HT1.out⟩
  case round =>
    obtain ⟨j, vs, rfl, hj, hps⟩ := hrel
    rename World => WL
    have HP : Hid (Ps w WL tb lim j u7 vs) := hps
    have hvn : vs.length ≤ 1099511627776 := by have := hps.len; omega
    by_cases hjn : j < n
    · have hm2 : (j : Int) < (n : Int) := by omega
      have hj3 : (j : Int) ≤ 1099511627776 := by omega
      obtain ⟨x, hx⟩ : ∃ x, l[j]? = some x := ⟨_, List.getElem?_eq_getElem (by rw [← show n = _ from EN.out]; exact hjn)⟩
      obtain ⟨b, off, e2, hb, c0, c1, c2, c3, c4, c5, c6, c7, c8, c9, c10, c11, c12⟩ := At.ov (HL.out.on hps.top.kept) hx
      subst e2
      obtain ⟨a7, q7, e7, -, -, -⟩ := hps.at
      subst e7
      have HB0 : Hid ((WL.alloc (ovO x)).heap[WL.heap.size]? = some (ovO x)) := heap_new _ _
      have K2 : Hid (Kept WL (WL.alloc (ovO x))) := (Same.refl _ WL).alloc _
      obtain ⟨kind, kd, tm, tx, op, wit, key, wa, ex, gg, ob, fr, tt⟩ := x
      unfold ovO at HB0 K2
      simp only at c0 c1 c2 c3 c4 c5 c6 c7 c8 c9 c10 c11 c12 HB0 K2
      clear hx hps
      go_upto_region 12 with fail
      have HB : Hid _ := HB0
      have HP2 : Hid (Ps w _ tb lim j (.slice a7 vs.length q7) vs) := HP.out.on K2.out
      generalize WL.alloc _ = W2 at HB HP2 ⊢
      generalize WL.heap.size = gx at HB ⊢
      have HBX : Hid (W2.heap[gx]? = some (ovO ⟨kind, ⟨kd, tm, tx, op, wit, key, wa, ex, gg, ob, fr, tt⟩⟩)) := HB.out
      clear c0 c1 c2 c3 c4 c5 c6 c7 c8 c9 c10 c11 c12 hb HB0 K2 HP
      have hgx := lt_of_heap HB.out
      have x0 : W2.cell? ⟨gx, 0, none⟩ = some (.int .i64 kind) := (cell_of HB.out 0).trans rfl
      have x1 : W2.cell? ⟨gx, 1, none⟩ = some (.int .i64 kd) := (cell_of HB.out 1).trans rfl
      have x2 : W2.cell? ⟨gx, 2, none⟩ = some (.int .i64 tm) := (cell_of HB.out 2).trans rfl
      have x3 : W2.cell? ⟨gx, 3, none⟩ = some (.int .i64 tx) := (cell_of HB.out 3).trans rfl
      have x4 : W2.cell? ⟨gx, 4, none⟩ = some (.int .i64 op) := (cell_of HB.out 4).trans rfl
      have x5 : W2.cell? ⟨gx, 5, none⟩ = some (.int .i64 wit) := (cell_of HB.out 5).trans rfl
      have x6 : W2.cell? ⟨gx, 6, none⟩ = some (.string key) := (cell_of HB.out 6).trans rfl
      have x7 : W2.cell? ⟨gx, 7, none⟩ = some (.bool wa) := (cell_of HB.out 7).trans rfl
      have x8 : W2.cell? ⟨gx, 8, none⟩ = some (.string ex) := (cell_of HB.out 8).trans rfl
      have x9 : W2.cell? ⟨gx, 9, none⟩ = some (.bool gg) := (cell_of HB.out 9).trans rfl
      have x10 : W2.cell? ⟨gx, 10, none⟩ = some (.string ob) := (cell_of HB.out 10).trans rfl
      have x11 : W2.cell? ⟨gx, 11, none⟩ = some (.int .i64 fr) := (cell_of HB.out 11).trans rfl
      have x12 : W2.cell? ⟨gx, 12, none⟩ = some (.int .i64 tt) := (cell_of HB.out 12).trans rfl
      obtain ⟨v, ev⟩ : ∃ v : Vl, v = ⟨kd, tm, tx, op, wit, key, wa, ex, gg, ob, fr, tt⟩ := ⟨_, rfl⟩
      by_cases hk1 : kind = 1
      · subst hk1
        cases hok : okV v with
        | true =>
          have HPut : Hid _ := HP2.out.top.put2 hok (by omega)
          have HRV : Hid (∀ W, _) := fun W => rvalid18 v W
          rw [hok] at HRV
          have HOO : Hid (OwnV w.heap.size W2 (.slice a7 vs.length q7) vs) := HP2.out.own
          have HLE : Hid (vs.length ≤ j ∧ w.heap.size ≤ W2.heap.size) := ⟨HP2.out.len, HP2.out.top.kept.size⟩
          have EV : Hid (v = ⟨kd, tm, tx, op, wit, key, wa, ex, gg, ob, fr, tt⟩) := ev
          rw [ev] at HPut HRV
          unfold vlV at HPut
          unfold vlV vlO at HRV
          simp only at HPut HRV
          rw [← ev] at HPut
          clear ev hok
          go_wp2_with fail
          refine Calls.mono HPut.out ?_
          rintro r W3 ⟨rfl, t3, ho3, hsz3, hbl3⟩
          have HT3 : Hid (TpN w W3 tb lim (vs ++ [v])) := t3
          have HO3 : Hid (OwnV w.heap.size W3 (.slice a7 vs.length q7) vs) := ho3 _ _ _ HOO.out
          have HB3 : Hid (W3.heap[gx]? = some (ovO ⟨1, ⟨kd, tm, tx, op, wit, key, wa, ex, gg, ob, fr, tt⟩⟩)) := hbl3 gx _ _ (by decide) (by decide) HBX.out
          have HW3 : Hid (w.heap.size ≤ W3.heap.size) := Nat.le_trans HLE.out.2 hsz3
          clear x0 x1 x2 x3 x4 x5 x6 x7 x8 x9 x10 x11 x12 t3 ho3 hsz3 hbl3 HPut hgx HB HBX
          have hgx := lt_of_heap HB3.out
          have x0 : W3.cell? ⟨gx, 0, none⟩ = some (.int .i64 1) := (cell_of HB3.out 0).trans rfl
          have x1 : W3.cell? ⟨gx, 1, none⟩ = some (.int .i64 kd) := (cell_of HB3.out 1).trans rfl
          have x2 : W3.cell? ⟨gx, 2, none⟩ = some (.int .i64 tm) := (cell_of HB3.out 2).trans rfl
          have x3 : W3.cell? ⟨gx, 3, none⟩ = some (.int .i64 tx) := (cell_of HB3.out 3).trans rfl
          have x4 : W3.cell? ⟨gx, 4, none⟩ = some (.int .i64 op) := (cell_of HB3.out 4).trans rfl
          have x5 : W3.cell? ⟨gx, 5, none⟩ = some (.int .i64 wit) := (cell_of HB3.out 5).trans rfl
          have x6 : W3.cell? ⟨gx, 6, none⟩ = some (.string key) := (cell_of HB3.out 6).trans rfl
          have x7 : W3.cell? ⟨gx, 7, none⟩ = some (.bool wa) := (cell_of HB3.out 7).trans rfl
          have x8 : W3.cell? ⟨gx, 8, none⟩ = some (.string ex) := (cell_of HB3.out 8).trans rfl
          have x9 : W3.cell? ⟨gx, 9, none⟩ = some (.bool gg) := (cell_of HB3.out 9).trans rfl
          have x10 : W3.cell? ⟨gx, 10, none⟩ = some (.string ob) := (cell_of HB3.out 10).trans rfl
          have x11 : W3.cell? ⟨gx, 11, none⟩ = some (.int .i64 fr) := (cell_of HB3.out 11).trans rfl
          have x12 : W3.cell? ⟨gx, 12, none⟩ = some (.int .i64 tt) := (cell_of HB3.out 12).trans rfl
          go_wp2_with fail
          refine Calls.mono (HRV.out _) ?_
          rintro r W4 ⟨rfl, rfl⟩
          have K5 : Hid (Kept W3 ((W3.alloc (vlO v)).alloc (vlO v))) := ((Same.refl _ W3).alloc _).alloc _
          have hg5 : ((W3.alloc (vlO v)).alloc (vlO v)).heap[W3.heap.size + 1]? = some (vlO v) := by have := heap_new (W3.alloc (vlO v)) (vlO v); rwa [World.size_alloc] at this
          have HAP : Hid (∀ ty, _) := fun ty => app_v v (HO3.out.on K5.out) hg5 (by omega) (Nat.le_trans HW3.out (Same.size K5.out)) ty
          have HFI : Hid (∀ v' w', OwnV w.heap.size w' v' (vs ++ [v]) → Same (fun k => (Value.slice a7 vs.length q7).ownBlock = some k) ((W3.alloc (vlO v)).alloc (vlO v)) w' → Ps w w' tb lim (j + 1) v' (vs ++ [v])) := fun v' w' o s =>
            ⟨(HT3.out.on K5.out).app (HO3.out.on K5.out) (Nat.le_refl _) s, o, by rw [List.length_append]; show vs.length + 1 ≤ _; have := HLE.out.1; omega⟩
          rw [show v = _ from EV.out] at HAP HFI hg5
          unfold vlO at HAP HFI
          simp only at HAP HFI
          rw [← show v = _ from EV.out] at HAP HFI
          clear hg5 K5
          go_wp2_with (at_builtin; refine wpList_app rfl (.tmp 65) (.tmp 68) 28 rfl (.slice a7 vs.length q7) (.slice (some ⟨W3.heap.size + 1, 0, none⟩) 1 1) rfl rfl _ HAP.out ?_; rintro v5 w5 ⟨o5, s5, -⟩; have Q5 : Hid (Ps w w5 tb lim (j + 1) v5 (vs ++ [v])) := HFI.out v5 w5 o5 s5; clear o5 s5)
          go_roundw
          case rel => exact ⟨j + 1, vs ++ [v], by simp, hjn, Q5.out⟩
          case measure => simp only [intOf]; omega
        | false =>
          have HPut : Hid _ := HP2.out.top.no2 hok
          have HRV : Hid (∀ W, _) := fun W => rvalid18 v W
          rw [hok] at HRV
          rw [ev] at HPut HRV
          unfold vlV at HPut
          unfold vlV vlO at HRV
          simp only at HPut HRV
          clear ev hok v
          go_wp2_with fail
          refine Calls.mono HPut.out ?_
          rintro r W3 ⟨rfl, k3⟩
          have HP3 : Hid (Ps w W3 tb lim j (.slice a7 vs.length q7) vs) := HP2.out.on k3
          have HB3 : Hid (W3.heap[gx]? = some (ovO ⟨1, ⟨kd, tm, tx, op, wit, key, wa, ex, gg, ob, fr, tt⟩⟩)) := (k3.block gx hgx (fun e => e)).trans HBX.out
          clear x0 x1 x2 x3 x4 x5 x6 x7 x8 x9 x10 x11 x12 k3 HPut hgx HB HBX HP2
          have hgx := lt_of_heap HB3.out
          have x0 : W3.cell? ⟨gx, 0, none⟩ = some (.int .i64 1) := (cell_of HB3.out 0).trans rfl
          have x1 : W3.cell? ⟨gx, 1, none⟩ = some (.int .i64 kd) := (cell_of HB3.out 1).trans rfl
          have x2 : W3.cell? ⟨gx, 2, none⟩ = some (.int .i64 tm) := (cell_of HB3.out 2).trans rfl
          have x3 : W3.cell? ⟨gx, 3, none⟩ = some (.int .i64 tx) := (cell_of HB3.out 3).trans rfl
          have x4 : W3.cell? ⟨gx, 4, none⟩ = some (.int .i64 op) := (cell_of HB3.out 4).trans rfl
          have x5 : W3.cell? ⟨gx, 5, none⟩ = some (.int .i64 wit) := (cell_of HB3.out 5).trans rfl
          have x6 : W3.cell? ⟨gx, 6, none⟩ = some (.string key) := (cell_of HB3.out 6).trans rfl
          have x7 : W3.cell? ⟨gx, 7, none⟩ = some (.bool wa) := (cell_of HB3.out 7).trans rfl
          have x8 : W3.cell? ⟨gx, 8, none⟩ = some (.string ex) := (cell_of HB3.out 8).trans rfl
          have x9 : W3.cell? ⟨gx, 9, none⟩ = some (.bool gg) := (cell_of HB3.out 9).trans rfl
          have x10 : W3.cell? ⟨gx, 10, none⟩ = some (.string ob) := (cell_of HB3.out 10).trans rfl
          have x11 : W3.cell? ⟨gx, 11, none⟩ = some (.int .i64 fr) := (cell_of HB3.out 11).trans rfl
          have x12 : W3.cell? ⟨gx, 12, none⟩ = some (.int .i64 tt) := (cell_of HB3.out 12).trans rfl
          go_wp2_with fail
          refine Calls.mono (HRV.out _) ?_
          rintro r W4 ⟨rfl, rfl⟩
          go_wp2_with fail
          go_roundw
          case rel => exact ⟨j + 1, vs, by simp, hjn, (HP3.out.on ((Same.refl _ W3).alloc _)).more⟩
          case measure => simp only [intOf]; omega
      · have hk1b : (kind == 1) = false := by simp [hk1]
        by_cases hk2 : kind = 2
        · subst hk2
          have HLS : Hid _ := HP2.out.top.list
          obtain ⟨T, eT⟩ : ∃ T, T = (srt ltV vs).take lim := ⟨_, rfl⟩
          have hTn : T.length ≤ 4398046511104 := by rw [eT, List.length_take, srt_len]; omega
          have ET : Hid (T = (srt ltV vs).take lim) := eT
          rw [← eT] at HLS
          clear eT
          clear x1 x2 x3 x4 x5 x6 x7 x8 x9 x10 x11 x12 HB HBX ev v
          go_wp2_with fail
          refine Calls.mono HLS.out ?_
          rintro r W3 ⟨u3, rfl, o3, -, k3⟩
          have HP3 : Hid (Ps w W3 tb lim j (.slice a7 vs.length q7) vs) := HP2.out.on k3
          obtain ⟨b3, d3, e3, -, -, -⟩ := o3.shape
          subst e3
          have HA3 : Hid (At vl1 12 W3 b3 T) := o3.at ekV
          obtain ⟨a8, q8, e8, at8, cp8, nl8⟩ := HP3.out.at
          cases e8
          have HF : Hid _ := rfirst18 at8 cp8 nl8 (by omega) lim
          rw [← show T = _ from ET.out] at HF
          clear o3 k3 HP2 HLS at8 cp8 nl8
          go_wp2_with fail
          refine Calls.mono HF.out ?_
          rintro r W4 ⟨b4, c4, rfl, at4, k4⟩
          have HP4 : Hid (Ps w W4 tb lim j (.slice a7 vs.length q7) vs) := HP3.out.on k4
          have HSM : Hid _ := same18 W4 b3 b4 T.length d3 c4 _ (HA3.out.on k4) at4 rfl hTn
          clear at4 k4 HP3 HA3 HF
          go_wp2_with fail
          refine Calls.mono HSM.out ?_
          rintro r W5 ⟨rfl, k5⟩
          have HP5 : Hid (Ps w W5 tb lim j (.slice a7 vs.length q7) vs) := HP4.out.on k5
          clear k5 HSM
          go_wp2_with fail
          go_roundw
          case rel => exact ⟨j + 1, vs, by simp, hjn, HP5.out.more⟩
          case measure => simp only [intOf]; omega
        · have hk2b : (kind == 2) = false := by simp [hk2]
          by_cases hk3 : kind = 3
          · subst hk3
            have HTT : Hid _ := HP2.out.top.total
            clear x1 x2 x3 x4 x5 x6 x7 x8 x9 x10 x11 x12 HB HBX ev v
            go_wp2_with fail
            refine Calls.mono HTT.out ?_
            rintro r W3 ⟨rfl, rfl⟩
            go_wp2_with fail
            go_roundw
            case rel => exact ⟨j + 1, vs, by simp, hjn, HP2.out.more⟩
            case measure => simp only [intOf]; omega
          · have hk3b : (kind == 3) = false := by simp [hk3]
            clear HB HBX ev v
            go_wp2_with fail
            go_roundw
            case rel => exact ⟨j + 1, vs, by simp, hjn, HP2.out.more⟩
            case measure => simp only [intOf]; omega
    · obtain rfl : n = j := by omega
      have hm2 : ¬ (n : Int) < (n : Int) := by omega
      obtain ⟨a7, q7, e7, -, -, -⟩ := hps.at
      subst e7
      have HTT : Hid _ := hps.top.total
      have HLS : Hid _ := hps.top.list
      obtain ⟨T, eT⟩ : ∃ T, T = (srt ltV vs).take lim := ⟨_, rfl⟩
      have hTn : T.length ≤ 4398046511104 := by rw [eT, List.length_take, srt_len]; omega
      have ET : Hid (T = (srt ltV vs).take lim) := eT
      rw [← eT] at HLS
      clear eT
      clear hps
      go_wp2_with fail
      refine Calls.mono HTT.out ?_
      rintro r W2 ⟨rfl, rfl⟩
      go_wp2_with fail
      refine Calls.mono HLS.out ?_
      rintro r W3 ⟨u3, rfl, o3, -, k3⟩
      have HP3 : Hid (Ps w W3 tb lim n (.slice a7 vs.length q7) vs) := HP.out.on k3
      obtain ⟨b3, d3, e3, -, -, -⟩ := o3.shape
      subst e3
      have HA3 : Hid (At vl1 12 W3 b3 T) := o3.at ekV
      obtain ⟨a8, q8, e8, at8, cp8, nl8⟩ := HP3.out.at
      cases e8
      have HF : Hid _ := rfirst18 at8 cp8 nl8 (by omega) lim
      rw [← show T = _ from ET.out] at HF
      clear o3 k3 HLS at8 cp8 nl8 HTT
      go_wp2_with fail
      refine Calls.mono HF.out ?_
      rintro r W4 ⟨b4, c4, rfl, at4, k4⟩
      have HP4 : Hid (Ps w W4 tb lim n (.slice a7 vs.length q7) vs) := HP3.out.on k4
      have HSM : Hid _ := same18 W4 b3 b4 T.length d3 c4 _ (HA3.out.on k4) at4 rfl hTn
      clear at4 k4 HP3 HA3 HF
      go_wp2_with fail
      refine Calls.mono HSM.out ?_
      rintro r W5 ⟨rfl, k5⟩
      have HK5 : Hid (Kept w W5) := HP4.out.top.kept.trans' k5
      clear k5 HSM
      go_wp2_with fail
      go_ret
      exact ⟨rfl, HK5.out⟩
end Go.Proofs.Yticahglmlfflbaa
