/- What is proved: SpansMemory answers true for every number, and all that was there stays as it was; no condition. -/
import Derived.Test.YtjcggelnmoembaaYAnch
namespace Go.Proofs.Ytjcggelnmoembaa
open Go.RowKit

def kk : ByteArray := ⟨#[107]⟩
def sq (i : Nat) : Sp := ⟨i, 100, i⟩
/-- The first n spans, as they were put in. -/
def AN (n : Nat) : List Ks := (List.range n).map fun i => ⟨kk, sq i⟩
theorem rput_last {A : List Ks} {x : Ks} (h : ∀ a ∈ A, sl x.s a.s = false) : rput A x = A ++ [x] := by
  induction A with
  | nil => rfl
  | cons a r ih =>
    show (if sl x.s a.s = true then x :: a :: r else a :: rput r x) = a :: (r ++ [x])
    rw [if_neg (by rw [h a (by simp)]; decide), ih fun b hb => h b (by simp [hb])]
theorem AN_put (n : Nat) : rput (AN n) ⟨kk, sq n⟩ = AN (n + 1) := by
  rw [rput_last fun a ha => ?_]
  · simp [AN, List.range_succ]
  · obtain ⟨i, hi, rfl⟩ := List.mem_map.1 ha
    have := List.mem_range.1 hi
    simp only [sl, sq, decide_eq_false_iff_not]
    omega
theorem AN_kf (n : Nat) : kf (AN n) kk = (List.range n).map sq := by
  unfold kf AN
  rw [List.filter_eq_self.2 (fun y hy => by obtain ⟨i, _, rfl⟩ := List.mem_map.1 hy; exact beq_iff_eq.2 rfl), List.map_map]
  rfl
theorem AN_ov {n : Nat} (hn : n ≤ 60) : ovK (AN n) kk 0 100 = (List.range n).map sq := by
  show (kf (AN n) kk).filter (ovl 0 100) = _
  rw [AN_kf, List.filter_eq_self.2 fun y hy => ?_]
  obtain ⟨i, hi, rfl⟩ := List.mem_map.1 hy
  have := List.mem_range.1 hi
  exact decide_eq_true ⟨show (i : Int) < 100 by omega, show (0 : Int) < 100 by omega⟩
theorem AN_code {n : Nat} (hn : n < 60) : codeI (AN n) kk (sq n) = 0 ∧ insI (AN n) kk (sq n) = AN (n + 1) := by
  have h1 : rightK kk = true := by decide
  have h2 : rightS (sq n) = true := by
    simp [rightS, sq]
    omega
  have h3 : sq n ∉ kf (AN n) kk := by
    rw [AN_kf]
    intro h
    obtain ⟨i, hi, he⟩ := List.mem_map.1 h
    have := List.mem_range.1 hi
    have h9 := congrArg Sp.f he
    simp only [sq] at h9
    omega
  have h4 : codeI (AN n) kk (sq n) = 0 := by
    unfold codeI
    rw [if_neg (by rw [h1]; decide), if_neg (by rw [h2]; decide), if_neg h3]
  exact ⟨h4, by unfold insI; rw [if_pos h4]; exact AN_put n⟩
theorem scs_sq {n i : Nat} (h : i < n) : (scs ((List.range n).map sq))[i * 3]? = some (.int .i64 (i : Int)) := by
  have h9 : ((List.range n).map sq)[i]? = some (sq i) := by
    rw [List.getElem?_map, List.getElem?_range h]
    rfl
  exact scs_get h9 0 (by omega)
theorem ro_some {w : World} {base : Nat} {e : TypeId} {sz : Nat} {v : Value} {n : Nat} {xs : List Value} (h : w.ownsRow base e sz v n xs) (hn : 0 < n) : ∃ g cap, v = .slice (some ⟨g, 0, none⟩) n cap ∧ base ≤ g ∧ g < w.heap.size := by
  rcases h.2 with ⟨_, h0⟩ | ⟨g, cap, cur, rfl, hb, hg, -⟩
  · omega
  · exact ⟨g, cap, rfl, hb, lt_of_heap hg⟩
theorem ro_cell {w : World} {base : Nat} {e : TypeId} {sz g n cap : Nat} {xs : List Value} (h : w.ownsRow base e sz (.slice (some ⟨g, 0, none⟩) n cap) n xs) {j : Nat} (hj : j < n * sz) : ∃ u, xs[j]? = some u ∧ w.cell? ⟨g, j, none⟩ = some u := by
  have h1 : j < xs.length := by rw [h.1]; exact hj
  exact ⟨_, List.getElem?_eq_getElem h1, (h.cellAt j hj).trans (List.getElem?_eq_getElem h1)⟩
theorem ro_kept {S : Nat → Prop} {base : Nat} {w w' : World} {e : TypeId} {sz : Nat} {v : Value} {n : Nat} {xs : List Value} (h : w.ownsRow base e sz v n xs) (hs : Same S w w') (hn : ∀ k, v.ownBlock = some k → ¬ S k) : w'.ownsRow base e sz v n xs := by
  refine ⟨h.1, ?_⟩
  rcases h.2 with h2 | ⟨g, cap, cur, rfl, hb, hg, h1, h2, h3, h4⟩
  · exact .inl h2
  · exact .inr ⟨g, cap, cur, rfl, hb, (hs.block g (lt_of_heap hg) (hn g (by simp [Value.ownBlock]))).trans hg, h1, h2, h3, h4⟩
theorem ro_put3 {w : World} {base : Nat} {e : TypeId} {sz g n cap : Nat} {xs : List Value} (h : w.ownsRow base e sz (.slice (some ⟨g, 0, none⟩) n cap) n xs) (o : Nat) (a b c : Value) :
    (((w.setCell ⟨g, o, none⟩ a).setCell ⟨g, o + 1, none⟩ b).setCell ⟨g, o + 2, none⟩ c).ownsRow base e sz (.slice (some ⟨g, 0, none⟩) n cap) n (((xs.set o a).set (o + 1) b).set (o + 2) c) :=
  (World.ownsRow.stored (World.ownsRow.stored (World.ownsRow.stored h o a).1 (o + 1) b).1 (o + 2) c).1
theorem sm_put3 {w : World} {g : Nat} (o : Nat) (a b c : Value) : Same (fun k => k = g) w (((w.setCell ⟨g, o, none⟩ a).setCell ⟨g, o + 1, none⟩ b).setCell ⟨g, o + 2, none⟩ c) :=
  Same.setCell (Same.setCell (Same.setCell (S := fun k => k = g) (Same.refl _ w) ⟨g, o, none⟩ (.inr rfl) a) ⟨g, o + 1, none⟩ (.inr rfl) b) ⟨g, o + 2, none⟩ (.inr rfl) c
abbrev two8 : List Value := [.int .i64 (-8), .int .i64 0, .int .i64 0, .int .i64 (-8), .int .i64 0, .int .i64 0]
theorem app_two8 {w : World} {base ga n cap : Nat} {xs : List Value} (hown : w.ownsRow base 28 3 (.slice (some ⟨ga, 0, none⟩) n cap) n xs) (hn : n ≤ 60) (hbase : base ≤ w.heap.size) (ty : TypeId) :
    ∃ v' w', (Builtin.append_ #[29, 29] ty #[.slice (some ⟨ga, 0, none⟩) n cap, .slice (some ⟨w.heap.size, 0, none⟩) 2 2]).run Try.prog (w.alloc (.cells #[.int .i64 (-8), .int .i64 0, .int .i64 0, .int .i64 (-8), .int .i64 0, .int .i64 0] 28 (0, 0))) = .ok v' w' ∧ ∃ g' c', v' = .slice (some ⟨g', 0, none⟩) (n + 2) c' ∧ w'.ownsRow base 28 3 v' (n + 2) (xs ++ two8) ∧ Same (fun k => k = ga) w w' ∧ (g' = ga ∨ w.heap.size ≤ g') := by
  have k0 : Kept w (w.alloc (.cells #[.int .i64 (-8), .int .i64 0, .int .i64 0, .int .i64 (-8), .int .i64 0, .int .i64 0] 28 (0, 0))) := (Same.refl _ w).alloc _
  obtain ⟨v', w', hr, r1, r2, r3, -⟩ := app_wide (P := Try.prog) (t := 29) (ty := ty) (c := 2) (m := 2) (a := ⟨w.heap.size, 0, none⟩) (news := two8) Try.underlying29 Try.infoSpan rfl (by decide) (ro_kept hown k0 fun _ _ e => e) rfl
    (fun j u hu => by
      rw [Addr.add_lit, Nat.zero_add, cell_of (heap_new w _)]
      simpa using hu) (fun u hu => by
      simp only [two8, List.mem_cons, List.not_mem_nil, or_false] at hu
      rcases hu with rfl | rfl | rfl | rfl | rfl | rfl <;> rfl) (by unfold maxLen; omega) (by omega) (by rw [World.size_alloc]; omega)
  obtain ⟨g', c', rfl, -, -⟩ := ro_some r1 (by omega)
  refine ⟨_, w', hr, g', c', rfl, r1, ((k0.to _).trans' r2).mono (fun k _ hk => ?_), ?_⟩
  · simp only [Value.ownBlock, Option.some.injEq] at hk
    exact hk.symm
  · rcases r3 g' rfl with h | h
    · simp only [Value.ownBlock, Option.some.injEq] at h
      exact .inl h.symm
    · rw [World.size_alloc] at h
      exact .inr (by omega)
theorem ptr_eql (w : World) (a : Addr) : (binOp .eql 23 (.pointer (some a)) (.pointer none)).run Try.prog w = .ok (.bool false) w := by go_simp
set_option maxRecDepth 100000 in
set_option maxHeartbeats 6400000 in
theorem memory_law (w : World) (n0 : Int) : Calls Try.prog 3 #[.int .i64 n0] w fun r w' => r = .returned (.bool true) ∧ Kept w w' := by
  have q := ptr_eql
  have HAN : Hid (∀ W, _) := anchor14
  have HNW : Hid (∀ W, _) := new14
  by_cases hno : n0 < 1 ∨ 60 < n0
  · go_enter Try.func3, Try.ntmps3
    go_wp2_with fail
    refine Calls.mono (HAN.out w) ?_
    rintro r w1 ⟨rfl, k1⟩
    have K1 : Hid _ := k1
    clear k1
    rcases (by omega : n0 < 1 ∨ (¬ n0 < 1 ∧ 60 < n0)) with h | ⟨h0, h⟩
    all_goals
      clear hno
      go_wp2_with fail
      go_ret
      exact ⟨rfl, K1.out⟩
  · obtain ⟨n, rfl⟩ : ∃ N : Nat, n0 = N := ⟨n0.toNat, by omega⟩
    have n1 : ¬ ((n : Int) < 1) := by omega
    have n2 : ¬ ((60 : Int) < (n : Int)) := by omega
    have hn1 : 1 ≤ n := by omega
    have hn2 : n ≤ 60 := by omega
    clear hno
    go_enter Try.func3, Try.ntmps3
    go_wp2_with fail
    refine Calls.mono (HAN.out w) ?_
    rintro r w1 ⟨rfl, k1⟩
    have K1 : Hid (Kept w w1) := k1
    clear k1 HAN
    go_wp2_with fail
    refine Calls.mono (HNW.out w1) ?_
    rintro r w2 ⟨fb, F0, rfl, f2, hF2, k2⟩
    have F2 : Hid (Fo F0 w2 fb (AN 0) 0) := f2
    have HF0 : Hid (∀ b, F0 b → w.heap.size ≤ b) := fun b hb => Nat.le_trans K1.out.size (hF2 b hb)
    have K2 : Hid (Kept w w2) := Same.trans' K1.out k2
    clear f2 hF2 k2 HNW
    go_wp2_with fail
    go_loopw [4] (fun iv wr => ∃ (j : Nat) (F : Nat → Prop), j ≤ n ∧ iv = .int .i64 (j : Int) ∧ Fo F wr fb (AN j) j ∧ (∀ b, F b → w.heap.size ≤ b) ∧ Kept w wr) (fun iv _ => n - (intOf iv).toNat)
    case atStart => exact ⟨0, F0, Nat.zero_le _, rfl, F2.out, HF0.out, K2.out⟩
    case round =>
      obtain ⟨j, F, hj, rfl, fj, hF, kj⟩ := hrel
      have FJ : Hid (Fo F wr fb (AN j) j) := fj
      have HF : Hid (∀ b, F b → w.heap.size ≤ b) := hF
      have KJ : Hid (Kept w wr) := kj
      clear fj hF kj
      by_cases hlt : j < n
      · have c1 : decide ((j : Int) < (n : Int)) = true := by simp only [decide_eq_true_eq]; omega
        have hlt2 : (j : Int) < (n : Int) := by omega
        obtain ⟨hc1, hc2⟩ := AN_code (n := j) (by omega)
        have HI : Hid _ := insert14 FJ.out kk (by decide) (sq j) (by omega)
        rw [hc1, hc2] at HI
        unfold kk spV sq at HI
        clear hc1 hc2
        go_wp2_with fail
        refine Calls.mono HI.out ?_
        rintro r w3 ⟨rfl, F', f3, hF3, s3⟩
        have F3 : Hid (Fo F' w3 fb (AN (j + 1)) (j + 1)) := f3
        have HF3 : Hid (∀ b, F' b → w.heap.size ≤ b) := fun b hb => by
          rcases hF3 b hb with h | h
          · exact HF.out b h
          · exact Nat.le_trans (Same.size KJ.out) h
        have K3 : Hid (Kept w w3) := Same.trans KJ.out s3 fun i hi e => by have := HF.out i e; omega
        clear f3 hF3 s3 HI
        go_wp2_with fail
        go_roundw
        case rel => exact ⟨j + 1, F', by omega, by first | rfl | simp, F3.out, HF3.out, K3.out⟩
        case measure => simp only [intOf]; omega
      · have c1 : decide ((j : Int) < (n : Int)) = false := by simp only [decide_eq_false_iff_not]; omega
        obtain rfl : n = j := by omega
        rename World => w4
        have HOV : Hid (∀ W, Kept w4 W → Calls Try.prog 7 #[.pointer (some ⟨fb, 0, none⟩), .string ⟨#[107]⟩, .int .i64 0, .int .i64 100] W fun r w' => ∃ v, r = .returned v ∧ w'.ownsRow W.heap.size 28 3 v n (scs ((List.range n).map sq)) ∧ Kept W w') := fun W kW => by
          have h9 := overlap14 (Fo.on FJ.out kW) kk (by decide) 0 100 (by omega)
          rw [AN_ov hn2] at h9
          refine Calls.mono h9 ?_
          rintro r w' ⟨v, h1, h2, h3⟩
          rw [OwnSp, List.length_map, List.length_range] at h2
          exact ⟨v, h1, h2, h3⟩
        have HFL : Hid (∀ b, F b → b < w4.heap.size) := Fo.lt FJ.out
        clear c1 hlt hj
        go_wp2_with fail
        refine Calls.mono (HOV.out w4 (Same.refl _ _)) ?_
        rintro r w5 ⟨v5, rfl, o5, k5⟩
        obtain ⟨ga, ca, rfl, ha1, ha2⟩ := ro_some o5 (by omega)
        have O5 : Hid (w5.ownsRow w4.heap.size 28 3 (.slice (some ⟨ga, 0, none⟩) n ca) n (scs ((List.range n).map sq))) := o5
        have K5 : Hid (Kept w4 w5) := k5
        clear o5 k5
        go_wp2_with fail
        refine Calls.mono (HOV.out w5 K5.out) ?_
        rintro r w6 ⟨v6, rfl, o6, k6⟩
        obtain ⟨gb, cb, rfl, hb1, hb2⟩ := ro_some o6 (by omega)
        have O6 : Hid (w6.ownsRow w5.heap.size 28 3 (.slice (some ⟨gb, 0, none⟩) n cb) n (scs ((List.range n).map sq))) := o6
        have K6 : Hid (Kept w5 w6) := k6
        have K46 : Hid (Kept w4 w6) := Same.trans' K5.out k6
        have A6 : Hid (w6.ownsRow w4.heap.size 28 3 (.slice (some ⟨ga, 0, none⟩) n ca) n (scs ((List.range n).map sq))) := ro_kept O5.out k6 fun _ _ e => e
        clear o6 k6
        have z46 : w4.heap.size ≤ w6.heap.size := Same.size K46.out
        have z56 : w5.heap.size ≤ w6.heap.size := Same.size K6.out
        have zw4 : w.heap.size ≤ w4.heap.size := Same.size KJ.out
        go_wp2_with fail
        go_loopw [49] (fun i wx => ∃ (q : Nat) (xs : List Value), q ≤ n ∧ i = .int .i64 (q : Int) ∧ wx.ownsRow w4.heap.size 28 3 (.slice (some ⟨ga, 0, none⟩) n ca) n xs ∧ (∀ i, i < q → xs[i * 3]? = some (.int .i64 (-7))) ∧ Same (fun b => b = ga) w6 wx) (fun i _ => n - (intOf i).toNat)
        case atStart => exact ⟨0, _, Nat.zero_le _, rfl, A6.out, fun i hi => by omega, Same.refl _ _⟩
        case round =>
          rename World => wx
          obtain ⟨q, xs, hq, rfl, oa, hx, ss⟩ := hrel
          have OX : Hid (wx.ownsRow w4.heap.size 28 3 (.slice (some ⟨ga, 0, none⟩) n ca) n xs) := oa
          have HX : Hid (∀ i, i < q → xs[i * 3]? = some (.int .i64 (-7))) := hx
          have SS : Hid (Same (fun b => b = ga) w6 wx) := ss
          have hgx : ga < wx.heap.size := Nat.lt_of_lt_of_le (by omega) ss.size
          clear oa hx ss
          by_cases hlq : q < n
          · have c2 : decide ((q : Int) < (n : Int)) = true := by simp only [decide_eq_true_eq]; omega
            have c3 : (q : Int) < (n : Int) := by omega
            obtain ⟨u0, -, m0⟩ := ro_cell OX.out (j := q * 3) (by omega)
            obtain ⟨u1, -, m1⟩ := ro_cell OX.out (j := q * 3 + 1) (by omega)
            obtain ⟨u2, -, m2⟩ := ro_cell OX.out (j := q * 3 + 2) (by omega)
            have f0 : wx.frozen? ⟨ga, q * 3, none⟩ = false := OX.out.frozenAt (q * 3)
            have f1 : wx.frozen? ⟨ga, q * 3 + 1, none⟩ = false := OX.out.frozenAt (q * 3 + 1)
            have f2 : wx.frozen? ⟨ga, q * 3 + 2, none⟩ = false := OX.out.frozenAt (q * 3 + 2)
            have NX : Hid _ := ro_put3 OX.out (q * 3) (.int .i64 (-7)) (.int .i64 0) (.int .i64 0)
            have NS : Hid _ := sm_put3 (w := wx) (g := ga) (q * 3) (.int .i64 (-7)) (.int .i64 0) (.int .i64 0)
            have NH : Hid (∀ i, i < q + 1 → (((xs.set (q * 3) (.int .i64 (-7))).set (q * 3 + 1) (.int .i64 0)).set (q * 3 + 2) (.int .i64 0))[i * 3]? = some (.int .i64 (-7))) := fun i hi => by
              rw [List.getElem?_set_ne (by omega), List.getElem?_set_ne (by omega)]
              by_cases hiq : i = q
              · subst hiq
                exact List.getElem?_set_self (by rw [OX.out.1]; omega)
              · rw [List.getElem?_set_ne (by omega)]
                exact HX.out i (by omega)
            go_wp2_with fail
            go_roundw
            case rel => exact ⟨q + 1, _, by omega, by simp, NX.out, NH.out, Same.trans' SS.out NS.out⟩
            case measure => simp only [intOf]; omega
          · have c2 : decide ((q : Int) < (n : Int)) = false := by simp only [decide_eq_false_iff_not]; omega
            obtain rfl : n = q := by omega
            have zx : w6.heap.size ≤ wx.heap.size := Same.size SS.out
            have HAP : Hid (∀ ty, ∃ v' w', (Builtin.append_ #[29, 29] ty #[.slice (some ⟨ga, 0, none⟩) n ca, .slice (some ⟨wx.heap.size, 0, none⟩) 2 2]).run Try.prog (wx.alloc (.cells #[.int .i64 (-8), .int .i64 0, .int .i64 0, .int .i64 (-8), .int .i64 0, .int .i64 0] 28 (0, 0))) = .ok v' w' ∧ ∃ g' c', v' = .slice (some ⟨g', 0, none⟩) (n + 2) c' ∧ w'.ownsRow w4.heap.size 28 3 v' (n + 2) (xs ++ two8) ∧ Same (fun k => k = ga) wx w' ∧ (g' = ga ∨ wx.heap.size ≤ g')) := fun ty => app_two8 OX.out hn2 (by omega) ty
            go_upto_region 22 with (at_builtin; refine wpList_app rfl (.tmp 57) (.tmp 60) 29 rfl _ _ rfl rfl _ HAP.out ?_; rintro v7 w7 ⟨gc, cc, rfl, o7, s7, n7⟩)
            have O7 : Hid (w7.ownsRow w4.heap.size 28 3 (.slice (some ⟨gc, 0, none⟩) (n + 2) cc) (n + 2) (xs ++ two8)) := o7
            have S67 : Hid (Same (fun b => b = ga) w6 w7) := Same.trans' SS.out s7
            have XL : Hid (xs.length = n * 3) := OX.out.1
            have HX7 : Hid (∀ i, i < n → xs[i * 3]? = some (.int .i64 (-7))) := HX.out
            have K47 : Hid (Kept w4 w7) := Same.trans K46.out S67.out fun i hi e => by omega
            have hgc : gc < w7.heap.size := by
              obtain ⟨g', c', e9, -, h9⟩ := ro_some o7 (by omega)
              cases e9
              exact h9
            have hgcb : gc ≠ gb := by rcases n7 with h | h <;> omega
            have B7 : Hid (w7.ownsRow w5.heap.size 28 3 (.slice (some ⟨gb, 0, none⟩) n cb) n (scs ((List.range n).map sq))) := ro_kept O6.out S67.out fun k hk e => by
              simp only [Value.ownBlock, Option.some.injEq] at hk
              omega
            clear o7 s7 n7 HAP OX SS HX O6 A6 O5
            go_wp2_with fail
            refine Calls.mono (HOV.out w7 K47.out) ?_
            rintro r w8 ⟨v8, rfl, o8, k8⟩
            obtain ⟨gd, cd, rfl, hd1, hd2⟩ := ro_some o8 (by omega)
            have D8 : Hid (w8.ownsRow w7.heap.size 28 3 (.slice (some ⟨gd, 0, none⟩) n cd) n (scs ((List.range n).map sq))) := o8
            have B8 : Hid (w8.ownsRow w5.heap.size 28 3 (.slice (some ⟨gb, 0, none⟩) n cb) n (scs ((List.range n).map sq))) := ro_kept B7.out k8 fun _ _ e => e
            have C8 : Hid (w8.ownsRow w4.heap.size 28 3 (.slice (some ⟨gc, 0, none⟩) (n + 2) cc) (n + 2) (xs ++ two8)) := ro_kept O7.out k8 fun _ _ e => e
            have K48 : Hid (Kept w4 w8) := Same.trans' K47.out k8
            have z8 : w7.heap.size ≤ w8.heap.size := Same.size k8
            have z67 : w6.heap.size ≤ w7.heap.size := Same.size S67.out
            have hgb8 : gb < w8.heap.size := by omega
            have hgc8 : gc < w8.heap.size := by omega
            have cn : w8.cell? ⟨gc, n * 3, none⟩ = some (.int .i64 (-8)) := by
              rw [C8.out.cellAt (n * 3) (by omega), List.getElem?_append_right (by rw [show xs.length = n * 3 from XL.out]; exact Nat.le_refl _), show n * 3 - xs.length = 0 by rw [show xs.length = n * 3 from XL.out]; omega]
              rfl
            have HCL : Hid (∀ i, i < n → w8.cell? ⟨gb, i * 3, none⟩ = some (.int .i64 (i : Int)) ∧ w8.cell? ⟨gd, i * 3, none⟩ = some (.int .i64 (i : Int)) ∧ w8.cell? ⟨gc, i * 3, none⟩ = some (.int .i64 (-7))) := fun i hi => ⟨(B8.out.cellAt (i * 3) (by omega)).trans (scs_sq hi), (D8.out.cellAt (i * 3) (by omega)).trans (scs_sq hi), by
              rw [C8.out.cellAt (i * 3) (by omega), List.getElem?_append_left (by rw [show xs.length = n * 3 from XL.out]; omega)]
              exact HX7.out i hi⟩
            have HCT : Hid _ := count14 (Fo.on FJ.out K48.out)
            rw [show (AN n).length = n by simp [AN]] at HCT
            have i3 : ((n : Int) != (n : Int)) = false := by simp
            clear o8 k8 D8 B8 C8 B7 O7
            go_wp2_with fail
            go_loopw [70] (fun i wy => ∃ (q : Nat), q ≤ n ∧ i = .int .i64 (q : Int) ∧ wy = w8) (fun i _ => n - (intOf i).toNat)
            case atStart => exact ⟨0, Nat.zero_le _, rfl, rfl⟩
            case round =>
              obtain ⟨q, hq, rfl, ey⟩ := hrel
              subst ey
              by_cases hlq : q < n
              · have c2 : decide ((q : Int) < (n : Int)) = true := by simp only [decide_eq_true_eq]; omega
                have c3 : (q : Int) < (n : Int) := by omega
                have c4 : (q : Int) < ((n + 2 : Nat) : Int) := by omega
                obtain ⟨p1, p2, p3⟩ := HCL.out q hlq
                have i4 : ((q : Int) != (q : Int)) = false := by simp
                go_wp2_with fail
                go_roundw
                case rel => exact ⟨q + 1, by omega, by first | rfl | simp, by first | rfl | trivial⟩
                case measure => simp only [intOf]; omega
              · have c2 : decide ((q : Int) < (n : Int)) = false := by simp only [decide_eq_false_iff_not]; omega
                obtain rfl : n = q := by omega
                have c4 : (n : Int) < ((n + 2 : Nat) : Int) := by omega
                go_wp2_with fail
                refine Calls.mono HCT.out ?_
                rintro r w9 ⟨rfl, e9⟩
                subst e9
                have K9 : Hid (Kept w w9) := Same.trans' KJ.out K48.out
                go_wp2_with fail
                go_ret
                exact ⟨by simp, K9.out⟩
end Go.Proofs.Ytjcggelnmoembaa
