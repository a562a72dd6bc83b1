/- What is proved: the law ViolMemory answers true; in any program with this text, its list lies in memory. -/
import Derived.Test.YtnfkjblhnpnaeaaVMm
import Derived.Deep.DeepFit
import Derived.Deep.WholeRow
namespace Go.Proofs.Ytnfkjblhnpnaeaa
open Go.RowKit

/-- A mark. -/
def mkV (n : Int) : Vl := ⟨n, 0, 0, 0, 0, ByteArray.empty, false, ByteArray.empty, false, ByteArray.empty, 0, 0⟩
/-- What the law asks of a program. -/
structure Am (P : Program) (k : Nat) (enc : Vl → List Value) : Prop where
  mixed : P.follows .mixedOrders = true
  E : Ek enc k
  kd : ∀ x : Vl, (enc x)[0]? = some (.int .i64 x.kd)
  fM : P.funcs[8]? = some Try.f8
  eA : ∀ (args : Array Value) (w : World), Sem.run P (callFunc 9 args) w = .ok (.enter 9 args) w
  eN : ∀ (args : Array Value) (w : World), Sem.run P (callFunc 10 args) w = .ok (.enter 10 args) w
  eP : ∀ (args : Array Value) (w : World), Sem.run P (callFunc 11 args) w = .ok (.enter 11 args) w
  eS : ∀ (args : Array Value) (w : World), Sem.run P (callFunc 18 args) w = .ok (.enter 18 args) w
  eL : ∀ (args : Array Value) (w : World), Sem.run P (callFunc 14 args) w = .ok (.enter 14 args) w
  eT : ∀ (args : Array Value) (w : World), Sem.run P (callFunc 16 args) w = .ok (.enter 16 args) w
  eR : ∀ (args : Array Value) (w : World), Sem.run P (callFunc 19 args) w = .ok (.enter 19 args) w
  eM : ∀ (args : Array Value) (w : World), Sem.run P (callFunc 13 args) w = .ok (.enter 13 args) w
  anc : ∀ W, Calls P 9 #[] W fun e w' => e = .returned (.bool true) ∧ Kept W w'
  new : ∀ W : World, Calls P 10 #[.int .i64 10000] W fun e w' => e = .returned (.tuple #[.pointer (some ⟨W.heap.size, 0, none⟩), .int .i64 0]) ∧ w' = W.alloc (tpO 10000 0 (.slice none 0 0))
  put : ∀ (w W : World) (tb : Nat) (vs : List Vl) (x : Vl), TpN w W tb 10000 vs → okV x = true → vs.length + 1 ≤ 4398046511104 → Calls P 11 #[.pointer (some ⟨tb, 0, none⟩), .agg (enc x).toArray] W fun e w' => e = .returned (.int .i64 0) ∧ TpN w w' tb 10000 (vs ++ [x]) ∧ (∀ base u l, Own enc k 30 base W u l → Own enc k 30 base w' u l) ∧ W.heap.size ≤ w'.heap.size ∧ ∀ (b : Nat) (cs : Array Value) (ty : TypeId), ty ≠ 52 → ty ≠ 55 → W.heap[b]? = some (Obj.cells cs ty (0, 0)) → w'.heap[b]? = some (Obj.cells cs ty (0, 0))
  pno : ∀ (w W : World) (tb : Nat) (vs : List Vl) (x : Vl), TpN w W tb 10000 vs → okV x = false → Calls P 11 #[.pointer (some ⟨tb, 0, none⟩), .agg (enc x).toArray] W fun e w' => e = .returned (.int .i64 181) ∧ Kept W w'
  lst : ∀ (w W : World) (tb : Nat) (vs : List Vl), TpN w W tb 10000 vs → Calls P 14 #[.pointer (some ⟨tb, 0, none⟩)] W fun e w' => ∃ u, e = .returned u ∧ Own enc k 30 W.heap.size w' u ((srt ltV vs).take 10000) ∧ TpN w w' tb 10000 vs ∧ Kept W w'
  tot : ∀ (w W : World) (tb : Nat) (vs : List Vl), TpN w W tb 10000 vs → Calls P 16 #[.pointer (some ⟨tb, 0, none⟩)] W fun e w' => e = .returned (.int .i64 (vs.length : Int)) ∧ w' = W
  sor : ∀ (W : World) (a : Option Addr) (cap : Nat) (l : List Vl), At enc k W a l → (a = none → l.length = 0 ∧ cap = 0) → l.length ≤ 1172812402961 → Calls P 18 #[.slice a l.length cap] W fun e w' => ∃ v, e = .returned v ∧ Own enc k 30 W.heap.size w' v (srt ltV l) ∧ Kept W w'
  rso : ∀ (W : World) (a : Option Addr) (cap : Nat) (l : List Vl), At enc k W a l → l.length ≤ cap → (a = none → l.length = 0 ∧ cap = 0) → l.length ≤ 1172812402961 → Calls P 19 #[.slice a l.length cap] W fun e w' => ∃ v, e = .returned v ∧ Own enc k 30 W.heap.size w' v (srt ltV l) ∧ Kept W w'
  sam : ∀ (W : World) (a b : Option Addr) (n c d : Nat) (l : List Vl), At enc k W a l → At enc k W b l → n = l.length → n ≤ 4398046511104 → Calls P 13 #[.slice a n c, .slice b n d] W fun e w' => e = .returned (.bool true) ∧ Kept W w'
  t3 : P.underlying 3 = some (TypeDesc.int IntKind.i64)
  t4 : P.underlying 4 = some TypeDesc.bool
  t24 : P.underlying 24 = some (TypeDesc.pointer 52)
  t25 : P.underlying 25 = some (TypeDesc.int IntKind.i64)
  t28 : P.underlying 28 = some (TypeDesc.slice 30)
  t30 : P.underlying 30 = Try.prog.underlying 30
  t48 : P.underlying 48 = some (TypeDesc.slice 28)
  a3 : ∀ w, Sem.run P (isAgg 3) w = .ok false w
  a4 : ∀ w, Sem.run P (isAgg 4) w = .ok false w
  a24 : ∀ w, Sem.run P (isAgg 24) w = .ok false w
  a25 : ∀ w, Sem.run P (isAgg 25) w = .ok false w
  a28 : ∀ w, Sem.run P (isAgg 28) w = .ok false w
  a30 : ∀ w, Sem.run P (isAgg 30) w = .ok true w
  a48 : ∀ w, Sem.run P (isAgg 48) w = .ok false w
  z3 : ∀ w, Sem.run P (Go.sizeOf 3) w = .ok 1 w
  z4 : ∀ w, Sem.run P (Go.sizeOf 4) w = .ok 1 w
  z9 : ∀ w, Sem.run P (Go.sizeOf 9) w = .ok 1 w
  z24 : ∀ w, Sem.run P (Go.sizeOf 24) w = .ok 1 w
  z25 : ∀ w, Sem.run P (Go.sizeOf 25) w = .ok 1 w
  z28 : ∀ w, Sem.run P (Go.sizeOf 28) w = .ok 1 w
  z30 : ∀ w, Sem.run P (Go.sizeOf 30) w = .ok k w
  z48 : ∀ w, Sem.run P (Go.sizeOf 48) w = .ok 1 w
  v28 : ∀ w, Sem.run P (zeroValue 28) w = .ok (.slice none 0 0) w
  v30 : ∃ zl : List Value, zl.length = k ∧ (∀ w, Sem.run P (zeroValue 30) w = .ok (.agg zl.toArray) w) ∧ ∀ n : Int, zl.set 0 (.int .i64 n) = enc (mkV n)
  hk : k ≤ 16777216
  i30 : ∃ z bytes, (P.info? 30).map (fun i => (i.zero, i.size, i.bytes)) = some (some z, k, bytes) ∧ z.cells.size = k ∧ bytes ≤ 120
set_option maxRecDepth 100000 in
set_option maxHeartbeats 6400000 in
theorem memory_p {P : Program} {k : Nat} {enc : Vl → List Value} (AM : Am P k enc) (w : World) (a : Option Addr) (cap : Nat) (l : List Vl) (h : At enc k w a l) (hcap : l.length ≤ cap) (hnil : a = none → l.length = 0 ∧ cap = 0) (hl : l.length ≤ 100) (hl1 : 1 ≤ l.length) :
    Calls P 8 #[.slice a l.length cap] w fun e w' => e = .returned (.bool true) ∧ Kept w w' := by
  obtain ⟨mixed, E, kd, fM, eA, eN, eP, eS, eL, eT, eR, eM, anc, new, put, pno, lst, tot, sor, rso, sam, t3, t4, t24, t25, t28, t30, t48, a3, a4, a24, a25, a28, a30, a48, z3, z4, z9, z24, z25, z28, z30, z48, v28, ⟨zl, hzl, v30, bld⟩, hkm, zz, bytes, i30, hzs, hby⟩ := AM
  rw [Try.underlying30] at t30
  have u28 := run_underlying t28
  have u30 := run_underlying t30
  have u48 := run_underlying t48
  have EE : Hid (Ek enc k) := E
  have KD : Hid (∀ x : Vl, (enc x)[0]? = some (.int .i64 x.kd)) := kd
  have HI30 : Hid ((P.info? 30).map (·.size) = some k) := by
    obtain ⟨i0, hi0, -, hz1, -⟩ := info_parts i30
    have : (P.info? 30).map (·.size) = some k := by rw [hi0]; simpa using hz1
    exact this
  have BLD : Hid (∀ n : Int, zl.set 0 (.int .i64 n) = enc (mkV n)) := bld
  have hz0 : 0 < zl.length := by rw [hzl]; exact E.pos
  have hz1 : ¬ zl.length = 0 := by omega
  have hz2 : ¬ zl = [] := fun e => hz1 (by rw [e]; rfl)
  have hk0 : ¬ k = 0 := by have := E.pos; omega
  have hkm' : ¬ 16777216 < k := by omega
  have HAN : Hid (∀ W, _) := anc
  have HNE : Hid (∀ W : World, _) := new
  have HPU : Hid (∀ (w W : World) (tb : Nat) (vs : List Vl) (x : Vl), TpN w W tb 10000 vs → okV x = true → vs.length + 1 ≤ 4398046511104 → _) := put
  have HPN : Hid (∀ (w W : World) (tb : Nat) (vs : List Vl) (x : Vl), TpN w W tb 10000 vs → okV x = false → _) := pno
  have HLS : Hid (∀ (w W : World) (tb : Nat) (vs : List Vl), TpN w W tb 10000 vs → _) := lst
  have HTO : Hid (∀ (w W : World) (tb : Nat) (vs : List Vl), TpN w W tb 10000 vs → _) := tot
  have HSO : Hid (∀ (W : World) (a : Option Addr) (cap : Nat) (l : List Vl), At enc k W a l → (a = none → l.length = 0 ∧ cap = 0) → l.length ≤ 1172812402961 → _) := sor
  have HRO : Hid (∀ (W : World) (a : Option Addr) (cap : Nat) (l : List Vl), At enc k W a l → l.length ≤ cap → (a = none → l.length = 0 ∧ cap = 0) → l.length ≤ 1172812402961 → _) := rso
  have HSA : Hid (∀ (W : World) (a b : Option Addr) (n c d : Nat) (l : List Vl), At enc k W a l → At enc k W b l → n = l.length → n ≤ 4398046511104 → _) := sam
  have HT0 : Hid (∀ W, Kept w W → TpN w (W.alloc (tpO 10000 0 (.slice none 0 0))) W.heap.size 10000 []) := fun W k => TpN.new k (by decide)
  have HAP : Hid (∀ (W : World) (base : Nat) (v : Value) (xs : List Vl) (g : Nat) (y : Vl) (c : Nat), Own enc k 30 base W v xs → W.heap[g]? = some (.cells (enc y).toArray 30 (0, 0)) → xs.length ≤ 1000 → base ≤ W.heap.size → ∀ ty, _) := fun W base v xs g y c h1 h2 h3 h4 ty => Own.app1 (ty := ty) (c := c) E t28 i30 hzs h1 h2 (by have : ((xs.length + 1) + (xs.length + 1) / 4 + 192) * bytes ≤ 2000 * 120 := Nat.mul_le_mul (by omega) hby; omega) (by unfold maxLen; omega) h4
  have HCO : Hid (∀ W, Kept w W → ∀ ty, _) := fun W (k' : Kept w W) ty => copy_own (c := cap) E t28 i30 hzs (h.on k') hnil (by have : (l.length + l.length / 4 + 192) * bytes ≤ 2000 * 120 := Nat.mul_le_mul (by omega) hby; omega) (by unfold maxLen; omega) ty
  have HL : Hid (At enc k w a l) := h
  have HNI : Hid (l.length ≤ cap ∧ (a = none → l.length = 0 ∧ cap = 0)) := ⟨hcap, hnil⟩
  obtain ⟨n, en⟩ : ∃ n, n = l.length := ⟨_, rfl⟩
  rw [← en] at hl hl1 hcap HCO ⊢
  have EN : Hid (n = l.length) := en
  have d1 : decide ((n : Int) < 1) = false := decide_eq_false (by omega)
  have d1' : ¬ (n : Int) < 1 := by omega
  have d2 : decide ((n : Int) > 100) = false := decide_eq_false (by omega)
  have d2' : ¬ (100 : Int) < (n : Int) := by omega
  clear anc new put pno lst tot sor rso sam bld h hnil en E kd
  go_enter fM, Try.ntmps8
  go_wp2_with fail
  refine Calls.mono (HAN.out _) ?_
  rintro r w1 ⟨rfl, k1⟩
  have K1 : Hid (Kept w w1) := k1
  have HT1 : Hid _ := HT0.out w1 k1
  have HN1 : Hid _ := HNE.out w1
  clear k1 HAN HNE HT0
  go_wp2_with fail
  refine Calls.mono HN1.out ?_
  rintro r w2 ⟨rfl, rfl⟩
  clear HN1
  generalize w1.alloc (tpO 10000 0 (.slice none 0 0)) = w2 at HT1 ⊢
  generalize w1.heap.size = tb at HT1 ⊢
  clear K1
  go_wp2_with fail
  go_loopw [46, 5] (fun i u wr => ∃ j : Nat, i = .int .i64 j ∧ j ≤ n ∧ TpN w wr tb 10000 ((l.take j).filter okV) ∧ Own enc k 30 w.heap.size wr u ((l.take j).filter okV)) (fun i _ _ => n - (intOf i).toNat)
  case atStart => exact ⟨0, rfl, Nat.zero_le _, HT1.out, Own.nil _ _ _ _ _⟩
  case round =>
    obtain ⟨j, rfl, hj, tj, oj⟩ := hrel
    rename World => WL
    have HJ : Hid (TpN w WL tb 10000 ((l.take j).filter okV) ∧ Own enc k 30 w.heap.size WL u5 ((l.take j).filter okV)) := ⟨tj, oj⟩
    clear tj oj HT1
    by_cases hlt : j < n
    · have e1 : decide ((j : Int) < (n : Int)) = true := decide_eq_true (by omega)
      have e1' : (j : Int) < (n : Int) := by omega
      have hj1 : (j : Int) + 1 ≤ 9223372036854775807 := by omega
      obtain ⟨x, hx⟩ : ∃ x, l[j]? = some x := ⟨_, List.getElem?_eq_getElem (by rw [← show n = _ from EN.out]; exact hlt)⟩
      have HX : Hid (((l.take (j + 1)).filter okV) = ((l.take j).filter okV) ++ if okV x then [x] else []) := by
        show _ = _
        rw [List.take_add_one, hx, List.filter_append]
        congr 1
        cases hh : okV x <;> simp [hh]
      have HLE : Hid (((l.take j).filter okV).length ≤ 1000) := Nat.le_trans (List.length_filter_le _ _) (by rw [List.length_take]; omega)
      obtain ⟨ba, oa, rfl, hba, -⟩ := HL.out j x hx
      have lx := (HL.out.on HJ.out.1.kept).load0 EE.out hx P
      have hbL : ba < WL.heap.size := Nat.lt_of_lt_of_le hba HJ.out.1.kept.size
      obtain ⟨cx, ecx⟩ : ∃ cx, cx = enc x := ⟨_, rfl⟩
      have ECX : Hid (cx = enc x) := ecx
      have hcxk : cx.length = k := by rw [ecx]; exact EE.out.len x
      rw [← ecx] at lx
      have HNW : Hid ((WL.alloc (.cells cx.toArray 30)).heap[WL.heap.size]? = some (.cells cx.toArray 30 (0, 0))) := heap_new _ _
      have KB : Hid (Kept WL (WL.alloc (.cells cx.toArray 30))) := (Same.refl _ WL).alloc _
      have hst : (storeCells ⟨WL.heap.size, 0, none⟩ cx).run P (WL.alloc (.cells zl.toArray 30)) = .ok () (WL.alloc (.cells cx.toArray 30)) := by
        have := run_storeCells_new (P := P) WL 30 zl.toArray cx.toArray (by rw [HI30.out]; simp [hcxk]) (by simp [hcxk, hzl]) (by
          rw [List.all_toArray, List.all_eq_true, ecx]
          exact fun v hv => EE.out.one x v hv)
        simpa using this
      clear hx ecx hba
      go_upto_region 12 with fail
      generalize WL.alloc (.cells cx.toArray 30) = W4 at HNW KB ⊢
      generalize WL.heap.size = gx at HNW hbL ⊢
      clear lx hst hbL
      have H4 : Hid (TpN w W4 tb 10000 ((l.take j).filter okV) ∧ Own enc k 30 w.heap.size W4 u5 ((l.take j).filter okV)) := ⟨HJ.out.1.on KB.out, HJ.out.2.on KB.out⟩
      have hgx : gx < W4.heap.size := lt_of_heap HNW.out
      have lbx : Sem.run P (loadCellsFrom ⟨gx, 0, none⟩ 0 k #[]) W4 = .ok cx.toArray W4 := by
        have := At.load0 EE.out (vrow_p (enc := enc) (k := k) (x := x) (by rw [← show cx = _ from ECX.out]; exact HNW.out)) (i := 0) rfl P
        rw [← show cx = _ from ECX.out] at this
        simpa using this
      clear HJ KB
      cases hok : okV x
      · have HP := HPN.out w W4 tb _ x H4.out.1 hok
        rw [← show cx = _ from ECX.out] at HP
        rw [hok] at HX
        clear hok
        go_wp2_with fail
        refine Calls.mono HP ?_
        rintro r W5 ⟨rfl, k5⟩
        have K5 : Hid (Kept W4 W5) := k5
        clear HP k5 lbx hgx
        go_wp2_with fail
        go_roundw
        case rel => exact ⟨j + 1, by simp, hlt, by rw [HX.out]; simpa using H4.out.1.on K5.out, by rw [HX.out]; simpa using H4.out.2.on K5.out⟩
        case measure => simp only [intOf]; omega
      · have HP := HPU.out w W4 tb _ x H4.out.1 hok (Nat.le_trans (Nat.succ_le_succ HLE.out) (by decide))
        rw [← show cx = _ from ECX.out] at HP
        rw [hok] at HX
        clear hok
        go_wp2_with fail
        refine Calls.mono HP ?_
        rintro r W5 ⟨rfl, t5, o5, s5, f5⟩
        have HB5 : Hid (W5.heap[gx]? = some (.cells cx.toArray 30 (0, 0))) := f5 gx _ _ (by decide) (by decide) HNW.out
        have H5 : Hid (TpN w W5 tb 10000 ((l.take j).filter okV ++ [x]) ∧ Own enc k 30 w.heap.size W5 u5 ((l.take j).filter okV)) := ⟨t5, o5 _ _ _ H4.out.2⟩
        clear HP t5 o5 s5 f5 lbx hgx HNW H4
        have hgx : gx < W5.heap.size := lt_of_heap HB5.out
        have lbx : Sem.run P (loadCellsFrom ⟨gx, 0, none⟩ 0 k #[]) W5 = .ok cx.toArray W5 := by
          have := At.load0 EE.out (vrow_p (enc := enc) (k := k) (x := x) (by rw [← show cx = _ from ECX.out]; exact HB5.out)) (i := 0) rfl P
          rw [← show cx = _ from ECX.out] at this
          simpa using this
        have hfx := fun (A : Array Value) (h : A.size = k) => fold_all cx A (h.trans hcxk.symm)
        have KA : Hid (Kept W5 (W5.alloc (.cells cx.toArray 30))) := (Same.refl _ W5).alloc _
        have HA : Hid _ := HAP.out (W5.alloc (.cells cx.toArray 30)) w.heap.size u5 _ W5.heap.size x 1 (H5.out.2.on KA.out) (by rw [← show cx = _ from ECX.out]; exact heap_new _ _) HLE.out (Nat.le_trans H5.out.1.kept.size KA.out.size)
        go_wp2_with (at_builtin; refine wpList_app rfl (.tmp 54) (.tmp 56) 28 rfl u5 (.slice (some ⟨W5.heap.size, 0, none⟩) 1 1) rfl rfl _ HA.out ?_; rintro v6 W6 ⟨o6, s6, b6, -⟩; have R : Hid _ := And.intro o6 s6; clear o6 s6 b6)
        go_roundw
        case rel => exact ⟨j + 1, by simp, hlt, by rw [HX.out]; exact (H5.out.1.on KA.out).appE (H5.out.2.on KA.out) (Nat.le_refl _) R.out.2, by rw [HX.out]; exact R.out.1⟩
        case measure => simp only [intOf]; omega
    · obtain rfl : n = j := by omega
      have e1 : decide ((n : Int) < (n : Int)) = false := decide_eq_false (by omega)
      have e1' : ¬ (n : Int) < (n : Int) := by omega
      have EF : Hid ((l.take n).filter okV = l.filter okV) := by show _ = _; rw [show n = l.length from EN.out, List.take_length]
      rw [show (l.take n).filter okV = _ from EF.out] at HJ
      have HFL : Hid ((l.filter okV).length ≤ 100) := Nat.le_trans (List.length_filter_le _ _) (by rw [← show n = _ from EN.out]; exact hl)
      clear EF
      obtain ⟨aa, ca, rfl, hca, hna, -⟩ := HJ.out.2.shape
      have HC1 : Hid _ := HCO.out WL HJ.out.1.kept
      go_wp2_with (at_builtin; refine wpList_app rfl (.tmp 59) (.tmp 60) 28 rfl (.slice (some ⟨WL.heap.size, 0, none⟩) 0 0) (.slice a n cap) rfl rfl _ HC1.out ?_; rintro v2 w2 ⟨o2, k2⟩; have R : Hid _ := And.intro o2 k2; clear o2 k2)
      obtain ⟨b2, c2, rfl, hc2, hn2, -⟩ := R.out.1.shape
      rw [← show n = _ from EN.out] at hc2 ⊢
      have HA2 : Hid (At enc k w2 b2 l) := R.out.1.at EE.out
      have NI2 : Hid (b2 = none → l.length = 0 ∧ c2 = 0) := fun e => by have := hn2 e; exact ⟨by rw [this.1]; rfl, this.2⟩
      have HS1 : Hid _ := HSO.out w2 b2 c2 l HA2.out NI2.out (by rw [← show n = _ from EN.out]; omega)
      have T2 : Hid (TpN w w2 tb 10000 (l.filter okV)) := HJ.out.1.on R.out.2
      have HAL : Hid (At enc k w2 aa (l.filter okV)) := (HJ.out.2.at EE.out).on R.out.2
      have NIA : Hid ((l.filter okV).length ≤ ca ∧ (aa = none → (l.filter okV).length = 0 ∧ ca = 0)) := ⟨hca, fun e => by have := hna e; exact ⟨by rw [this.1]; rfl, this.2⟩⟩
      have OG : Hid (Own enc k 30 WL.heap.size w2 (.slice b2 n c2) l ∧ w.heap.size ≤ WL.heap.size ∧ WL.heap.size ≤ w2.heap.size) := ⟨by have := R.out.1; rwa [← show n = _ from EN.out] at this, HJ.out.1.kept.size, R.out.2.size⟩
      have hsl : (srt ltV l).length = l.length := srt_len _ _
      have HSL : Hid ((srt ltV l).length = n) := hsl.trans EN.out.symm
      have HTK : Hid ((srt ltV (l.filter okV)).take 10000 = srt ltV (l.filter okV)) := List.take_of_length_le (by rw [srt_len]; exact Nat.le_trans HFL.out (by decide))
      have HSFL : Hid ((srt ltV (l.filter okV)).length = (l.filter okV).length) := srt_len _ _
      have HR5 : Hid (∀ W, At enc k W aa (l.filter okV) → _) := fun W (h : At enc k W aa (l.filter okV)) => HRO.out W aa ca (l.filter okV) h NIA.out.1 NIA.out.2 (Nat.le_trans HFL.out (by decide))
      have HL4 : Hid (∀ W, TpN w W tb 10000 (l.filter okV) → _) := fun W (h : TpN w W tb 10000 (l.filter okV)) => HLS.out w W tb (l.filter okV) h
      have HT9 : Hid (∀ W, TpN w W tb 10000 (l.filter okV) → _) := fun W (h : TpN w W tb 10000 (l.filter okV)) => HTO.out w W tb (l.filter okV) h
      have HS2 : Hid (∀ W, At enc k W b2 l → _) := fun W (h : At enc k W b2 l) => HSO.out W b2 c2 l h NI2.out (by rw [← show n = _ from EN.out]; omega)
      have HR6 : Hid (∀ W, At enc k W a l → _) := fun W (h : At enc k W a l) => HRO.out W a cap l h HNI.out.1 HNI.out.2 (by rw [← show n = _ from EN.out]; omega)
      rw [← show n = _ from EN.out] at HS1 HS2 HR6
      generalize srt ltV l = S at HS1 HS2 HR6 hsl HSL
      obtain ⟨nf, enf⟩ : ∃ nf, nf = (l.filter okV).length := ⟨_, rfl⟩
      have ENF : Hid (nf = (l.filter okV).length) := enf
      rw [← enf] at HFL NIA HR5 HT9 HSFL hca ⊢
      rw [show (srt ltV (l.filter okV)).take 10000 = _ from HTK.out] at HL4
      generalize srt ltV (l.filter okV) = SF at HL4 HR5 HSFL HTK
      clear R hn2 hna hca enf hsl HTK HCO HSO HRO HLS HTO HPU HPN HJ HC1
      refine Calls.mono HS1.out ?_
      rintro r w3 ⟨p, rfl, o3, k3⟩
      obtain ⟨ap, cp, rfl, hcp, -, -⟩ := o3.shape
      rw [show S.length = n from HSL.out] at o3 hcp ⊢
      have P3 : Hid (Own enc k 30 w2.heap.size w3 (.slice ap n cp) S ∧ Kept w2 w3) := ⟨o3, k3⟩
      have HS3 : Hid _ := HS2.out w3 (HA2.out.on k3)
      clear HS1 o3 k3
      go_wp2_with fail
      refine Calls.mono HS3.out ?_
      rintro r w4 ⟨q, rfl, o4, k4⟩
      obtain ⟨aq, cq, rfl, hcq, -, -⟩ := o4.shape
      rw [show S.length = n from HSL.out] at o4 hcq ⊢
      have P4 : Hid (Own enc k 30 w3.heap.size w4 (.slice aq n cq) S ∧ Kept w3 w4) := ⟨o4, k4⟩
      have HL5 : Hid _ := HL4.out w4 ((T2.out.on P3.out.2).on k4)
      clear HS3 HS2 o4 k4
      go_wp2_with fail
      refine Calls.mono HL5.out ?_
      rintro r w5 ⟨x, rfl, o5, t5, k5⟩
      obtain ⟨ax, cx, rfl, hcx, -, -⟩ := o5.shape
      rw [show SF.length = nf from HSFL.out] at o5 hcx ⊢
      have P5 : Hid (Own enc k 30 w4.heap.size w5 (.slice ax nf cx) SF ∧ Kept w4 w5) := ⟨o5, k5⟩
      have HL6 : Hid _ := HL4.out w5 t5
      clear HL5 o5 k5 t5 T2
      go_wp2_with fail
      refine Calls.mono HL6.out ?_
      rintro r w6 ⟨y, rfl, o6, t6, k6⟩
      obtain ⟨ay, cy, rfl, hcy, -, -⟩ := o6.shape
      rw [show SF.length = nf from HSFL.out] at o6 hcy ⊢
      have P6 : Hid (Own enc k 30 w5.heap.size w6 (.slice ay nf cy) SF ∧ Kept w5 w6) := ⟨o6, k6⟩
      have T6 : Hid (TpN w w6 tb 10000 (l.filter okV)) := t6
      have K26 : Hid (Kept w2 w6) := P3.out.2.trans' (P4.out.2.trans' (P5.out.2.trans' k6))
      have HR7 : Hid _ := HR5.out w6 (HAL.out.on K26.out)
      clear HL6 o6 k6 t6 HR5 HAL
      go_wp2_with fail
      refine Calls.mono HR7.out ?_
      rintro r w7 ⟨u, rfl, o7, k7⟩
      obtain ⟨au, cu, rfl, hcu, -, -⟩ := o7.shape
      rw [show SF.length = nf from HSFL.out] at o7 hcu ⊢
      have P7 : Hid (Own enc k 30 w6.heap.size w7 (.slice au nf cu) SF ∧ Kept w6 w7) := ⟨o7, k7⟩
      clear HR7 o7 k7
      have X7 : Hid (At enc k w7 ap S ∧ At enc k w7 aq S ∧ At enc k w7 ax SF ∧ At enc k w7 ay SF ∧ At enc k w7 au SF) := ⟨(P3.out.1.at EE.out).on (P4.out.2.trans' (P5.out.2.trans' (P6.out.2.trans' P7.out.2))), (P4.out.1.at EE.out).on (P5.out.2.trans' (P6.out.2.trans' P7.out.2)), (P5.out.1.at EE.out).on (P6.out.2.trans' P7.out.2), (P6.out.1.at EE.out).on P7.out.2, P7.out.1.at EE.out⟩
      have HM1 : Hid _ := HSA.out w7 ax au nf cx cu SF X7.out.2.2.1 X7.out.2.2.2.2 HSFL.out.symm (Nat.le_trans HFL.out (by decide))
      have HM2 : Hid (∀ W, Kept w7 W → _) := fun W (kk : Kept w7 W) => HSA.out W ay au nf cy cu SF (X7.out.2.2.2.1.on kk) (X7.out.2.2.2.2.on kk) HSFL.out.symm (Nat.le_trans HFL.out (by decide))
      have HM3 : Hid (∀ W, Kept w7 W → _) := fun W (kk : Kept w7 W) => HSA.out W ap aq n cp cq S (X7.out.1.on kk) (X7.out.2.1.on kk) HSL.out.symm (by omega)
      have HM4 : Hid (∀ W b c, Kept w7 W → At enc k W b S → _) := fun W b c (kk : Kept w7 W) (hb : At enc k W b S) => HSA.out W aq b n cq c S (X7.out.2.1.on kk) hb HSL.out.symm (by omega)
      have K7 : Hid (Kept w w7) := T6.out.kept.trans' P7.out.2
      have HR8 : Hid (∀ W, Kept w7 W → _) := fun W (kk : Kept w7 W) => HR6.out W (HL.out.on (K7.out.trans' kk))
      have HM5 : Hid (∀ W b c, At enc k W b SF → At enc k W au SF → _) := fun W b c (h1 : At enc k W b SF) (h2 : At enc k W au SF) => HSA.out W b au nf c cu SF h1 h2 HSFL.out.symm (Nat.le_trans HFL.out (by decide))
      clear HSA HR6 X7 HL
      go_wp2_with fail
      refine Calls.mono HM1.out ?_
      rintro r w8 ⟨rfl, k8⟩
      have K8 : Hid (Kept w7 w8) := k8
      have HM2' : Hid _ := HM2.out w8 k8
      clear HM1 HM2 k8
      go_wp2_with fail
      refine Calls.mono HM2'.out ?_
      rintro r w9 ⟨rfl, k9⟩
      have K9 : Hid (Kept w7 w9) := K8.out.trans' k9
      have HM3' : Hid _ := HM3.out w9 K9.out
      clear HM2' HM3 k9 K8
      go_wp2_with fail
      refine Calls.mono HM3'.out ?_
      rintro r wa ⟨rfl, ka⟩
      have Ka : Hid (Kept w7 wa) := K9.out.trans' ka
      have HR8' : Hid _ := HR8.out wa Ka.out
      clear HM3' HR8 ka K9
      go_wp2_with fail
      refine Calls.mono HR8'.out ?_
      rintro r wb ⟨z, rfl, ob, kb⟩
      obtain ⟨az, cz, rfl, hcz, -, -⟩ := ob.shape
      rw [show S.length = n from HSL.out] at hcz ⊢
      have Kb : Hid (Kept w7 wb) := Ka.out.trans' kb
      have HM4' : Hid _ := HM4.out wb az cz Kb.out (ob.at EE.out)
      clear HR8' HM4 kb ob Ka
      go_wp2_with fail
      refine Calls.mono HM4'.out ?_
      rintro r wc ⟨rfl, kc⟩
      have Kc : Hid (Kept w7 wc) := Kb.out.trans' kc
      clear HM4' kc Kb
      have KR : Hid (Kept wc (wc.alloc (.cells #[.slice ap n cp, .slice aq n cq, .slice ax nf cx, .slice ay nf cy, .slice b2 n c2] 28)) ∧ (wc.alloc (.cells #[.slice ap n cp, .slice aq n cq, .slice ax nf cx, .slice ay nf cy, .slice b2 n c2] 28)).heap[wc.heap.size]? = some (.cells #[.slice ap n cp, .slice aq n cq, .slice ax nf cx, .slice ay nf cy, .slice b2 n c2] 28 (0, 0))) := ⟨(Same.refl _ wc).alloc _, heap_new _ _⟩
      go_upto_region 22 with fail
      generalize wc.alloc (.cells #[.slice ap n cp, .slice aq n cq, .slice ax nf cx, .slice ay nf cy, .slice b2 n c2] 28) = W0 at KR ⊢
      generalize wc.heap.size = gl at KR ⊢
      have F0 : Hid (Fv enc k w W0 tb (l.filter okV) gl [.slice ap n cp, .slice aq n cq, .slice ax nf cx, .slice ay nf cy, .slice b2 n c2] [S, S, SF, SF, l] (.slice au nf cu) SF) := by
        have k7 : Kept w7 W0 := Kc.out.trans' KR.out.1
        have k6 := P7.out.2.trans' k7
        have k5 := P6.out.2.trans' k6
        have k4 := P5.out.2.trans' k5
        have k3 := P4.out.2.trans' k4
        have k2 := P3.out.2.trans' k3
        exact Fv.start (T6.out.on k6) KR.out.2 (OG.out.1.on k2) (P3.out.1.on k3) (P4.out.1.on k4) (P5.out.1.on k5) (P6.out.1.on k6) (P7.out.1.on k7) (fun b e => (OG.out.1.rng e).2) (fun b e => (P3.out.1.rng e).2) (fun b e => (P4.out.1.rng e).2) (fun b e => (P5.out.1.rng e).2) (fun b e => (P6.out.1.rng e).2) OG.out.2.1 OG.out.2.2 P3.out.2.size P4.out.2.size P5.out.2.size P6.out.2.size
      clear P3 P4 P5 P6 P7 OG T6 KR Kc HA2 K26
      obtain ⟨V, eV⟩ : ∃ V : List Value, V = [.slice ap n cp, .slice aq n cq, .slice ax nf cx, .slice ay nf cy, .slice b2 n c2] := ⟨_, rfl⟩
      rw [← eV] at F0
      have HVL : Hid (V.length = 5) := by show _ = _; rw [eV]; rfl
      obtain ⟨L0, eL0⟩ : ∃ L0 : List (List Vl), L0 = [S, S, SF, SF, l] := ⟨_, rfl⟩
      rw [← eL0] at F0
      have HL0 : Hid (L0.length = 5 ∧ ∀ (i : Nat) ls, L0[i]? = some ls → ls.length ≤ 100) := by
        refine ⟨by rw [eL0]; rfl, fun i ls hi => ?_⟩
        rw [eL0] at hi
        have h1 : S.length ≤ 100 := by rw [HSL.out]; exact hl
        have h2 : SF.length ≤ 100 := by rw [HSFL.out]; exact HFL.out
        have h3 : l.length ≤ 100 := by rw [← show n = _ from EN.out]; exact hl
        rcases i with _ | _ | _ | _ | _ | i <;> simp at hi <;> subst hi <;> assumption
      obtain ⟨U, eU⟩ : ∃ U : Value, U = .slice au nf cu := ⟨_, rfl⟩
      rw [← eU] at F0
      have EU : Hid (U = .slice au nf cu) := eU
      clear eV eL0 eU
      go_wp2_with fail
      go_loopw [103] (fun i wr => ∃ (t : Nat) (L : List (List Vl)), i = .int .i64 (t : Int) ∧ t ≤ 5 ∧ L.length = 5 ∧ (∀ (i : Nat) ls, L[i]? = some ls → ls.length ≤ 100) ∧ Fv enc k w wr tb (l.filter okV) gl V L U SF ∧ ∀ (s : Nat) ls, s < t → L[s]? = some ls → ∀ x ∈ ls, x.kd = 20 + (s : Int)) (fun i _ => 5 - (intOf i).toNat)
      case atStart => exact ⟨0, L0, rfl, by decide, HL0.out.1, HL0.out.2, F0.out, fun s ls h => absurd h (Nat.not_lt_zero _)⟩
      case round =>
        obtain ⟨t, L, rfl, ht, hLn, hLb, fv, mk⟩ := hrel
        rename World => WM
        have HF : Hid (L.length = 5 ∧ (∀ (i : Nat) ls, L[i]? = some ls → ls.length ≤ 100) ∧ Fv enc k w WM tb (l.filter okV) gl V L U SF ∧ ∀ (s : Nat) ls, s < t → L[s]? = some ls → ∀ x ∈ ls, x.kd = 20 + (s : Int)) := ⟨hLn, hLb, fv, mk⟩
        clear hLn hLb fv mk F0
        by_cases ht5 : t < 5
        · have q1 : decide ((t : Int) < 5) = true := decide_eq_true (by omega)
          have q1' : (t : Int) < 5 := by omega
          obtain ⟨v, hv⟩ : ∃ v, V[t]? = some v := ⟨_, List.getElem?_eq_getElem (by rw [HVL.out]; exact ht5)⟩
          obtain ⟨ls, hls⟩ : ∃ ls, L[t]? = some ls := ⟨_, List.getElem?_eq_getElem (by rw [HF.out.1]; exact ht5)⟩
          obtain ⟨av, cv, ev, -, -, -⟩ := (HF.out.2.2.1.own t v ls hv hls).shape
          subst ev
          have hm100 : ls.length ≤ 100 := HF.out.2.1 t ls hls
          have hcl : WM.cell? ⟨gl, t, none⟩ = some (.slice av ls.length cv) := by
            rw [cell_of HF.out.2.2.1.row]
            simpa using hv
          have hgl : gl < WM.heap.size := lt_of_heap HF.out.2.2.1.row
          obtain ⟨m, em⟩ : ∃ m, m = ls.length := ⟨_, rfl⟩
          rw [← em] at hcl hv hm100
          have HV : Hid (V[t]? = some (.slice av m cv)) := hv
          have HLS : Hid (L[t]? = some ls ∧ ls.length = m) := ⟨hls, em.symm⟩
          clear hv hls em
          go_wp2_with fail
          go_loopw [110] (fun i wr => ∃ (q : Nat) (L' : List (List Vl)) (ls' : List Vl), i = .int .i64 (q : Int) ∧ q ≤ m ∧ L'.length = 5 ∧ (∀ (i : Nat) ls, L'[i]? = some ls → ls.length ≤ 100) ∧ Fv enc k w wr tb (l.filter okV) gl V L' U SF ∧ (∀ (s : Nat) lz, s < t → L'[s]? = some lz → ∀ x ∈ lz, x.kd = 20 + (s : Int)) ∧ L'[t]? = some ls' ∧ ls'.length = m ∧ ∀ (j : Nat) x, j < q → ls'[j]? = some x → x.kd = 20 + (t : Int)) (fun i _ => m - (intOf i).toNat)
          case atStart => exact ⟨0, L, ls, rfl, Nat.zero_le _, HF.out.1, HF.out.2.1, HF.out.2.2.1, HF.out.2.2.2, HLS.out.1, HLS.out.2, fun j x h => absurd h (Nat.not_lt_zero _)⟩
          case round =>
            obtain ⟨q, L', ls', rfl, hq, hLn, hLb, fv, mk, hls, hlm, mj⟩ := hrel
            rename World => WN
            have HG : Hid (L'.length = 5 ∧ (∀ (i : Nat) ls, L'[i]? = some ls → ls.length ≤ 100) ∧ Fv enc k w WN tb (l.filter okV) gl V L' U SF ∧ (∀ (s : Nat) lz, s < t → L'[s]? = some lz → ∀ x ∈ lz, x.kd = 20 + (s : Int)) ∧ L'[t]? = some ls' ∧ ls'.length = m ∧ ∀ (j : Nat) x, j < q → ls'[j]? = some x → x.kd = 20 + (t : Int)) := ⟨hLn, hLb, fv, mk, hls, hlm, mj⟩
            clear hLn hLb fv mk hls hlm mj HF HLS hcl hgl
            by_cases hqm : q < m
            · have r1 : decide ((q : Int) < (m : Int)) = true := decide_eq_true (by omega)
              have r1' : (q : Int) < (m : Int) := by omega
              have o1 := HG.out.2.2.1.own t _ ls' HV.out HG.out.2.2.2.2.1
              obtain ⟨av', cv', ev, hcv, hnn, hgg⟩ := o1.shape
              simp only [Value.slice.injEq] at ev
              obtain ⟨rfl, -, rfl⟩ := ev
              cases av with
              | none => exact absurd (hnn rfl).1 (by intro e; have := HG.out.2.2.2.2.2.1; rw [e] at this; simp at this; omega)
              | some ad =>
              obtain ⟨g, rfl, hgb, hgs⟩ := hgg ad rfl
              have hqi : q < ls'.length := by rw [HG.out.2.2.2.2.2.1]; exact hqm
              obtain ⟨hst, o2, s2⟩ := Own.put EE.out o1 hqi (mkV (20 + (t : Int))) P
              have hst' : (storeCells ⟨g, q * k, none⟩ (zl.set 0 (.int .i64 (20 + (t : Int))))).run P WN = .ok () (WN.setCells g (q * k) (zl.set 0 (.int .i64 (20 + (t : Int))))) := by rw [BLD.out]; exact hst
              have hlen : (zl.set 0 (.int .i64 (20 + (t : Int)))).length = k := by rw [List.length_set]; exact hzl
              rw [← BLD.out] at o2 s2
              have HO : Hid _ := And.intro o2 s2
              have hqt : (20 : Int) + (t : Int) ≤ 9223372036854775807 := by omega
              clear o1 hst hnn hgg o2 s2
              go_upto_region 28 with fail
              go_wp2_with fail
              go_roundw
              case rel =>
                refine ⟨q + 1, L'.set t (ls'.set q (mkV (20 + (t : Int)))), ls'.set q (mkV (20 + (t : Int))), by simp, hqm, by rw [List.length_set]; exact HG.out.1, set_bound HG.out.2.1 (by rw [List.length_set, HG.out.2.2.2.2.2.1]; exact hm100), HG.out.2.2.1.set HV.out HG.out.2.2.2.2.1 (HO.out.2.mono fun b _ e => by subst e; rfl) HO.out.1, fun s lz hs hz => ?_, ?_, by rw [List.length_set]; exact HG.out.2.2.2.2.2.1, fun j x hj hx => ?_⟩
                · rw [List.getElem?_set_ne (by omega)] at hz
                  exact HG.out.2.2.2.1 s lz hs hz
                · rw [List.getElem?_set, if_pos rfl, if_pos (by rw [HG.out.1]; exact ht5)]
                · rw [List.getElem?_set] at hx
                  split at hx
                  · cases hx; rfl
                  · exact HG.out.2.2.2.2.2.2 j x (by omega) hx
              case measure => simp only [intOf]; omega
            · obtain rfl : m = q := by omega
              have r1 : decide ((m : Int) < (m : Int)) = false := decide_eq_false (by omega)
              have r1' : ¬ (m : Int) < (m : Int) := by omega
              go_wp2_with fail
              go_roundw
              case rel =>
                refine ⟨t + 1, L', by simp, ht5, HG.out.1, HG.out.2.1, HG.out.2.2.1, fun s lz hs hz x hx => ?_⟩
                by_cases est : s = t
                · subst est
                  rw [HG.out.2.2.2.2.1] at hz
                  cases hz
                  obtain ⟨j, hj, ej⟩ := List.getElem_of_mem hx
                  exact HG.out.2.2.2.2.2.2 j x (by rw [← HG.out.2.2.2.2.2.1]; exact hj) (by rw [List.getElem?_eq_getElem hj, ej])
                · exact HG.out.2.2.2.1 s lz (by omega) hz x hx
              case measure => simp only [intOf]; omega
        · obtain rfl : t = 5 := by omega
          go_upto_region 31 with fail
          obtain ⟨LL, eLL⟩ : ∃ LL, LL = L := ⟨_, rfl⟩
          have HM : Hid (L.length = 5 ∧ (∀ (i : Nat) ls, L[i]? = some ls → ls.length ≤ 100) ∧ ∀ (s : Nat) ls, s < 5 → L[s]? = some ls → ∀ x ∈ ls, x.kd = 20 + (s : Int)) := ⟨HF.out.1, HF.out.2.1, HF.out.2.2.2⟩
          have F1 : Hid (Fv enc k w WM tb (l.filter okV) gl V L U SF) := HF.out.2.2.1
          clear HF eLL
          go_wp2_with fail
          go_loopw [123] (fun i wr => ∃ t : Nat, i = .int .i64 (t : Int) ∧ t ≤ 5 ∧ Fv enc k w wr tb (l.filter okV) gl V L U SF) (fun i _ => 5 - (intOf i).toNat)
          case atStart => exact ⟨0, rfl, by decide, F1.out⟩
          case round =>
            obtain ⟨t, rfl, ht, fv⟩ := hrel
            rename World => WP
            have HF : Hid (Fv enc k w WP tb (l.filter okV) gl V L U SF) := fv
            clear fv F1
            by_cases ht5 : t < 5
            · have q1 : decide ((t : Int) < 5) = true := decide_eq_true (by omega)
              have q1' : (t : Int) < 5 := by omega
              obtain ⟨v, hv⟩ : ∃ v, V[t]? = some v := ⟨_, List.getElem?_eq_getElem (by rw [HVL.out]; exact ht5)⟩
              obtain ⟨ls, hls⟩ : ∃ ls, L[t]? = some ls := ⟨_, List.getElem?_eq_getElem (by rw [HM.out.1]; exact ht5)⟩
              have HV : Hid (V[t]? = some v) := hv
              have HLS : Hid (L[t]? = some ls ∧ ls.length ≤ 100) := ⟨hls, HM.out.2.1 t ls hls⟩
              have hcl : WP.cell? ⟨gl, t, none⟩ = some v := by
                rw [cell_of HF.out.row]
                simpa using hv
              have hgl : gl < WP.heap.size := lt_of_heap HF.out.row
              have hlen : (zl.set 0 (.int .i64 (40 + (t : Int)))).length = k := by rw [List.length_set]; exact hzl
              have hfx := fun (A : Array Value) (h : A.size = k) => fold_all (zl.set 0 (.int .i64 (40 + (t : Int)))) A (h.trans hlen.symm)
              clear hv hls
              go_wp2_with fail
              go_loopw [20, 19] (fun i x wr => ∃ (q : Nat) (ys : List Vl), i = .int .i64 (q : Int) ∧ q ≤ 30 ∧ ys.length = q ∧ Fv enc k w wr tb (l.filter okV) gl V L U SF ∧ Own enc k 30 w.heap.size wr x (ls ++ ys) ∧ Gr V U v x) (fun i _ _ => 30 - (intOf i).toNat)
              case atStart => exact ⟨0, [], rfl, by decide, rfl, HF.out, by rw [List.append_nil]; exact HF.out.own t v ls HV.out HLS.out.1, .inl rfl⟩
              case round =>
                obtain ⟨q, ys, rfl, hq, hyl, fv, oy, gr⟩ := hrel
                rename World => WQ
                have HG : Hid (ys.length = q ∧ Fv enc k w WQ tb (l.filter okV) gl V L U SF ∧ Own enc k 30 w.heap.size WQ u19 (ls ++ ys) ∧ Gr V U v u19) := ⟨hyl, fv, oy, gr⟩
                clear hyl fv oy gr HF hcl hgl
                by_cases hqm : q < 30
                · have r1 : decide ((q : Int) < 30) = true := decide_eq_true (by omega)
                  have r1' : (q : Int) < 30 := by omega
                  have hqt : (40 : Int) + (t : Int) ≤ 9223372036854775807 := by omega
                  have KA : Hid (Kept WQ (WQ.alloc (.cells (zl.set 0 (.int .i64 (40 + (t : Int)))).toArray 30))) := (Same.refl _ WQ).alloc _
                  have HA : Hid _ := HAP.out (WQ.alloc (.cells (zl.set 0 (.int .i64 (40 + (t : Int)))).toArray 30)) w.heap.size u19 (ls ++ ys) WQ.heap.size (mkV (40 + (t : Int))) 1 (HG.out.2.2.1.on KA.out) (by rw [← BLD.out]; exact heap_new _ _) (by rw [List.length_append, HG.out.1]; have := HLS.out.2; omega) (Nat.le_trans HG.out.2.1.top.kept.size KA.out.size)
                  go_upto_region 36 with (at_builtin; refine wpList_app rfl (.tmp 132) (.tmp 136) 28 rfl u19 (.slice (some ⟨WQ.heap.size, 0, none⟩) 1 1) rfl rfl _ HA.out ?_; rintro v6 W6 ⟨o6, s6, b6, z6⟩; have R : Hid _ := And.intro o6 (And.intro s6 (And.intro b6 z6)); clear o6 s6 b6 z6)
                  clear hfx hlen
                  go_wp2_with fail
                  have HREL : Hid (∃ (q' : Nat) (ys' : List Vl), (Value.int .i64 ((q : Int) + 1)) = .int .i64 (q' : Int) ∧ q' ≤ 30 ∧ ys'.length = q' ∧ Fv enc k w W6 tb (l.filter okV) gl V L U SF ∧ Own enc k 30 w.heap.size W6 v6 (ls ++ ys') ∧ Gr V U v v6) := by
                    obtain ⟨f6, g6⟩ := Fv.grow EE.out (HG.out.2.1.on KA.out) HV.out HLS.out.1 (by rw [HM.out.1, HVL.out]) HG.out.2.2.2 (HG.out.2.2.1.on KA.out) R.out.2.1 R.out.2.2.1 R.out.2.2.2
                    exact ⟨q + 1, ys ++ [mkV (40 + (t : Int))], by simp, hqm, by rw [List.length_append, HG.out.1]; rfl, f6, by rw [← List.append_assoc]; exact R.out.1, g6⟩
                  refine ⟨⟨v6, Value.int IntKind.i64 ((q : Int) + 1), _, _, _, _, _, _, _, _, _, _, HREL.out, rfl⟩, ?_⟩
                  show _ < _
                  simp [intOf]
                  omega
                · obtain rfl : q = 30 := by omega
                  go_wp2_with fail
                  go_roundw
                  case rel => exact ⟨t + 1, by simp, ht5, HG.out.2.1⟩
                  case measure => simp only [intOf]; omega
            · obtain rfl : t = 5 := by omega
              go_upto_region 39 with fail
              have FW : Hid (∀ W, W = WP → Fv enc k w W tb (l.filter okV) gl V L U SF) := fun W e => by rw [e]; exact HF.out
              go_wp2_with fail
              go_loopw [141] (fun i wr => ∃ t : Nat, i = .int .i64 (t : Int) ∧ t ≤ 5 ∧ wr = WP) (fun i _ => 5 - (intOf i).toNat)
              case atStart => exact ⟨0, rfl, by decide, rfl⟩
              case round =>
                obtain ⟨t, rfl, ht, rfl⟩ := hrel
                by_cases ht5 : t < 5
                · have q1 : decide ((t : Int) < 5) = true := decide_eq_true (by omega)
                  have q1' : (t : Int) < 5 := by omega
                  obtain ⟨v, hv⟩ : ∃ v, V[t]? = some v := ⟨_, List.getElem?_eq_getElem (by rw [HVL.out]; exact ht5)⟩
                  obtain ⟨ls, hls⟩ : ∃ ls, L[t]? = some ls := ⟨_, List.getElem?_eq_getElem (by rw [HM.out.1]; exact ht5)⟩
                  have ow := HF.out.own t v ls hv hls
                  obtain ⟨av, cv, ev, -, -, -⟩ := ow.shape
                  subst ev
                  have hm100 := HM.out.2.1 t ls hls
                  have HCL : Hid (∀ (q : Nat) x, ls[q]? = some x → ∃ g, av = some ⟨g, 0, none⟩ ∧ g < wr.heap.size ∧ wr.cell? ⟨g, q * k, none⟩ = some (.int .i64 (20 + (t : Int)))) := fun q x hx => by
                    obtain ⟨b, o, e, hb, hc⟩ := ow.at EE.out q x hx
                    obtain ⟨av', cv', ev, -, -, hgg⟩ := ow.shape
                    simp only [Value.slice.injEq] at ev
                    obtain ⟨rfl, -, rfl⟩ := ev
                    subst e
                    obtain ⟨g, eg, -, -⟩ := hgg _ rfl
                    cases eg
                    have h0 := hc 0 _ (KD.out x)
                    rw [HM.out.2.2 t ls ht5 hls x (List.mem_of_getElem? hx)] at h0
                    exact ⟨b, rfl, hb, by simpa using h0⟩
                  have hcl : wr.cell? ⟨gl, t, none⟩ = some (.slice av ls.length cv) := by
                    rw [cell_of HF.out.row]
                    simpa using hv
                  have hgl : gl < wr.heap.size := lt_of_heap HF.out.row
                  obtain ⟨m, em⟩ : ∃ m, m = ls.length := ⟨_, rfl⟩
                  rw [← em] at hcl hm100
                  have EM : Hid (m = ls.length) := em
                  clear hv hls em ow
                  go_wp2_with fail
                  go_loopw [148] (fun i wx => ∃ q : Nat, i = .int .i64 (q : Int) ∧ q ≤ m ∧ wx = wr) (fun i _ => m - (intOf i).toNat)
                  case atStart => exact ⟨0, rfl, Nat.zero_le _, rfl⟩
                  case round =>
                    obtain ⟨q, rfl, hq, rfl⟩ := hrel
                    by_cases hqm : q < m
                    · have r1 : decide ((q : Int) < (m : Int)) = true := decide_eq_true (by omega)
                      have r1' : (q : Int) < (m : Int) := by omega
                      obtain ⟨g, rfl, hg, hc⟩ := HCL.out q _ (List.getElem?_eq_getElem (by rw [← show m = _ from EM.out]; exact hqm))
                      have hqt : (20 : Int) + (t : Int) ≤ 9223372036854775807 := by omega
                      go_wp2_with fail
                      go_roundw
                      case rel => exact ⟨q + 1, by simp, hqm, trivial⟩
                      case measure => simp only [intOf]; omega
                    · obtain rfl : m = q := by omega
                      have r1 : decide ((m : Int) < (m : Int)) = false := decide_eq_false (by omega)
                      have r1' : ¬ (m : Int) < (m : Int) := by omega
                      go_wp2_with fail
                      go_roundw
                      case rel => exact ⟨t + 1, by simp, ht5, trivial⟩
                      case measure => simp only [intOf]; omega
                · obtain rfl : t = 5 := by omega
                  have HL9 : Hid _ := HL4.out wr HF.out.top
                  go_wp2_with fail
                  refine Calls.mono HL9.out ?_
                  rintro r WX ⟨z9, rfl, ox, tx, kx⟩
                  obtain ⟨a9, c9, rfl, hc9, -, -⟩ := ox.shape
                  rw [show SF.length = nf from HSFL.out] at hc9 ⊢
                  have HW9 : Hid (At enc k WX au SF) := by
                    have := HF.out.wo.on kx
                    rw [show U = _ from EU.out] at this
                    exact this.at EE.out
                  have HM9 : Hid _ := HM5.out WX a9 c9 (ox.at EE.out) HW9.out
                  have TX : Hid (TpN w WX tb 10000 (l.filter okV)) := tx
                  clear HL9 ox tx kx HW9
                  go_wp2_with fail
                  refine Calls.mono HM9.out ?_
                  rintro r WY ⟨rfl, ky⟩
                  have TY : Hid (TpN w WY tb 10000 (l.filter okV)) := TX.out.on ky
                  have HT10 : Hid _ := HT9.out WY TY.out
                  clear HM9 ky
                  go_wp2_with fail
                  refine Calls.mono HT10.out ?_
                  rintro r WZ ⟨rfl, rfl⟩
                  go_wp2_with fail
                  go_ret
                  exact ⟨rfl, TY.out.kept⟩
end Go.Proofs.Ytnfkjblhnpnaeaa
