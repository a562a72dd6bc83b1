/- What is proved: the law ViolSorts answers true; in any program with this text, its list lies in memory. -/
import Derived.Test.YtnfkjblhnpnaeaaVTal
import Derived.Deep.DeepFit
namespace Go.Proofs.Ytnfkjblhnpnaeaa
open Go.RowKit

/-- Two violations that the law compares first. -/
def vA : Vl := ⟨8, 3, 0, 0, 0, ByteArray.empty, false, ByteArray.empty, false, ByteArray.empty, 0, 0⟩
def vB : Vl := ⟨7, 3, 9, 0, 0, ByteArray.empty, false, ByteArray.empty, false, ByteArray.empty, 0, 0⟩
theorem cmpAB : compV vA vB = 1 := by decide
/-- How two stand to each other: one of three ways. -/
theorem cmp_ways (y x : Vl) : (compV y x = -1 ∧ compV x y = 1 ∧ ltV y x = true ∧ ltV x y = false) ∨ (compV y x = 0 ∧ compV x y = 0 ∧ ltV y x = false ∧ ltV x y = false) ∨ (compV y x = 1 ∧ compV x y = -1 ∧ ltV y x = false ∧ ltV x y = true) := by
  have h1 := compV_swap y x
  rcases compV_cases y x with h | h | h <;> rw [h] at h1 <;> simp [ltV, h, h1]
/-- What the law asks of a program. -/
structure Av (P : Program) (k kk : Nat) (enc : Vl → List Value) : Prop where
  T : Tl P k kk enc
  fS : P.funcs[4]? = some Try.f4
  eA : ∀ (args : Array Value) (w : World), Sem.run P (callFunc 9 args) w = .ok (.enter 9 args) w
  eS : ∀ (args : Array Value) (w : World), Sem.run P (callFunc 18 args) w = .ok (.enter 18 args) w
  eR : ∀ (args : Array Value) (w : World), Sem.run P (callFunc 19 args) w = .ok (.enter 19 args) w
  eC : ∀ (args : Array Value) (w : World), Sem.run P (callFunc 17 args) w = .ok (.enter 17 args) w
  eM : ∀ (args : Array Value) (w : World), Sem.run P (callFunc 13 args) w = .ok (.enter 13 args) w
  eV : ∀ (args : Array Value) (w : World), Sem.run P (callFunc 20 args) w = .ok (.enter 20 args) w
  eX : ∀ (args : Array Value) (w : World), Sem.run P (callFunc 12 args) w = .ok (.enter 12 args) w
  eB : ∀ (args : Array Value) (w : World), Sem.run P (callFunc 21 args) w = .ok (.enter 21 args) w
  eT : ∀ (args : Array Value) (w : World), Sem.run P (callFunc 22 args) w = .ok (.enter 22 args) w
  anc : ∀ W, Calls P 9 #[] W fun e w' => e = .returned (.bool true) ∧ Kept W w'
  sor : ∀ (W : World) (a : Option Addr) (cap : Nat) (l : List Vl), At enc k W a l → (a = none → l.length = 0 ∧ cap = 0) → l.length ≤ 1172812402961 → Calls P 18 #[.slice a l.length cap] W fun e w' => ∃ v, e = .returned v ∧ Own enc k 30 W.heap.size w' v (srt ltV l) ∧ Kept W w'
  rso : ∀ (W : World) (a : Option Addr) (cap : Nat) (l : List Vl), At enc k W a l → l.length ≤ cap → (a = none → l.length = 0 ∧ cap = 0) → l.length ≤ 1172812402961 → Calls P 19 #[.slice a l.length cap] W fun e w' => ∃ v, e = .returned v ∧ Own enc k 30 W.heap.size w' v (srt ltV l) ∧ Kept W w'
  sam : ∀ (W : World) (a b : Option Addr) (n c d : Nat) (l : List Vl), At enc k W a l → At enc k W b l → n = l.length → n ≤ 4398046511104 → Calls P 13 #[.slice a n c, .slice b n d] W fun e w' => e = .returned (.bool true) ∧ Kept W w'
  cmp : ∀ (a b : Vl) (W : World), Calls P 17 #[.agg (enc a).toArray, .agg (enc b).toArray] W fun e w' => e = .returned (.int .i64 (compV a b)) ∧ Grw W w'
  bef : ∀ (a b : Vl) (W : World), Calls P 21 #[.agg (enc a).toArray, .agg (enc b).toArray] W fun e w' => e = .returned (.bool (ltV a b)) ∧ Grw W w'
  val : ∀ (a : Vl) (W : World), Calls P 20 #[.agg (enc a).toArray] W fun e w' => e = .returned (.bool (okV a)) ∧ Grw W w'
  rva : ∀ (a : Vl) (W : World), Calls P 12 #[.agg (enc a).toArray] W fun e w' => e = .returned (.bool (okV a)) ∧ Grw W w'
  eql : ∀ (f : Nat → Nat) (W : World), Sem.run P (Op.equalIn 10000 42 (.agg (ta f).toArray) (.agg (ta f).toArray)) W = .ok true W
  eqg : ∀ (i j : Nat) (f : Nat → Nat) (W : World), Sem.run P (eqGuard .eql 42 (.tmp i) (.tmp j) (.agg (ta f).toArray) (.agg (ta f).toArray)) W = .ok () W
  t4 : P.underlying 4 = some TypeDesc.bool
  a4 : ∀ w, Sem.run P (isAgg 4) w = .ok false w
  z4 : ∀ w, Sem.run P (Go.sizeOf 4) w = .ok 1 w
  z9 : ∀ w, Sem.run P (Go.sizeOf 9) w = .ok 1 w
  zer : ∀ w, Sem.run P (zeroValue 30) w = .ok (.agg #[.int .i64 0, .int .i64 0, .int .i64 0, .int .i64 0, .int .i64 0, .string .empty, .bool false, .string .empty, .bool false, .string .empty, .int .i64 0, .int .i64 0]) w
  h12 : k = 12
  aA : (enc vA).toArray = #[.int .i64 8, .int .i64 3, .int .i64 0, .int .i64 0, .int .i64 0, .string .empty, .bool false, .string .empty, .bool false, .string .empty, .int .i64 0, .int .i64 0]
  aB : (enc vB).toArray = #[.int .i64 7, .int .i64 3, .int .i64 9, .int .i64 0, .int .i64 0, .string .empty, .bool false, .string .empty, .bool false, .string .empty, .int .i64 0, .int .i64 0]
set_option maxRecDepth 100000 in
set_option maxHeartbeats 3200000 in
theorem sorts_p {P : Program} {k kk : Nat} {enc : Vl → List Value} (AV : Av P k kk enc) (w : World) (a : Option Addr) (cap : Nat) (l : List Vl) (h : At enc k w a l) (hcap : l.length ≤ cap) (hnil : a = none → l.length = 0 ∧ cap = 0) (hl : l.length ≤ 1172812402961) :
    Calls P 4 #[.slice a l.length cap] w fun e w' => e = .returned (.bool true) ∧ Kept w w' := by
  have TAL : Hid (∀ (W : World) (b : Option Addr) (n c : Nat), At enc k W b l → n = l.length → n ≤ 4398046511104 → _) := fun W b n c h1 h2 h3 => tally_p AV.T W b n c l h1 h2 h3
  obtain ⟨⟨mixed, E, kd, h11, -, -, -, t3, t28, t30, t42, a3, a28, a30, a42, z3, z28, z30, z42, -, v42, hkm, zz, bytes, i30, hzs, hby⟩, fS, eA, eS, eR, eC, eM, eV, eX, eB, eT, anc, sor, rso, sam, cmp, bef, val, rva, eql, eqg, t4, a4, z4, z9, v30, h12, aA, aB⟩ := AV
  rw [Try.underlying30] at t30
  have u28 := run_underlying t28
  have u30 := run_underlying t30
  have u42 := run_underlying t42
  have EE : Hid (Ek enc k) := E
  have KD : Hid (∀ x : Vl, (enc x)[0]? = some (.int .i64 x.kd)) := kd
  have H11 : Hid (kk = 11) := h11
  have hkk0 : ¬ kk = 0 := by omega
  have hkk1 : ¬ 16777216 < kk := by omega
  have HI30 : Hid ((P.info? 30).map (·.size) = some k) := by
    obtain ⟨i0, hi0, -, hz1, -⟩ := info_parts i30
    have : (P.info? 30).map (·.size) = some k := by rw [hi0]; simpa using hz1
    exact this
  have H12 : Hid (k = 12) := h12
  have hk0 : ¬ k = 0 := by have := E.pos; omega
  have hkm' : ¬ 16777216 < k := by omega
  have HAN : Hid (∀ W, _) := anc
  have HCM : Hid (∀ a b W, _) := cmp
  have HBE : Hid (∀ a b W, _) := bef
  have HVA : Hid (∀ a W, _) := val
  have HRV : Hid (∀ a W, _) := rva
  have HEQ : Hid (∀ f W, _) := eql
  have HEG : Hid (∀ i j f W, _) := eqg
  have HC0 : Hid (∀ W, _) := fun W => cmp vA vB W
  rw [aA, aB, cmpAB] at HC0
  have HCO : Hid (∀ W, Kept w W → ∀ ty, _) := fun W (k' : Kept w W) ty => copy_own (c := cap) E t28 i30 hzs (h.on k') hnil (by have : (l.length + l.length / 4 + 192) * bytes ≤ (l.length + l.length / 4 + 192) * 120 := Nat.mul_le_mul (Nat.le_refl _) hby; omega) (by unfold maxLen; omega) ty
  have HSO : Hid (∀ (W : World) (b : Option Addr) (c : Nat), At enc k W b l → (b = none → l.length = 0 ∧ c = 0) → _) := fun W b c h1 h2 => sor W b c l h1 h2 hl
  have HRO : Hid (∀ (W : World), Kept w W → _) := fun W (k' : Kept w W) => rso W a cap l (h.on k') hcap hnil hl
  have HL : Hid (At enc k w a l) := h
  have HSA : Hid (∀ (W : World) (a b : Option Addr) (n c d : Nat) (l : List Vl), At enc k W a l → At enc k W b l → n = l.length → n ≤ 4398046511104 → _) := sam
  have hsl : (srt ltV l).length = l.length := srt_len _ _
  generalize srt ltV l = S at HSO HRO hsl
  obtain ⟨n, en⟩ : ∃ n, n = l.length := ⟨_, rfl⟩
  rw [← en] at hl hsl HCO HSO HRO hcap ⊢
  have EN : Hid (n = l.length) := en
  clear anc sor rso sam cmp bef val rva eql eqg h hnil en E aA aB h11 h12 kd
  go_enter fS, Try.ntmps4
  go_wp2_with fail
  refine Calls.mono (HAN.out _) ?_
  rintro r w1 ⟨rfl, k1⟩
  have K1 : Hid (Kept w w1) := k1
  clear k1 HAN
  go_wp2_with fail
  refine Calls.mono (HC0.out _) ?_
  rintro r w1b ⟨rfl, g1b⟩
  have K1b : Hid (Kept w w1b) := K1.out.trans' (Grw.kept g1b)
  have HC1 : Hid _ := HCO.out w1b K1b.out
  clear g1b HC0 HCO K1
  go_wp2_with (at_builtin; refine wpList_app rfl (.tmp 17) (.tmp 18) 28 rfl (.slice (some ⟨w1b.heap.size, 0, none⟩) 0 0) (.slice a n cap) rfl rfl _ HC1.out ?_; rintro v2 w2 ⟨o2, k2⟩; have R : Hid _ := And.intro o2 k2; clear o2 k2)
  obtain ⟨b2, c2, rfl, hc2, hn2, -⟩ := R.out.1.shape
  rw [← show n = _ from EN.out] at hc2 ⊢
  have HA2 : Hid (At enc k w2 b2 l) := R.out.1.at EE.out
  have HS1 : Hid _ := HSO.out w2 b2 c2 HA2.out (fun e => by have := hn2 e; have h3 := EN.out; rw [this.1] at h3; exact ⟨by simpa using h3, this.2⟩)
  have K2 : Hid (Kept w w2) := K1b.out.trans' R.out.2
  clear HSO HC1 R hn2 K1b
  refine Calls.mono HS1.out ?_
  rintro r w3 ⟨v3, rfl, o3, k3⟩
  have K23 : Hid (Kept w2 w3) := k3
  have K3 : Hid (Kept w w3) := K2.out.trans' k3
  obtain ⟨b3, c3, rfl, hc3, hn3, -⟩ := o3.shape
  have HS3 : Hid (At enc k w3 b3 S) := o3.at EE.out
  rw [hsl] at hc3 ⊢
  clear o3 k3 HS1 hn3
  have HR1 : Hid _ := HRO.out w3 K3.out
  go_wp2_with fail
  refine Calls.mono HR1.out ?_
  rintro r w4 ⟨v4, rfl, o4, k4⟩
  have K4 : Hid (Kept w w4) := K3.out.trans' k4
  have HS4 : Hid (At enc k w4 b3 S) := HS3.out.on k4
  have HA4 : Hid (At enc k w4 b2 l) := (HA2.out.on K23.out).on k4
  obtain ⟨b4, c4, rfl, hc4, hn4, -⟩ := o4.shape
  have HR4 : Hid (At enc k w4 b4 S) := o4.at EE.out
  rw [hsl] at hc4 ⊢
  clear o4 k4 HR1 hn4 HRO HS3 HA2 K23 K3 K2
  have HM1 : Hid _ := HSA.out w4 b3 b4 n c3 c4 S HS4.out HR4.out hsl.symm (by omega)
  clear hsl HS4 HR4
  go_wp2_with fail
  refine Calls.mono HM1.out ?_
  rintro r w5 ⟨rfl, k5⟩
  have K5 : Hid (Kept w w5) := K4.out.trans' k5
  have HA5 : Hid (At enc k w5 b2 l) := HA4.out.on k5
  have HM2 : Hid _ := HSA.out w5 b2 a n c2 cap l HA5.out (HL.out.on K5.out) EN.out (by omega)
  clear k5 HM1 HA4 K4
  go_wp2_with fail
  refine Calls.mono HM2.out ?_
  rintro r w6 ⟨rfl, k6⟩
  have K6 : Hid (Kept w w6) := K5.out.trans' k6
  have HA6 : Hid (At enc k w6 b2 l) := HA5.out.on k6
  clear k6 HM2 HA5 K5
  have HT : Hid (Ta (w6.alloc (.cells (ta fun _ => 0).toArray 42)) w6.heap.size (fun _ => 0) ∧ Kept w6 (w6.alloc (.cells (ta fun _ => 0).toArray 42))) := ⟨heap_new _ _, (Same.refl _ w6).alloc _⟩
  generalize (ta fun _ => 0).toArray = z0 at v42 HT
  go_wp2_with fail
  generalize World.alloc w6 _ = w7 at HT ⊢
  generalize hge : w6.heap.size = gt at HT ⊢
  have HS : Hid (w6.heap.size = gt) := hge
  clear hge v42
  go_loopw [34] (fun i wr => ∃ j : Nat, i = .int .i64 j ∧ j ≤ n ∧ Kept w6 wr ∧ Ta wr gt (cnt (l.take j))) (fun i _ => n - (intOf i).toNat)
  case atStart => exact ⟨0, rfl, Nat.zero_le _, HT.out.2, HT.out.1⟩
  case round =>
    obtain ⟨j, rfl, hj, kj, tj⟩ := hrel
    rename World => WL
    have HJ : Hid (Kept w6 WL ∧ Ta WL gt (cnt (l.take j))) := ⟨kj, tj⟩
    clear kj tj HT
    by_cases hlt : j < n
    · have d1 : decide ((j : Int) < (n : Int)) = true := decide_eq_true (by omega)
      have hlt2 : (j : Int) < (n : Int) := by omega
      have hj1 : (j : Int) + 1 ≤ 9223372036854775807 := by omega
      obtain ⟨x, hx⟩ : ∃ x, l[j]? = some x := ⟨_, List.getElem?_eq_getElem (by rw [← show n = _ from EN.out]; exact hlt)⟩
      have HX : Hid (cnt (l.take (j + 1)) = bump (cnt (l.take j)) (kdN x)) := cnt_succ hx
      have HC : Hid (cnt (l.take j) (kdN x) ≤ 4398046511104) := Nat.le_trans (cnt_take_le l j _) (by omega)
      obtain ⟨ba, oa, rfl, hba, -⟩ := HL.out j x hx
      have lx := (HL.out.on (K6.out.trans' HJ.out.1)).load0 EE.out hx P
      have hbL : ba < WL.heap.size := Nat.lt_of_lt_of_le hba (K6.out.trans' HJ.out.1).size
      obtain ⟨cx, ecx⟩ : ∃ cx, cx = enc x := ⟨_, rfl⟩
      have ECX : Hid (cx = enc x) := ecx
      have hcxk : cx.length = k := by rw [ecx]; exact EE.out.len x
      rw [← ecx] at lx
      have HNW : Hid ((WL.alloc (.cells cx.toArray 30)).heap[WL.heap.size]? = some (.cells cx.toArray 30 (0, 0))) := heap_new _ _
      have KB : Hid (Kept WL (WL.alloc (.cells cx.toArray 30))) := (Same.refl _ WL).alloc _
      have hst : (storeCells ⟨WL.heap.size, 0, none⟩ cx).run P (WL.alloc (.cells #[.int .i64 0, .int .i64 0, .int .i64 0, .int .i64 0, .int .i64 0, .string .empty, .bool false, .string .empty, .bool false, .string .empty, .int .i64 0, .int .i64 0] 30)) = .ok () (WL.alloc (.cells cx.toArray 30)) := by
        have := run_storeCells_new (P := P) WL 30 #[.int .i64 0, .int .i64 0, .int .i64 0, .int .i64 0, .int .i64 0, .string .empty, .bool false, .string .empty, .bool false, .string .empty, .int .i64 0, .int .i64 0] cx.toArray (by rw [HI30.out]; simp [hcxk]) (by simp [hcxk, H12.out]) (by
          rw [List.all_toArray, List.all_eq_true, ecx]
          exact fun v hv => EE.out.one x v hv)
        simpa using this
      have HNE : Hid (gt ≠ WL.heap.size) := Nat.ne_of_lt (lt_of_heap HJ.out.2)
      clear hx ecx hba
      go_upto_region 10 with fail
      generalize WL.alloc (.cells cx.toArray 30) = W4 at HNW KB ⊢
      generalize WL.heap.size = gx at HNW hbL HNE ⊢
      clear lx hst hbL
      have hgx : gx < W4.heap.size := lt_of_heap HNW.out
      have lbx : ∀ n os, Sem.run P (loadCellsFrom ⟨gx, 0, none⟩ 0 k #[]) (Sort.grow (W4.drewN n) os) = .ok cx.toArray (Sort.grow (W4.drewN n) os) := fun n os => by
        have := At.loadg EE.out (vrow_p (enc := enc) (k := k) (x := x) (by rw [← show cx = _ from ECX.out]; exact HNW.out)) (i := 0) rfl P n os
        rw [← show cx = _ from ECX.out] at this
        simpa using this
      have hv := fun W => HVA.out x W
      have hr := fun W => HRV.out x W
      rw [← show cx = _ from ECX.out] at hv hr
      generalize okV x = ok at hv hr
      have hok : (ok != ok) = false := by simp
      go_quiet_grown (first | (go_at_fn 20; refine Calls.grown_of (hv _)) | (go_at_fn 12; refine Calls.grown_of (hr _)))
      have G : Hid (Kept W4 (Sort.grow (W4.drewN nq) osq)) := Grw.kept ⟨nq, osq, rfl⟩
      generalize Sort.grow (W4.drewN nq) osq = W5 at G ⊢
      have H5 : Hid (W5.heap[gx]? = some (.cells cx.toArray 30 (0, 0)) ∧ Kept w6 W5 ∧ Ta W5 gt (cnt (l.take j))) := ⟨(G.out.block gx hgx (fun e => e)).trans HNW.out, HJ.out.1.trans' (KB.out.trans' G.out), HJ.out.2.on (KB.out.trans' G.out) (fun e => e)⟩
      clear hv hr lbx hgx HNW KB HJ G
      have y0 : W5.cell? ⟨gx, 0, none⟩ = some (.int .i64 x.kd) := by
        rw [cell_of H5.out.1, show cx = _ from ECX.out]; simpa using KD.out x
      have hgx5 := lt_of_heap H5.out.1
      go_upto_region 13 with fail
      go_cut [51] (fun s51 wx => s51 = .bool (!decide (1 ≤ x.kd ∧ x.kd ≤ 10)) ∧ wx = W5)
      case first =>
        by_cases q1 : x.kd < 1
        · have q1b : decide (x.kd < 1) = true := decide_eq_true q1
          go_wp2_with fail
          go_meet
          exact ⟨by rw [decide_eq_false (by omega : ¬ (1 ≤ x.kd ∧ x.kd ≤ 10))]; rfl, rfl⟩
        · have q1b : decide (x.kd < 1) = false := decide_eq_false q1
          by_cases q2 : x.kd > 10
          · have q2b : decide (x.kd > 10) = true := decide_eq_true q2
            go_wp2_with fail
            go_meet
            exact ⟨by rw [decide_eq_false (by omega : ¬ (1 ≤ x.kd ∧ x.kd ≤ 10))]; rfl, rfl⟩
          · have q2b : decide (x.kd > 10) = false := decide_eq_false q2
            go_wp2_with fail
            go_meet
            exact ⟨by rw [decide_eq_true (by omega : (1 ≤ x.kd ∧ x.kd ≤ 10))]; rfl, rfl⟩
      case rest =>
      obtain ⟨rfl, hw⟩ := hcut
      rw [hw]
      clear hw
      go_upto_if 51 with fail
      go_cut [7] (fun s7 wx => s7 = .int .i64 (kdN x : Int) ∧ wx = W5)
      case first =>
        by_cases hk : 1 ≤ x.kd ∧ x.kd ≤ 10
        · have hkb : decide (1 ≤ x.kd ∧ x.kd ≤ 10) = true := decide_eq_true hk
          rw [hkb, Bool.not_true]
          have HK : Hid (x.kd = (kdN x : Int)) := kdN_in hk
          clear hk hkb
          go_wp2_with fail
          go_meet
          exact ⟨by rw [HK.out], rfl⟩
        · have hkb : decide (1 ≤ x.kd ∧ x.kd ≤ 10) = false := decide_eq_false hk
          rw [hkb, Bool.not_false]
          have HK : Hid (kdN x = 0) := kdN_out hk
          clear hk hkb
          go_wp2_with fail
          go_meet
          exact ⟨by rw [HK.out]; rfl, rfl⟩
      case rest =>
      obtain ⟨rfl, hw⟩ := hcut
      rw [hw]
      clear hw
      have hkl := kdN_lt x
      have c0 := H5.out.2.2.cell hkl
      have HP : Hid _ := H5.out.2.2.put hkl
      have SP : Hid (Same (fun b => b = gt) W5 (W5.setCell ⟨gt, kdN x, none⟩ (.int .i64 ((cnt (l.take j) (kdN x) : Int) + 1)))) := (Same.refl (fun b => b = gt) W5).setCell ⟨gt, kdN x, none⟩ (.inr rfl) _
      have fz := frozen_of H5.out.2.2 (kdN x)
      have fc := HC.out
      have hg5 := lt_of_heap H5.out.2.2
      clear y0
      generalize kdN x = kq at *
      go_upto_region 16 with fail
      generalize W5.setCell ⟨gt, kq, none⟩ _ = W6 at HP SP ⊢
      have H6 : Hid (W6.heap[gx]? = some (.cells cx.toArray 30 (0, 0)) ∧ Kept w6 W6 ∧ Ta W6 gt (cnt (l.take (j + 1)))) := ⟨(SP.out.block gx hgx5 (fun e => HNE.out e.symm)).trans H5.out.1, (Kept.to H5.out.2.1 (fun k => w6.heap.size ≤ k)).trans SP.out (fun i _ e => by rw [e, HS.out]; exact Nat.le_refl _) |>.mono fun i hi e => by omega, by rw [HX.out]; exact HP.out⟩
      clear c0 HP SP fz fc hg5 hgx5 H5 HC HX hkl
      by_cases hj0 : 0 < j
      · have f1 : (0 : Int) < (j : Int) := by omega
        have f1b : decide ((j : Int) > 0) = true := decide_eq_true f1
        obtain ⟨i, ei⟩ : ∃ i, i = j - 1 := ⟨_, rfl⟩
        have hi : (j : Int) - 1 = (i : Int) := by omega
        have hwi : IntKind.i64.wrap ((j : Int) - 1) = (i : Int) := by rw [IntKind.wrap_i64] <;> omega
        have hwd : IntKind.i64.wrap (i : Int) = (i : Int) := by rw [IntKind.wrap_i64] <;> omega
        have hin : (i : Int) < (n : Int) := by omega
        obtain ⟨y, hy⟩ : ∃ y, l[i]? = some y := ⟨_, List.getElem?_eq_getElem (by rw [← show n = _ from EN.out]; omega)⟩
        have hb1 := fun W => HBE.out y x W
        have hb2 := fun W => HBE.out x y W
        have hm1 := fun W => HCM.out y x W
        have hm2 := fun W => HCM.out x y W
        have HLX : Hid (∀ W, Kept W6 W → ∀ n os, Sem.run P (loadCellsFrom ⟨gx, 0, none⟩ 0 k #[]) (Sort.grow (W.drewN n) os) = .ok cx.toArray (Sort.grow (W.drewN n) os)) := fun W kk n os => by
          have := At.loadg EE.out (vrow_p (enc := enc) (k := k) (x := x) (by rw [← show cx = _ from ECX.out]; exact (kk.block gx (lt_of_heap H6.out.1) (fun e => e)).trans H6.out.1)) (i := 0) rfl P n os
          rw [← show cx = _ from ECX.out] at this
          simpa using this
        have HLY : Hid (∀ W, Kept W6 W → _) := fun W (kk : Kept W6 W) => (HL.out.on (K6.out.trans' (H6.out.2.1.trans' kk))).loadg EE.out hy P
        obtain ⟨cy, ecy⟩ : ∃ cy, cy = enc y := ⟨_, rfl⟩
        rw [← show cx = _ from ECX.out, ← ecy] at hb1 hb2 hm1 hm2
        rw [← ecy] at HLY
        have HGX : Hid (∀ W, Kept W6 W → gx < W.heap.size) := fun W kk => Nat.lt_of_lt_of_le (lt_of_heap H6.out.1) kk.size
        have hw := cmp_ways y x
        generalize compV y x = c1 at hw hm1
        generalize compV x y = c2 at hw hm2
        generalize ltV y x = b1 at hw hb1
        generalize ltV x y = b2 at hw hb2
        clear ecy ei hy
        rcases hw with ⟨rfl, rfl, rfl, rfl⟩ | ⟨rfl, rfl, rfl, rfl⟩ | ⟨rfl, rfl, rfl, rfl⟩
        all_goals (
          have lx1 := HLX.out W6 (Same.refl _ _)
          have ly1 := HLY.out W6 (Same.refl _ _)
          have hx1 := HGX.out W6 (Same.refl _ _)
          go_upto_region 18 with fail
          go_quiet_grown (first | (go_at_fn 21; refine Calls.grown_of (hb1 _)))
          have G : Hid (Kept W6 (Sort.grow (W6.drewN nq) osq)) := Grw.kept ⟨nq, osq, rfl⟩
          generalize Sort.grow (W6.drewN nq) osq = W7 at G ⊢
          clear lx1 ly1 hx1
          have lx1 := HLX.out W7 G.out
          have ly1 := HLY.out W7 G.out
          have hx1 := HGX.out W7 G.out
          go_upto_region 20 with fail
          go_quiet_grown (first | (go_at_fn 21; refine Calls.grown_of (hb2 _)))
          have G2 : Hid (Kept W6 (Sort.grow (W7.drewN nq) osq)) := G.out.trans' (Grw.kept ⟨nq, osq, rfl⟩)
          generalize Sort.grow (W7.drewN nq) osq = W8 at G2 ⊢
          clear lx1 ly1 hx1
          have lx1 := HLX.out W8 G2.out
          have ly1 := HLY.out W8 G2.out
          have hx1 := HGX.out W8 G2.out
          go_upto_region 22 with fail
          go_quiet_grown (first | (go_at_fn 17; refine Calls.grown_of (hm1 _)) | (go_at_fn 17; refine Calls.grown_of (hm2 _)))
          have G3 : Hid (Kept W6 (Sort.grow (W8.drewN nq) osq)) := G2.out.trans' (Grw.kept ⟨nq, osq, rfl⟩)
          generalize Sort.grow (W8.drewN nq) osq = W9 at G3 ⊢
          clear lx1 ly1 hx1
          try simp only [show IntKind.i64.wrap 1 = 1 from rfl, show IntKind.i64.wrap (-1) = -1 from rfl, show IntKind.i64.wrap 0 = 0 from rfl, bne_self_eq_false]
          go_wp2_with fail
          go_roundw
          case rel => exact ⟨j + 1, by simp, hlt, H6.out.2.1.trans' G3.out, H6.out.2.2.on G3.out (fun e => e)⟩
          case measure => simp only [intOf]; omega)
      · have f1 : ¬ (0 : Int) < (j : Int) := by omega
        have f1b : decide ((j : Int) > 0) = false := decide_eq_false f1
        go_wp2_with fail
        go_roundw
        case rel => exact ⟨j + 1, by simp, hlt, H6.out.2.1, H6.out.2.2⟩
        case measure => simp only [intOf]; omega
    · obtain rfl : n = j := by omega
      have d1 : decide ((n : Int) < (n : Int)) = false := decide_eq_false (by omega)
      have d1' : ¬ (n : Int) < (n : Int) := by omega
      have EC : Hid (cnt (l.take n) = cnt l) := by show _ = _; rw [show n = l.length from EN.out, List.take_length]
      rw [show cnt (l.take n) = _ from EC.out] at HJ
      have HTL : Hid (∀ W, Kept WL W → _) := fun W (kk : Kept WL W) => TAL.out W b2 n c2 ((HA6.out.on HJ.out.1).on kk) EN.out (by omega)
      have HM3 : Hid (∀ W, Kept WL W → _) := fun W (kk : Kept WL W) => HSA.out W b2 a n c2 cap l ((HA6.out.on HJ.out.1).on kk) ((HL.out.on K6.out).on (HJ.out.1.trans' kk)) EN.out (by omega)
      have HLT : Hid (∀ W, Kept WL W → Sem.run P (loadCellsFrom ⟨gt, 0, none⟩ 0 kk #[]) W = .ok (ta (cnt l)).toArray W ∧ gt < W.heap.size) := fun W kk => by
        have t := HJ.out.2.on kk (fun e => e)
        have := t.load P 0 #[]
        rw [Sort.grow_empty, show W.drewN 0 = W from rfl, ← show _ = 11 from H11.out] at this
        exact ⟨this, lt_of_heap t⟩
      have he := HEQ.out (cnt l)
      have hg := fun i j => HEG.out i j (cnt l)
      obtain ⟨ct, ect⟩ : ∃ ct, ct = ta (cnt l) := ⟨_, rfl⟩
      rw [← ect] at HTL HLT he hg
      clear ect
      go_upto_region 25 with fail
      have kd1 : Kept WL WL.drew := (Same.refl _ WL).drew
      have kd2 : Kept WL WL.drew.drew := kd1.drew
      have kd3 : Kept WL WL.drew.drew.drew := kd2.drew
      have l1 := HLT.out _ kd1
      have l2 := HLT.out _ kd2
      have l3 := HLT.out _ kd3
      have HKD : Hid (∀ W, Kept WL W → Kept WL W.drew) := fun W k => k.drew
      have HKT : Hid (∀ W W', Kept WL W → Kept W W' → Kept WL W') := fun W W' k k' => k.trans' k'
      go_region_with_o (first
        | (go_at_fn 22; refine Calls.mono (HTL.out _ (by assumption)) ?_; rintro r WT ⟨rfl, kt⟩; have kt1 := HKT.out _ _ (by assumption) kt; have lt1 := HLT.out _ kt1; have kt2 := HKD.out _ kt1; have lt2 := HLT.out _ kt2; have kt3 := HKD.out _ kt2; have lt3 := HLT.out _ kt3; clear kt)
        | (go_at_fn 13; refine Calls.mono (HM3.out _ (by assumption)) ?_; rintro r WU ⟨rfl, ku⟩; have ku1 := HKT.out _ _ (by assumption) ku; clear ku))
      all_goals (
        have KF : Hid (Kept w _) := (K6.out.trans' HJ.out.1).trans' ku1
        clear ku1
        go_wp2_with fail
        go_ret
        exact ⟨rfl, KF.out⟩)
end Go.Proofs.Ytnfkjblhnpnaeaa
