/- What is proved: the law ViolKeeps answers true; in any program with this text, its list lies in memory. -/
import Derived.Test.YticahglmlfflbaaVRs
import Derived.Test.YticahglmlfflbaaVHold
import Derived.Deep.WholeRow
namespace Go.Proofs.Yticahglmlfflbaa
open Go.RowKit

/-- What the law asks of a program. -/
structure Ak (P : Program) (k : Nat) (enc : Vl → List Value) (eqv : Vl → Vl → Bool) : Prop where
  mixed : P.follows .mixedOrders = true
  E : Ek enc k
  fK : P.funcs[5]? = some Try.f5
  eA : ∀ (args : Array Value) (w : World), Sem.run P (callFunc 9 args) w = .ok (.enter 9 args) w
  eS : ∀ (args : Array Value) (w : World), Sem.run P (callFunc 18 args) w = .ok (.enter 18 args) w
  eC : ∀ (args : Array Value) (w : World), Sem.run P (callFunc 17 args) w = .ok (.enter 17 args) w
  anc : ∀ W, Calls P 9 #[] W fun e w' => e = .returned (.bool true) ∧ Kept W w'
  sor : ∀ (W : World) (a : Option Addr) (cap : Nat) (l : List Vl), At enc k W a l → (a = none → l.length = 0 ∧ cap = 0) → l.length ≤ 1172812402961 → Calls P 18 #[.slice a l.length cap] W fun e w' => ∃ v, e = .returned v ∧ Own enc k 30 W.heap.size w' v (srt ltV l) ∧ Kept W w'
  cmp : ∀ (a b : Vl) (W : World), Calls P 17 #[.agg (enc a).toArray, .agg (enc b).toArray] W fun e w' => e = .returned (.int .i64 (compV a b)) ∧ Grw W w'
  eql : ∀ (a b : Vl) (W : World), Sem.run P (Op.equalIn 10000 30 (.agg (enc a).toArray) (.agg (enc b).toArray)) W = .ok (eqv a b) W
  eqg : ∀ (i j : Nat) (a b : Vl) (W : World), Sem.run P (eqGuard .eql 30 (.tmp i) (.tmp j) (.agg (enc a).toArray) (.agg (enc b).toArray)) W = .ok () W
  t3 : P.underlying 3 = some (TypeDesc.int IntKind.i64)
  t4 : P.underlying 4 = some TypeDesc.bool
  t28 : P.underlying 28 = some (TypeDesc.slice 30)
  a3 : ∀ w, Sem.run P (isAgg 3) w = .ok false w
  a4 : ∀ w, Sem.run P (isAgg 4) w = .ok false w
  a28 : ∀ w, Sem.run P (isAgg 28) w = .ok false w
  a30 : ∀ w, Sem.run P (isAgg 30) w = .ok true w
  z3 : ∀ w, Sem.run P (Go.sizeOf 3) w = .ok 1 w
  z4 : ∀ w, Sem.run P (Go.sizeOf 4) w = .ok 1 w
  z28 : ∀ w, Sem.run P (Go.sizeOf 28) w = .ok 1 w
  z30 : ∀ w, Sem.run P (Go.sizeOf 30) w = .ok k w
  v30 : ∃ zs : Array Value, zs.size = k ∧ ∀ w, Sem.run P (zeroValue 30) w = .ok (.agg zs) w
  hk : k ≤ 16777216
  i30 : ∃ z bytes, (P.info? 30).map (fun i => (i.zero, i.size, i.bytes)) = some (some z, k, bytes) ∧ z.cells.size = k ∧ bytes ≤ 120
/-- How many of the first q are alike. -/
def cnq (eqv : Vl → Vl → Bool) (l : List Vl) (x : Vl) (q : Nat) : Nat := (l.take q).countP fun y => eqv y x
theorem cnq_succ {eqv : Vl → Vl → Bool} {l : List Vl} {x y : Vl} {q : Nat} (h : l[q]? = some y) : cnq eqv l x (q + 1) = cnq eqv l x q + if eqv y x then 1 else 0 := by
  unfold cnq
  rw [List.take_add_one, h, List.countP_append]
  simp [List.countP_cons]
theorem cnq_le (eqv : Vl → Vl → Bool) (l : List Vl) (x : Vl) (q : Nat) : cnq eqv l x q ≤ l.length := Nat.le_trans List.countP_le_length (by rw [List.length_take]; omega)
theorem cnq_all (eqv : Vl → Vl → Bool) {l s : List Vl} (p : s.Perm l) (x : Vl) : cnq eqv s x l.length = cnq eqv l x l.length := by
  unfold cnq
  rw [List.take_length, List.take_of_length_le (by rw [p.length_eq]; exact Nat.le_refl _), p.countP_eq]
set_option maxRecDepth 100000 in
set_option maxHeartbeats 3200000 in
theorem keeps_p {P : Program} {k : Nat} {enc : Vl → List Value} {eqv : Vl → Vl → Bool} (AK : Ak P k enc eqv) (w : World) (a : Option Addr) (cap : Nat) (l : List Vl) (h : At enc k w a l) (hnil : a = none → l.length = 0 ∧ cap = 0) (hl : l.length ≤ 300) :
    Calls P 5 #[.slice a l.length cap] w fun e w' => e = .returned (.bool true) ∧ Kept w w' := by
  obtain ⟨mixed, E, fK, eA, eS, eC, anc, sor, cmp, eql, eqg, t3, t4, t28, a3, a4, a28, a30, z3, z4, z28, z30, ⟨zs, hzl, v30⟩, hkm, zz, bytes, i30, hzs, hby⟩ := AK
  have u28 := run_underlying t28
  have EE : Hid (Ek enc k) := E
  have HI30 : Hid ((P.info? 30).map (·.size) = some k) := by
    obtain ⟨i0, hi0, -, hz1, -⟩ := info_parts i30
    have : (P.info? 30).map (·.size) = some k := by rw [hi0]; simpa using hz1
    exact this
  have HAN : Hid (∀ W, _) := anc
  have HCM : Hid (∀ a b W, _) := cmp
  have HEQ : Hid (∀ a b W, _) := eql
  have HEG : Hid (∀ i j a b W, _) := eqg
  have hk0 : ¬ k = 0 := by have := E.pos; omega
  have hkm' : ¬ 16777216 < k := by omega
  have HCO : Hid (∀ W, Kept w W → ∀ ty, _) := fun W (k' : Kept w W) ty => copy_own (c := cap) E t28 i30 hzs (h.on k') hnil (by have : (l.length + l.length / 4 + 192) * bytes ≤ 2000 * 120 := Nat.mul_le_mul (by omega) hby; omega) (by unfold maxLen; omega) ty
  have HSO : Hid (∀ (W : World) (b : Option Addr) (c : Nat), At enc k W b l → (b = none → l.length = 0 ∧ c = 0) → _) := fun W b c h1 h2 => sor W b c l h1 h2 (by omega)
  have HL : Hid (At enc k w a l) := h
  have HP : Hid ((srt ltV l).Perm l ∧ (srt ltV l).Pairwise fun a b => ltV b a = false) := ⟨srt_perm _ _, srt_pw ltV_swo _⟩
  have hsl : (srt ltV l).length = l.length := srt_len _ _
  generalize srt ltV l = S at HSO HP hsl
  obtain ⟨n, en⟩ : ∃ n, n = l.length := ⟨_, rfl⟩
  rw [← en] at hl hsl HCO HSO ⊢
  have EN : Hid (n = l.length) := en
  have d1 : decide ((n : Int) > 300) = false := decide_eq_false (by omega)
  have d1' : ¬ (300 : Int) < (n : Int) := by omega
  clear anc sor cmp eql eqg h hnil en E
  go_enter fK, Try.ntmps5
  go_wp2_with fail
  refine Calls.mono (HAN.out _) ?_
  rintro r w1 ⟨rfl, k1⟩
  have K1 : Hid (Kept w w1) := k1
  have HC1 : Hid _ := HCO.out w1 k1
  clear k1 HAN HCO
  go_wp2_with (at_builtin; refine wpList_app rfl (.tmp 13) (.tmp 14) 28 rfl (.slice (some ⟨w1.heap.size, 0, none⟩) 0 0) (.slice a n cap) rfl rfl _ HC1.out ?_; rintro v2 w2 ⟨o2, k2⟩; have R : Hid _ := And.intro o2 k2; clear o2 k2)
  obtain ⟨b2, c2, rfl, hc2, hn2, -⟩ := R.out.1.shape
  have HS1 : Hid _ := HSO.out w2 b2 c2 (R.out.1.at EE.out) (fun e => by have := hn2 e; have h3 := EN.out; rw [this.1] at h3; exact ⟨by simpa using h3, this.2⟩)
  have K2 : Hid (Kept w w2) := K1.out.trans' R.out.2
  rw [← show n = _ from EN.out]
  clear HSO HC1 R hc2 hn2 K1
  refine Calls.mono HS1.out ?_
  rintro r w3 ⟨v3, rfl, o3, k3⟩
  have K3 : Hid (Kept w w3) := K2.out.trans' k3
  obtain ⟨b3, c3, rfl, hc3, hn3, -⟩ := o3.shape
  have HS3 : Hid (At enc k w3 b3 S) := o3.at EE.out
  rw [hsl] at hc3 ⊢
  clear o3 k3 HS1 K2 hn3
  have HSL : Hid (S.length = n) := hsl
  clear hsl
  go_wp2_with fail
  go_loopw [24] (fun i wr => ∃ j : Nat, i = .int .i64 (j : Int) ∧ j ≤ n ∧ Kept w3 wr) (fun i _ => n - (intOf i).toNat)
  case atStart => exact ⟨0, rfl, Nat.zero_le _, Same.refl _ _⟩
  case round =>
    obtain ⟨j, rfl, hj, hk⟩ := hrel
    rename World => WL
    have KL : Hid (Kept w3 WL) := hk
    by_cases hjn : j < n
    · have e1 : (j : Int) < (n : Int) := by omega
      have e1b : decide ((j : Int) < (n : Int)) = true := decide_eq_true e1
      obtain ⟨x, hx⟩ : ∃ x, S[j]? = some x := ⟨_, List.getElem?_eq_getElem (by rw [show S.length = n from HSL.out]; exact hjn)⟩
      have HX : Hid (S[j]? = some x) := hx
      obtain ⟨g3, o3, rfl, hg3, -⟩ := HS3.out j x hx
      have lx := (HS3.out.on hk).load0 EE.out hx P
      have hg3L : g3 < WL.heap.size := Nat.lt_of_lt_of_le hg3 hk.size
      obtain ⟨cx, ecx⟩ : ∃ cx, cx = enc x := ⟨_, rfl⟩
      have ECX : Hid (cx = enc x) := ecx
      have hcxk : cx.length = k := by rw [ecx]; exact EE.out.len x
      rw [← ecx] at lx
      have HNW : Hid ((WL.alloc (.cells cx.toArray 30)).heap[WL.heap.size]? = some (.cells cx.toArray 30 (0, 0))) := heap_new _ _
      have K4 : Hid (Kept w3 (WL.alloc (.cells cx.toArray 30))) := hk.alloc _
      have hst : (storeCells ⟨WL.heap.size, 0, none⟩ cx).run P (WL.alloc (.cells zs 30)) = .ok () (WL.alloc (.cells cx.toArray 30)) := by
        have := run_storeCells_new (P := P) WL 30 zs cx.toArray (by rw [HI30.out]; simp [hcxk]) (by rw [hzl]; simp [hcxk]) (by
          rw [List.all_toArray, List.all_eq_true, ecx]
          exact fun v hv => EE.out.one x v hv)
        simpa using this
      clear hx hk ecx hg3
      go_upto_region 11 with fail
      generalize WL.alloc (.cells cx.toArray 30) = W4 at HNW K4 ⊢
      generalize WL.heap.size = gx at HNW hg3L ⊢
      clear lx hst hg3L
      have hgx : gx < W4.heap.size := lt_of_heap HNW.out
      have lbx : ∀ n os, Sem.run P (loadCellsFrom ⟨gx, 0, none⟩ 0 k #[]) (Sort.grow (W4.drewN n) os) = .ok cx.toArray (Sort.grow (W4.drewN n) os) := fun n os => by
        have := At.loadg EE.out (vrow_p (enc := enc) (k := k) (x := x) (by rw [← show cx = _ from ECX.out]; exact HNW.out)) (i := 0) rfl P n os
        rw [← show cx = _ from ECX.out] at this
        simpa using this
      have HPOST : Hid (∀ W5, Kept W4 W5 → _) := fun W5 (k5 : Kept W4 W5) => And.intro ((k5.block gx hgx (fun e => e)).trans HNW.out) (K4.out.trans' k5)
      by_cases hj0 : 0 < j
      · have f1 : (0 : Int) < (j : Int) := by omega
        have f1b : decide ((j : Int) > 0) = true := decide_eq_true f1
        obtain ⟨i, ei⟩ : ∃ i, i = j - 1 := ⟨_, rfl⟩
        have hi : (j : Int) - 1 = (i : Int) := by omega
        have hwi : IntKind.i64.wrap ((j : Int) - 1) = (i : Int) := by rw [IntKind.wrap_i64] <;> omega
        have hwd : IntKind.i64.wrap (i : Int) = (i : Int) := by rw [IntKind.wrap_i64] <;> omega
        have hin : (i : Int) < (n : Int) := by omega
        obtain ⟨y, hy⟩ : ∃ y, S[i]? = some y := ⟨_, List.getElem?_eq_getElem (by rw [show S.length = n from HSL.out]; omega)⟩
        have ly := (HS3.out.on K4.out).loadg EE.out hy P
        have hcv : ¬ compV y x > 0 := by
          have h1 := List.pairwise_iff_getElem.1 HP.out.2 i j (List.getElem?_eq_some_iff.1 hy).1 (List.getElem?_eq_some_iff.1 HX.out).1 (by omega)
          rw [(List.getElem?_eq_some_iff.1 hy).2, (List.getElem?_eq_some_iff.1 HX.out).2] at h1
          have h2 : ¬ compV x y < 0 := by simpa [ltV] using h1
          rw [compV_swap] at h2
          omega
        have hcvb : decide (compV y x > 0) = false := decide_eq_false hcv
        have hcv' : ¬ 0 < compV y x := hcv
        have hcc := fun W => HCM.out y x W
        rw [← show cx = _ from ECX.out] at hcc
        obtain ⟨cy, ecy⟩ : ∃ cy, cy = enc y := ⟨_, rfl⟩
        rw [← ecy] at ly hcc
        clear ecy ei hy
        generalize compV y x = cv at *
        go_quiet_grown (first | (go_at_fn 17; refine Calls.grown_of (hcc _)))
        have G : Hid (Kept W4 (Sort.grow (W4.drewN nq) osq)) := Grw.kept ⟨nq, osq, rfl⟩
        generalize Sort.grow (W4.drewN nq) osq = W5 at G ⊢
        clear hcc ly lbx hgx hcv hcvb hcv' hin hwi hwd hi f1 f1b
        obtain ⟨hb5, k5⟩ := HPOST.out W5 G.out
        have HB5 : Hid (W5.heap[gx]? = some (.cells cx.toArray 30 (0, 0))) := hb5
        have K5 : Hid (Kept w3 W5) := k5
        clear hb5 k5 HPOST G HNW K4
        go_wp2_with fail
        go_loopw [6, 43] (fun u v wr => ∃ q : Nat, v = .int .i64 (q : Int) ∧ q ≤ n ∧ u = .int .i64 ((cnq eqv S x q : Int) - (cnq eqv l x q : Int)) ∧ Kept W5 wr) (fun _ v _ => n - (intOf v).toNat)
        case atStart => exact ⟨0, rfl, Nat.zero_le _, by simp [cnq], Same.refl _ _⟩
        case round =>
          obtain ⟨q, rfl, hq, rfl, hkq⟩ := hrel
          rename World => WR
          have KR : Hid (Kept W5 WR) := hkq
          by_cases hqn : q < n
          · have g1 : (q : Int) < (n : Int) := by omega
            have g1b : decide ((q : Int) < (n : Int)) = true := decide_eq_true g1
            have hq1 : (q : Int) + 1 ≤ 1172812402961 := by omega
            obtain ⟨y, hy⟩ : ∃ y, S[q]? = some y := ⟨_, List.getElem?_eq_getElem (by rw [show S.length = n from HSL.out]; exact hqn)⟩
            obtain ⟨z, hz⟩ : ∃ z, l[q]? = some z := ⟨_, List.getElem?_eq_getElem (by rw [← show n = _ from EN.out]; exact hqn)⟩
            obtain ⟨ga, oa, rfl, hga, -⟩ := HL.out q z hz
            have cb1 := cnq_le eqv S x q
            have cb2 := cnq_le eqv l x q
            rw [show S.length = n from HSL.out] at cb1
            rw [← show n = _ from EN.out] at cb2
            have HQ1 : Hid _ := cnq_succ (eqv := eqv) (x := x) hy
            have HQ2 : Hid _ := cnq_succ (eqv := eqv) (x := x) hz
            obtain ⟨c, ec⟩ : ∃ c : Int, c = (cnq eqv S x q : Int) - (cnq eqv l x q : Int) := ⟨_, rfl⟩
            rw [← ec]
            have EC : Hid (c = (cnq eqv S x q : Int) - (cnq eqv l x q : Int)) := ec
            have hc1 : c ≤ 300 := by omega
            have hc2 : -300 ≤ c := by omega
            have HLX : Hid (∀ W, Kept W5 W → ∀ n os, Sem.run P (loadCellsFrom ⟨gx, 0, none⟩ 0 k #[]) (Sort.grow (W.drewN n) os) = .ok cx.toArray (Sort.grow (W.drewN n) os)) := fun W kk n os => by
              have := At.loadg EE.out (vrow_p (enc := enc) (k := k) (x := x) (by rw [← show cx = _ from ECX.out]; exact (kk.block gx (lt_of_heap HB5.out) (fun e => e)).trans HB5.out)) (i := 0) rfl P n os
              rw [← show cx = _ from ECX.out] at this
              simpa using this
            have HLY : Hid (∀ W, Kept W5 W → _) := fun W (kk : Kept W5 W) => (HS3.out.on (K5.out.trans' kk)).loadg EE.out hy P
            have HLZ : Hid (∀ W, Kept W5 W → _) := fun W (kk : Kept W5 W) => (HL.out.on (K3.out.trans' (K5.out.trans' kk))).loadg EE.out hz P
            have he1 := HEQ.out y x
            have he2 := HEQ.out z x
            have hf1 := fun i j => HEG.out i j y x
            have hf2 := fun i j => HEG.out i j z x
            rw [← show cx = _ from ECX.out] at he1 he2
            rw [← show cx = _ from ECX.out] at hf1 hf2
            obtain ⟨cy, ecy⟩ : ∃ cy, cy = enc y := ⟨_, rfl⟩
            obtain ⟨cz, ecz⟩ : ∃ cz, cz = enc z := ⟨_, rfl⟩
            rw [← ecy] at HLY he1 hf1
            rw [← ecz] at HLZ he2 hf2
            have lx1 := HLX.out WR hkq
            have ly1 := HLY.out WR hkq
            have hgxR : gx < WR.heap.size := Nat.lt_of_lt_of_le (lt_of_heap HB5.out) hkq.size
            clear hy hz hga cb1 cb2 ec ecy ecz hkq hq
            generalize eqv y x = b1 at he1 HQ1
            generalize eqv z x = b2 at he2 HQ2
            cases b1 <;> cases b2
            · go_wp2_with fail
              go_quiet_grown (fail)
              have G : Hid (Kept W5 (Sort.grow (WR.drewN nq) osq)) := KR.out.trans' (Grw.kept ⟨nq, osq, rfl⟩)
              generalize Sort.grow (WR.drewN nq) osq = W7 at G ⊢
              have lx2 := HLX.out W7 G.out
              have lz2 := HLZ.out W7 G.out
              clear lx1 ly1
              go_wp2_with fail
              go_quiet_grown (fail)
              have G2 : Hid (Kept W5 (Sort.grow (W7.drewN nq) osq)) := G.out.trans' (Grw.kept ⟨_, _, rfl⟩)
              generalize Sort.grow (W7.drewN nq) osq = W8 at G2 ⊢
              go_wp2_with fail
              go_roundw
              case rel => exact ⟨q + 1, by simp, hqn, by rw [HQ1.out, HQ2.out]; have := EC.out; simp; omega, G2.out⟩
              case measure => simp only [intOf]; omega
            · go_wp2_with fail
              go_quiet_grown (fail)
              have G : Hid (Kept W5 (Sort.grow (WR.drewN nq) osq)) := KR.out.trans' (Grw.kept ⟨nq, osq, rfl⟩)
              generalize Sort.grow (WR.drewN nq) osq = W7 at G ⊢
              have lx2 := HLX.out W7 G.out
              have lz2 := HLZ.out W7 G.out
              clear lx1 ly1
              go_wp2_with fail
              go_quiet_grown (fail)
              have G2 : Hid (Kept W5 (Sort.grow (W7.drewN nq) osq)) := G.out.trans' (Grw.kept ⟨_, _, rfl⟩)
              generalize Sort.grow (W7.drewN nq) osq = W8 at G2 ⊢
              go_wp2_with fail
              go_roundw
              case rel => exact ⟨q + 1, by simp, hqn, by rw [HQ1.out, HQ2.out]; have := EC.out; simp; omega, G2.out⟩
              case measure => simp only [intOf]; omega
            · go_wp2_with fail
              go_quiet_grown (fail)
              have G : Hid (Kept W5 (Sort.grow (WR.drewN nq) osq)) := KR.out.trans' (Grw.kept ⟨nq, osq, rfl⟩)
              generalize Sort.grow (WR.drewN nq) osq = W7 at G ⊢
              have lx2 := HLX.out W7 G.out
              have lz2 := HLZ.out W7 G.out
              clear lx1 ly1
              go_wp2_with fail
              go_quiet_grown (fail)
              have G2 : Hid (Kept W5 (Sort.grow (W7.drewN nq) osq)) := G.out.trans' (Grw.kept ⟨_, _, rfl⟩)
              generalize Sort.grow (W7.drewN nq) osq = W8 at G2 ⊢
              go_wp2_with fail
              go_roundw
              case rel => exact ⟨q + 1, by simp, hqn, by rw [HQ1.out, HQ2.out]; have := EC.out; simp; omega, G2.out⟩
              case measure => simp only [intOf]; omega
            · go_wp2_with fail
              go_quiet_grown (fail)
              have G : Hid (Kept W5 (Sort.grow (WR.drewN nq) osq)) := KR.out.trans' (Grw.kept ⟨nq, osq, rfl⟩)
              generalize Sort.grow (WR.drewN nq) osq = W7 at G ⊢
              have lx2 := HLX.out W7 G.out
              have lz2 := HLZ.out W7 G.out
              clear lx1 ly1
              go_wp2_with fail
              go_quiet_grown (fail)
              have G2 : Hid (Kept W5 (Sort.grow (W7.drewN nq) osq)) := G.out.trans' (Grw.kept ⟨_, _, rfl⟩)
              generalize Sort.grow (W7.drewN nq) osq = W8 at G2 ⊢
              go_wp2_with fail
              go_roundw
              case rel => exact ⟨q + 1, by simp, hqn, by rw [HQ1.out, HQ2.out]; have := EC.out; simp; omega, G2.out⟩
              case measure => simp only [intOf]; omega
          · obtain rfl : n = q := by omega
            have g1 : ¬ (n : Int) < (n : Int) := by omega
            have g1b : decide ((n : Int) < (n : Int)) = false := decide_eq_false g1
            have hc0 : (cnq eqv S x n : Int) - (cnq eqv l x n : Int) = 0 := by
              rw [show n = l.length from EN.out, cnq_all eqv HP.out.1 x]; omega
            rw [hc0]
            clear hkq hc0
            go_wp2_with fail
            go_roundw
            case rel => exact ⟨j + 1, by simp, by omega, K5.out.trans' KR.out⟩
            case measure => simp only [intOf]; omega
      · have f1c : decide (0 < j) = false := decide_eq_false hj0
        have HJ0 : Hid (¬ 0 < j) := hj0
        clear hj0 hj
        clear lbx
        go_big_region_o
        have G : Hid (Kept W4 W4.drew) := (Same.refl _ W4).drew
        generalize W4.drew = W5 at G ⊢
        clear hgx f1c
        obtain ⟨hb5, k5⟩ := HPOST.out W5 G.out
        have HB5 : Hid (W5.heap[gx]? = some (.cells cx.toArray 30 (0, 0))) := hb5
        have K5 : Hid (Kept w3 W5) := k5
        clear hb5 k5 HPOST G HNW K4
        go_wp2_with fail
        go_loopw [6, 43] (fun u v wr => ∃ q : Nat, v = .int .i64 (q : Int) ∧ q ≤ n ∧ u = .int .i64 ((cnq eqv S x q : Int) - (cnq eqv l x q : Int)) ∧ Kept W5 wr) (fun _ v _ => n - (intOf v).toNat)
        case atStart => exact ⟨0, rfl, Nat.zero_le _, by simp [cnq], Same.refl _ _⟩
        case round =>
          obtain ⟨q, rfl, hq, rfl, hkq⟩ := hrel
          rename World => WR
          have KR : Hid (Kept W5 WR) := hkq
          by_cases hqn : q < n
          · have g1 : (q : Int) < (n : Int) := by omega
            have g1b : decide ((q : Int) < (n : Int)) = true := decide_eq_true g1
            have hq1 : (q : Int) + 1 ≤ 1172812402961 := by omega
            obtain ⟨y, hy⟩ : ∃ y, S[q]? = some y := ⟨_, List.getElem?_eq_getElem (by rw [show S.length = n from HSL.out]; exact hqn)⟩
            obtain ⟨z, hz⟩ : ∃ z, l[q]? = some z := ⟨_, List.getElem?_eq_getElem (by rw [← show n = _ from EN.out]; exact hqn)⟩
            obtain ⟨ga, oa, rfl, hga, -⟩ := HL.out q z hz
            have cb1 := cnq_le eqv S x q
            have cb2 := cnq_le eqv l x q
            rw [show S.length = n from HSL.out] at cb1
            rw [← show n = _ from EN.out] at cb2
            have HQ1 : Hid _ := cnq_succ (eqv := eqv) (x := x) hy
            have HQ2 : Hid _ := cnq_succ (eqv := eqv) (x := x) hz
            obtain ⟨c, ec⟩ : ∃ c : Int, c = (cnq eqv S x q : Int) - (cnq eqv l x q : Int) := ⟨_, rfl⟩
            rw [← ec]
            have EC : Hid (c = (cnq eqv S x q : Int) - (cnq eqv l x q : Int)) := ec
            have hc1 : c ≤ 300 := by omega
            have hc2 : -300 ≤ c := by omega
            have HLX : Hid (∀ W, Kept W5 W → ∀ n os, Sem.run P (loadCellsFrom ⟨gx, 0, none⟩ 0 k #[]) (Sort.grow (W.drewN n) os) = .ok cx.toArray (Sort.grow (W.drewN n) os)) := fun W kk n os => by
              have := At.loadg EE.out (vrow_p (enc := enc) (k := k) (x := x) (by rw [← show cx = _ from ECX.out]; exact (kk.block gx (lt_of_heap HB5.out) (fun e => e)).trans HB5.out)) (i := 0) rfl P n os
              rw [← show cx = _ from ECX.out] at this
              simpa using this
            have HLY : Hid (∀ W, Kept W5 W → _) := fun W (kk : Kept W5 W) => (HS3.out.on (K5.out.trans' kk)).loadg EE.out hy P
            have HLZ : Hid (∀ W, Kept W5 W → _) := fun W (kk : Kept W5 W) => (HL.out.on (K3.out.trans' (K5.out.trans' kk))).loadg EE.out hz P
            have he1 := HEQ.out y x
            have he2 := HEQ.out z x
            have hf1 := fun i j => HEG.out i j y x
            have hf2 := fun i j => HEG.out i j z x
            rw [← show cx = _ from ECX.out] at he1 he2
            rw [← show cx = _ from ECX.out] at hf1 hf2
            obtain ⟨cy, ecy⟩ : ∃ cy, cy = enc y := ⟨_, rfl⟩
            obtain ⟨cz, ecz⟩ : ∃ cz, cz = enc z := ⟨_, rfl⟩
            rw [← ecy] at HLY he1 hf1
            rw [← ecz] at HLZ he2 hf2
            have lx1 := HLX.out WR hkq
            have ly1 := HLY.out WR hkq
            have hgxR : gx < WR.heap.size := Nat.lt_of_lt_of_le (lt_of_heap HB5.out) hkq.size
            clear hy hz hga cb1 cb2 ec ecy ecz hkq hq
            generalize eqv y x = b1 at he1 HQ1
            generalize eqv z x = b2 at he2 HQ2
            cases b1 <;> cases b2
            · go_wp2_with fail
              go_quiet_grown (fail)
              have G : Hid (Kept W5 (Sort.grow (WR.drewN nq) osq)) := KR.out.trans' (Grw.kept ⟨nq, osq, rfl⟩)
              generalize Sort.grow (WR.drewN nq) osq = W7 at G ⊢
              have lx2 := HLX.out W7 G.out
              have lz2 := HLZ.out W7 G.out
              clear lx1 ly1
              go_wp2_with fail
              go_quiet_grown (fail)
              have G2 : Hid (Kept W5 (Sort.grow (W7.drewN nq) osq)) := G.out.trans' (Grw.kept ⟨_, _, rfl⟩)
              generalize Sort.grow (W7.drewN nq) osq = W8 at G2 ⊢
              go_wp2_with fail
              go_roundw
              case rel => exact ⟨q + 1, by simp, hqn, by rw [HQ1.out, HQ2.out]; have := EC.out; simp; omega, G2.out⟩
              case measure => simp only [intOf]; omega
            · go_wp2_with fail
              go_quiet_grown (fail)
              have G : Hid (Kept W5 (Sort.grow (WR.drewN nq) osq)) := KR.out.trans' (Grw.kept ⟨nq, osq, rfl⟩)
              generalize Sort.grow (WR.drewN nq) osq = W7 at G ⊢
              have lx2 := HLX.out W7 G.out
              have lz2 := HLZ.out W7 G.out
              clear lx1 ly1
              go_wp2_with fail
              go_quiet_grown (fail)
              have G2 : Hid (Kept W5 (Sort.grow (W7.drewN nq) osq)) := G.out.trans' (Grw.kept ⟨_, _, rfl⟩)
              generalize Sort.grow (W7.drewN nq) osq = W8 at G2 ⊢
              go_wp2_with fail
              go_roundw
              case rel => exact ⟨q + 1, by simp, hqn, by rw [HQ1.out, HQ2.out]; have := EC.out; simp; omega, G2.out⟩
              case measure => simp only [intOf]; omega
            · go_wp2_with fail
              go_quiet_grown (fail)
              have G : Hid (Kept W5 (Sort.grow (WR.drewN nq) osq)) := KR.out.trans' (Grw.kept ⟨nq, osq, rfl⟩)
              generalize Sort.grow (WR.drewN nq) osq = W7 at G ⊢
              have lx2 := HLX.out W7 G.out
              have lz2 := HLZ.out W7 G.out
              clear lx1 ly1
              go_wp2_with fail
              go_quiet_grown (fail)
              have G2 : Hid (Kept W5 (Sort.grow (W7.drewN nq) osq)) := G.out.trans' (Grw.kept ⟨_, _, rfl⟩)
              generalize Sort.grow (W7.drewN nq) osq = W8 at G2 ⊢
              go_wp2_with fail
              go_roundw
              case rel => exact ⟨q + 1, by simp, hqn, by rw [HQ1.out, HQ2.out]; have := EC.out; simp; omega, G2.out⟩
              case measure => simp only [intOf]; omega
            · go_wp2_with fail
              go_quiet_grown (fail)
              have G : Hid (Kept W5 (Sort.grow (WR.drewN nq) osq)) := KR.out.trans' (Grw.kept ⟨nq, osq, rfl⟩)
              generalize Sort.grow (WR.drewN nq) osq = W7 at G ⊢
              have lx2 := HLX.out W7 G.out
              have lz2 := HLZ.out W7 G.out
              clear lx1 ly1
              go_wp2_with fail
              go_quiet_grown (fail)
              have G2 : Hid (Kept W5 (Sort.grow (W7.drewN nq) osq)) := G.out.trans' (Grw.kept ⟨_, _, rfl⟩)
              generalize Sort.grow (W7.drewN nq) osq = W8 at G2 ⊢
              go_wp2_with fail
              go_roundw
              case rel => exact ⟨q + 1, by simp, hqn, by rw [HQ1.out, HQ2.out]; have := EC.out; simp; omega, G2.out⟩
              case measure => simp only [intOf]; omega
          · obtain rfl : n = q := by omega
            have g1 : ¬ (n : Int) < (n : Int) := by omega
            have g1b : decide ((n : Int) < (n : Int)) = false := decide_eq_false g1
            have hc0 : (cnq eqv S x n : Int) - (cnq eqv l x n : Int) = 0 := by
              rw [show n = l.length from EN.out, cnq_all eqv HP.out.1 x]; omega
            rw [hc0]
            clear hkq hc0
            go_wp2_with fail
            go_roundw
            case rel => exact ⟨j + 1, by simp, by omega, K5.out.trans' KR.out⟩
            case measure => simp only [intOf]; omega
    · obtain rfl : n = j := by omega
      have e1 : ¬ (n : Int) < (n : Int) := by omega
      have e1b : decide ((n : Int) < (n : Int)) = false := decide_eq_false e1
      clear hk
      go_wp2_with fail
      go_ret
      exact ⟨rfl, K3.out.trans' KL.out⟩
end Go.Proofs.Yticahglmlfflbaa
