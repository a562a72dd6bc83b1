/- What is proved: the document's Sort, plain facts, and: the law ReportList answers true; conditions: the list's length, that the tables lie as their texts lay them -/
import Derived.Test.YtfhaiklfbnfdlaaDoorVrE
import Derived.Laws.MakeOwn
import Derived.Test.YtfhaiklfbnfdlaaDoorRpE
import Derived.Test.YtfhaiklfbnfdlaaDoorRoG
import Derived.Test.YtfhaiklfbnfdlaaDoorRpF
import Derived.Test.YtfhaiklfbnfdlaaDoorRoX
import Derived.Test.YtfhaiklfbnfdlaaDoorRpC
import Derived.Test.YtfhaiklfbnfdlaaDoorRoV
import Derived.Test.YtfhaiklfbnfdlaaDoorRoO
import Derived.Test.YtfhaiklfbnfdlaaDoorRoT
import Derived.Deep.WholeRow
namespace Go.Proofs.YtfhaiklfbnfdlaaDoor.Vi
open Go.RowKit

theorem fold_set (l : List Value) : ∀ (n : Nat) (A : Array Value), A.size = n + l.length → (l.zipIdx n).foldl (fun cs x => cs.setIfInBounds x.snd x.fst) A = (A.toList.take n ++ l).toArray := by
  induction l with
  | nil =>
    intro n A h
    simp only [List.zipIdx_nil, List.foldl_nil, List.append_nil]
    rw [List.take_of_length_le (by simp at h ⊢; omega)]
  | cons a l ih =>
    intro n A h
    simp only [List.length_cons] at h
    rw [List.zipIdx_cons, List.foldl_cons, ih (n + 1) _ (by simp; omega)]
    congr 1
    simp only [Array.toList_setIfInBounds]
    rw [List.take_add_one, List.take_set_of_le (Nat.le_refl _), List.getElem?_set]
    simp [show n < A.size by omega]
theorem fold_all (l : List Value) (A : Array Value) (h : A.size = l.length) : l.zipIdx.foldl (fun cs x => cs.setIfInBounds x.snd x.fst) A = l.toArray := by
  have := fold_set l 0 A (by omega)
  simpa using this
/-- What the document's sort asks of a program. -/
structure Aw (P : Program) (k : Nat) (enc : Vl → List Value) : Prop where
  mixed : P.follows .mixedOrders = true
  E : Ek enc k
  fS : P.funcs[19]? = some Tryd.f19
  eB : ∀ (args : Array Value) (w : World), Sem.run P (callFunc 20 args) w = .ok (.enter 20 args) w
  eS : ∀ (args : Array Value) (w : World), Sem.run P (callFunc 19 args) w = .ok (.enter 19 args) w
  bef : ∀ (a b : Vl) (W : World), Calls P 20 #[.agg (enc a).toArray, .agg (enc b).toArray] W fun e w' => e = .returned (.bool (ltV a b)) ∧ Grw W w'
  t0 : P.underlying 0 = some (TypeDesc.tuple #[])
  t3 : P.underlying 3 = some (TypeDesc.int IntKind.i64)
  t4 : P.underlying 4 = some TypeDesc.bool
  t28 : P.underlying 23 = some (TypeDesc.slice 41)
  a0 : ∀ w, Sem.run P (isAgg 0) w = .ok false w
  a3 : ∀ w, Sem.run P (isAgg 3) w = .ok false w
  a4 : ∀ w, Sem.run P (isAgg 4) w = .ok false w
  a28 : ∀ w, Sem.run P (isAgg 23) w = .ok false w
  a30 : ∀ w, Sem.run P (isAgg 41) w = .ok true w
  z0 : ∀ w, Sem.run P (Go.sizeOf 0) w = .ok 1 w
  z3 : ∀ w, Sem.run P (Go.sizeOf 3) w = .ok 1 w
  z4 : ∀ w, Sem.run P (Go.sizeOf 4) w = .ok 1 w
  z28 : ∀ w, Sem.run P (Go.sizeOf 23) w = .ok 1 w
  z30 : ∀ w, Sem.run P (Go.sizeOf 41) w = .ok k w
  v30 : ∃ zs : Array Value, ∀ w, Sem.run P (zeroValue 41) w = .ok (.agg zs) w
  hk : k ≤ 16777216
  i30 : ∃ z bytes, (P.info? 41).map (fun i => (i.zero, i.size, i.bytes)) = some (some z, k, bytes) ∧ z.cells.size = k ∧ bytes ≤ 120
/-- What stands while two sorted lists are laid into one. -/
structure Mg (enc : Vl → List Value) (k : Nat) (w : World) (base : Nat) (A B : List Vl) (ov : Value) (i j : Nat) (wr : World) : Prop where
  own : ∃ O, Own enc k 41 base wr ov O ∧ O.length = i + j ∧ O ++ mrg ltV (A.drop i) (B.drop j) = mrg ltV A B
  il : i ≤ A.length
  jl : j ≤ B.length
  same : Same (fun k => base ≤ k) w wr
theorem Mg.more {enc : Vl → List Value} {k : Nat} {w : World} {base : Nat} {A B : List Vl} {ov v5 : Value} {i j i' j' : Nat} {wr W w5 : World} {x : Vl} {O : List Vl} (m : Mg enc k w base A B ov i j wr) (hO : Own enc k 41 base wr ov O) (hl : O.length = i + j) (he : O ++ mrg ltV (A.drop i) (B.drop j) = mrg ltV A B)
    (kk : Kept wr W) (o5 : Own enc k 41 base w5 v5 (O ++ [x])) (k5 : Same (fun k => ov.ownBlock = some k) W w5) (hn : mrg ltV (A.drop i) (B.drop j) = x :: mrg ltV (A.drop i') (B.drop j')) (hs : i' + j' = i + j + 1) (hi : i' ≤ A.length) (hj : j' ≤ B.length) : Mg enc k w base A B v5 i' j' w5 :=
  ⟨⟨O ++ [x], o5, by simp; omega, by rw [← he, hn]; simp⟩, hi, hj, (m.same.trans' (kk.to _)).trans k5 fun b _ e => (hO.block e).1⟩
theorem mrg_takeA {A B : List Vl} {i j : Nat} {x : Vl} (hx : A[i]? = some x) (h : B.length ≤ j ∨ ∃ y, B[j]? = some y ∧ ltV y x = false) : mrg ltV (A.drop i) (B.drop j) = x :: mrg ltV (A.drop (i + 1)) (B.drop j) := by
  obtain ⟨hi, rfl⟩ := List.getElem?_eq_some_iff.1 hx
  rw [List.drop_eq_getElem_cons hi]
  rcases h with h | ⟨y, hy, hb⟩
  · rw [List.drop_eq_nil_of_le h, mrg_nil, mrg_nil]
  · obtain ⟨hj, rfl⟩ := List.getElem?_eq_some_iff.1 hy
    rw [List.drop_eq_getElem_cons hj, mrg_fst _ _ hb]
theorem mrg_takeB {A B : List Vl} {i j : Nat} {y : Vl} (hy : B[j]? = some y) (h : A.length ≤ i ∨ ∃ x, A[i]? = some x ∧ ltV y x = true) : mrg ltV (A.drop i) (B.drop j) = y :: mrg ltV (A.drop i) (B.drop (j + 1)) := by
  obtain ⟨hj, rfl⟩ := List.getElem?_eq_some_iff.1 hy
  rw [List.drop_eq_getElem_cons hj]
  rcases h with h | ⟨x, hx, hb⟩
  · rw [List.drop_eq_nil_of_le h, nil_mrg, nil_mrg]
  · obtain ⟨hi, rfl⟩ := List.getElem?_eq_some_iff.1 hx
    rw [List.drop_eq_getElem_cons hi, mrg_snd _ _ hb]
theorem vrow_p {enc : Vl → List Value} {w : World} {k g : Nat} {x : Vl} {ty : TypeId} (h : w.heap[g]? = some (.cells (enc x).toArray ty (0, 0))) : At enc k w (some ⟨g, 0, none⟩) [x] := fun j y hy => by
  match j, hy with
  | 0, hy =>
    simp at hy
    subst hy
    refine ⟨g, 0, rfl, lt_of_heap h, fun c v hv => ?_⟩
    rw [cell_of h, Nat.zero_mul, Nat.add_zero, Nat.zero_add]
    simpa using hv
  | j + 1, hy => simp at hy
set_option maxRecDepth 100000 in
set_option maxHeartbeats 4000000 in
theorem sort_step {P : Program} {k : Nat} {enc : Vl → List Value} (AW : Aw P k enc) {w : World} {a : Option Addr} {cap : Nat} {l : List Vl} (hr : At enc k w a l) (hcap : l.length ≤ cap) (hnil : a = none → l.length = 0 ∧ cap = 0) (hn : l.length ≤ 1172812402961)
    (IH : ∀ (W : World) (a' : Option Addr) (cap' : Nat) (l' : List Vl), l'.length < l.length → At enc k W a' l' → l'.length ≤ cap' → (a' = none → l'.length = 0 ∧ cap' = 0) → Calls P 19 #[.slice a' l'.length cap'] W fun e w' => ∃ v, e = .returned v ∧ Own enc k 41 W.heap.size w' v (srt ltV l') ∧ Kept W w') :
    Calls P 19 #[.slice a l.length cap] w fun e w' => ∃ v, e = .returned v ∧ Own enc k 41 w.heap.size w' v (srt ltV l) ∧ Kept w w' := by
  obtain ⟨mixed, E, fS, eB, eS, bef, t0, t3, t4, t28, a0, a3, a4, a28, a30, z0, z3, z4, z28, z30, ⟨zs, v30⟩, hkm, zz, bytes, i30, hzs, hby⟩ := AW
  have u28 := run_underlying t28
  have EE : Hid (Ek enc k) := E
  have HBF : Hid (∀ a b W, _) := bef
  have hk0 : ¬ k = 0 := by have := E.pos; omega
  have hkm' : ¬ 16777216 < k := by omega
  clear bef
  by_cases h2 : l.length < 2
  · have hs : srt ltV l = l := by
      match l, h2 with
      | [], _ => rfl
      | [x], _ => rfl
    rw [hs]
    have HC : Hid (∀ ty, _) := fun ty => copy_own (c := cap) E t28 i30 hzs hr hnil (by have : (l.length + l.length / 4 + 192) * bytes ≤ 200 * 120 := Nat.mul_le_mul (by omega) hby; omega) (by unfold maxLen; omega) ty
    obtain ⟨n, en⟩ : ∃ n, n = l.length := ⟨_, rfl⟩
    rw [← en] at HC h2 ⊢
    have d1 : decide ((n : Int) < 2) = true := decide_eq_true (by omega)
    have d1' : (n : Int) < 2 := by omega
    clear hr hcap hnil hn IH hs en E
    go_enter fS, Tryd.ntmps19
    go_wp2_with (at_builtin; refine wpList_app rfl (.tmp 11) (.tmp 12) 23 rfl (.slice (some ⟨w.heap.size, 0, none⟩) 0 0) (.slice a n cap) rfl rfl _ HC.out ?_; rintro v2 w2 ⟨o2, k2⟩; have R : Hid _ := And.intro o2 k2; clear o2 k2)
    go_ret
    obtain ⟨o2, k2⟩ := R.out
    exact ⟨_, rfl, o2, k2⟩
  · obtain ⟨n, en⟩ : ∃ n, n = l.length := ⟨_, rfl⟩
    obtain ⟨m, em⟩ : ∃ m, m = n / 2 := ⟨_, rfl⟩
    obtain ⟨q, hnm⟩ : ∃ q, n - m = q := ⟨_, rfl⟩
    obtain ⟨cq, hcm⟩ : ∃ cq, cap - m = cq := ⟨_, rfl⟩
    have ea : ∃ b off, a = some ⟨b, off, none⟩ := by
      obtain ⟨b, off, e, _⟩ := hr 0 l[0] (List.getElem?_eq_getElem (by omega))
      exact ⟨b, off, e⟩
    obtain ⟨b, off, rfl⟩ := ea
    have lm : (l.take m).length = m := by rw [List.length_take]; omega
    have ld : (l.drop m).length = q := by rw [List.length_drop]; omega
    have HI1 : Hid _ := IH w (some ⟨b, off, none⟩) cap (l.take m) (by omega) (hr.take m) (by omega) (fun e => by cases e)
    have HI2 : Hid (∀ W, Kept w W → _) := fun W (k' : Kept w W) => IH W (some ⟨b, off + m * k, none⟩) cq (l.drop m) (by omega) ((hr.on k').drop m) (by omega) (fun e => by cases e)
    rw [lm] at HI1
    rw [ld] at HI2
    have hmrg : Hid _ := mrg_srt ltV_swo (l.take m) (l.drop m)
    rw [List.take_append_drop] at hmrg
    have la : (srt ltV (l.take m)).length = m := by rw [srt_len, lm]
    have lb : (srt ltV (l.drop m)).length = q := by rw [srt_len, ld]
    generalize srt ltV (l.take m) = A at *
    generalize srt ltV (l.drop m) = B at *
    rw [← hmrg.out]
    rw [← en] at hn hcap h2 ⊢
    have d1 : decide ((n : Int) < 2) = false := decide_eq_false (by omega)
    have d1' : ¬ (n : Int) < 2 := by omega
    have hq : Int.tdiv (n : Int) 2 = (m : Int) := by
      rw [em, Int.tdiv_eq_ediv_of_nonneg (by omega)]
      omega
    have hmn : m < n := by omega
    have hmc : (m : Int) ≤ (cap : Int) := by omega
    have hmn2 : (m : Int) ≤ (n : Int) := by omega
    have hmne : m ≠ cap := by omega
    have LA : Hid (A.length = m) := la
    have LB : Hid (B.length = q) := lb
    clear hr hnil IH lm ld em en la lb hmrg E
    go_enter fS, Tryd.ntmps19
    go_wp2_with fail
    refine Calls.mono HI1.out ?_
    rintro e w1 ⟨v1, rfl, o1, k1⟩
    have K1 : Hid (Kept w w1) := k1
    have HI3 : Hid _ := HI2.out w1 k1
    obtain ⟨a1, c1, rfl, -, -, lo1⟩ := o1.shape
    have ra1 : At enc k w1 a1 A := o1.at EE.out
    rw [show A.length = m from LA.out]
    clear o1 k1 HI1 HI2
    go_wp2_with fail
    refine Calls.mono HI3.out ?_
    rintro e w2 ⟨v2, rfl, o2, k2⟩
    obtain ⟨a2, c2, rfl, -, -, lo2⟩ := o2.shape
    have ra2 : At enc k w2 a2 B := o2.at EE.out
    rw [show B.length = q from LB.out]
    obtain ⟨i0, hi0, hz0, hz1, hz2⟩ := info_parts i30
    obtain ⟨w3, hmk, hown, hgr⟩ := run_make_own (P := P) w2 w2.heap.size 23 41 i0 _ k t28 hi0 hz0 hz1 .i64 .i64 n (by rw [hz2]; have : bytes * n ≤ 120 * 1172812402961 := Nat.mul_le_mul hby hn; omega) (by unfold maxLen; omega) (Nat.le_refl _)
    have k3 : Kept w2 w3 := Same.of_grown hgr (fun k e => by cases e)
    have RA : Hid (∀ wr, Same (fun k => w2.heap.size ≤ k) w3 wr → At enc k wr a1 A) := fun wr kk => ((ra1.on k2).on k3).kept kk fun b o e hb => fun hge => by
      obtain ⟨g, e', -, hg⟩ := lo1 _ e
      cases e'
      have := k2.size
      omega
    have RB : Hid (∀ wr, Same (fun k => w2.heap.size ≤ k) w3 wr → At enc k wr a2 B) := fun wr kk => (ra2.on k3).kept kk fun b o e hb => fun hge => by
      obtain ⟨g, e', -, hg⟩ := lo2 _ e
      cases e'
      omega
    have KW : Hid (Kept w w3 ∧ w.heap.size ≤ w2.heap.size) := ⟨(Same.trans' K1.out k2).trans' k3, (Same.trans' K1.out k2).size⟩
    have HBS : Hid (w2.heap.size ≤ w3.heap.size) := k3.size
    have MG : Hid (Mg enc k w3 w2.heap.size A B (.slice (some ⟨w2.heap.size, 0, none⟩) 0 n) 0 0 w3) := ⟨⟨[], hown, rfl, rfl⟩, Nat.zero_le _, Nat.zero_le _, Same.refl _ _⟩
    clear o2 k2 k3 hown hgr ra1 ra2 lo1 lo2 HI3 hz0 hz1 hz2 hi0
    go_wp2_with fail
    generalize w2.heap.size = base at *
    clear hmk
    go_loopw [5, 6, 7] (fun u5 u6 u7 wr => ∃ i j : Nat, u6 = .int .i64 i ∧ u7 = .int .i64 j ∧ Mg enc k w3 base A B u5 i j wr) (fun _ u6 u7 _ => n - (intOf u6).toNat - (intOf u7).toNat)
    case atStart => exact ⟨0, 0, rfl, rfl, MG.out⟩
    case round =>
      clear MG
      obtain ⟨i, j, rfl, rfl, mg⟩ := hrel
      obtain ⟨O, hO, hOl, hOe⟩ := mg.own
      have hil := mg.il
      have hjl := mg.jl
      rw [LA.out] at hil
      rw [LB.out] at hjl
      have i1 : (i : Int) ≤ 1172812402961 := by omega
      have j1 : (j : Int) ≤ 1172812402961 := by omega
      have hbnd : (O.length + 1 + (O.length + 1) / 4 + 192) * bytes ≤ 281474976710656 := by
        have : (O.length + 1 + (O.length + 1) / 4 + 192) * bytes ≤ 2000000000000 * 120 := Nat.mul_le_mul (by omega) hby
        omega
      by_cases hi : i < m
      · have p1 : decide ((i : Int) < (m : Int)) = true := decide_eq_true (by omega)
        have p1' : (i : Int) < (m : Int) := by omega
        have p1n : decide (i < m) = true := decide_eq_true (by omega)
        obtain ⟨x, hx⟩ : ∃ x, A[i]? = some x := ⟨_, List.getElem?_eq_getElem (by rw [LA.out]; exact hi)⟩
        obtain ⟨gx, ox, ex, hgx, -⟩ := RA.out wr mg.same i x hx
        subst ex
        have rax := RA.out wr mg.same
        have HAX : Hid (∀ (W : World) (bb : Nat), Kept wr W → W.heap[bb]? = some (.cells (enc x).toArray 41 (0, 0)) → ∀ ty, ∃ v' w', (Builtin.append_ #[23, 23] ty #[u5, .slice (some ⟨bb, 0, none⟩) 1 1]).run P W = .ok v' w' ∧ (Own enc k 41 base w' v' (O ++ [x]) ∧ Same (fun k => u5.ownBlock = some k) W w' ∧ ∀ k, v'.ownBlock = some k → u5.ownBlock = some k ∨ W.heap.size ≤ k)) := fun W bb kk hc ty =>
          Own.app (ys := [x]) EE.out t28 i30 hzs (hO.on kk) (vrow_p hc) (by simp) hbnd (by show O.length + 1 ≤ _; unfold maxLen; omega) (Nat.le_trans HBS.out (Nat.le_trans mg.same.size kk.size))
        have HMX : Hid ((B.length ≤ j ∨ ∃ y, B[j]? = some y ∧ ltV y x = false) → ∀ (W w5 : World) (v5 : Value), Kept wr W → Own enc k 41 base w5 v5 (O ++ [x]) → Same (fun k => u5.ownBlock = some k) W w5 → Mg enc k w3 base A B v5 (i + 1) j w5) := fun hw W w5 v5 kk o5 k5 => mg.more hO hOl hOe kk o5 k5 (mrg_takeA hx hw) (by omega) (by rw [LA.out]; omega) mg.jl
        have LXg := rax.loadg EE.out hx P
        have HLX : Hid (∀ W, Kept wr W → Sem.run P (loadCellsFrom ⟨gx, ox + i * k, none⟩ 0 k #[]) W = .ok (enc x).toArray W) := fun W kk => (rax.on kk).load0 EE.out hx P
        have hfx := fun (A : Array Value) (h : A.size = k) => fold_all (enc x) A (h.trans (EE.out.len x).symm)
        have hkx : (enc x).length = k := EE.out.len x
        by_cases hj : j < q
        · have p2 : decide ((j : Int) < (q : Int)) = true := decide_eq_true (by omega)
          have p2' : (j : Int) < (q : Int) := by omega
          have p3 : decide ((q : Int) ≤ (j : Int)) = false := decide_eq_false (by omega)
          have p3' : ¬ (q : Int) ≤ (j : Int) := by omega
          have p3n : decide (q ≤ j) = false := decide_eq_false (by omega)
          have p3m : ¬ q ≤ j := by omega
          obtain ⟨y, hy⟩ : ∃ y, B[j]? = some y := ⟨_, List.getElem?_eq_getElem (by rw [LB.out]; exact hj)⟩
          obtain ⟨gy, oy, ey, hgy, -⟩ := RB.out wr mg.same j y hy
          subst ey
          have ray := RB.out wr mg.same
          have HAY : Hid (∀ (W : World) (bb : Nat), Kept wr W → W.heap[bb]? = some (.cells (enc y).toArray 41 (0, 0)) → ∀ ty, ∃ v' w', (Builtin.append_ #[23, 23] ty #[u5, .slice (some ⟨bb, 0, none⟩) 1 1]).run P W = .ok v' w' ∧ (Own enc k 41 base w' v' (O ++ [y]) ∧ Same (fun k => u5.ownBlock = some k) W w' ∧ ∀ k, v'.ownBlock = some k → u5.ownBlock = some k ∨ W.heap.size ≤ k)) := fun W bb kk hc ty =>
            Own.app (ys := [y]) EE.out t28 i30 hzs (hO.on kk) (vrow_p hc) (by simp) hbnd (by show O.length + 1 ≤ _; unfold maxLen; omega) (Nat.le_trans HBS.out (Nat.le_trans mg.same.size kk.size))
          have HMY : Hid ((A.length ≤ i ∨ ∃ x, A[i]? = some x ∧ ltV y x = true) → ∀ (W w5 : World) (v5 : Value), Kept wr W → Own enc k 41 base w5 v5 (O ++ [y]) → Same (fun k => u5.ownBlock = some k) W w5 → Mg enc k w3 base A B v5 i (j + 1) w5) := fun hw W w5 v5 kk o5 k5 => mg.more hO hOl hOe kk o5 k5 (mrg_takeB hy hw) (by omega) mg.il (by rw [LB.out]; omega)
          have HMX2 : Hid (ltV y x = false → _) := fun e => HMX.out (.inr ⟨y, hy, e⟩)
          have HMY2 : Hid (ltV y x = true → _) := fun e => HMY.out (.inr ⟨x, hx, e⟩)
          have LYg := ray.loadg EE.out hy P
          have HLY : Hid (∀ W, Kept wr W → Sem.run P (loadCellsFrom ⟨gy, oy + j * k, none⟩ 0 k #[]) W = .ok (enc y).toArray W) := fun W kk => (ray.on kk).load0 EE.out hy P
          have hfy := fun (A : Array Value) (h : A.size = k) => fold_all (enc y) A (h.trans (EE.out.len y).symm)
          have hky : (enc y).length = k := EE.out.len y
          have hcc := fun W => HBF.out y x W
          generalize ltV y x = bb at hcc HMX2 HMY2
          obtain ⟨cx, ecx⟩ : ∃ c, c = enc x := ⟨_, rfl⟩
          obtain ⟨cy, ecy⟩ : ∃ c, c = enc y := ⟨_, rfl⟩
          rw [← ecx] at LXg HLX hfx hkx hcc HAX
          rw [← ecy] at LYg HLY hfy hky hcc HAY
          clear ecx ecy hx hy mg hO hOe HMX HMY rax ray hbnd
          go_wp2_with fail
          go_quiet_grown (first | (go_at_fn 20; refine Calls.grown_of (hcc _)))
          clear LXg LYg hcc
          have G : Hid (Kept wr (Sort.grow (wr.drewN nq) osq)) := Grw.kept ⟨nq, osq, rfl⟩
          generalize Sort.grow (wr.drewN nq) osq = wc at G ⊢
          cases bb with
          | false =>
            have HMX : Hid _ := HMX2.out rfl
            have lx := HLX.out wc G.out
            clear HMX2 HMY2 HAY HLX HLY
            go_wp2_with (at_builtin; refine wpList_app rfl (.tmp 61) (.tmp 66) 23 rfl u5 (.slice (some ⟨_, 0, none⟩) 1 1) rfl rfl _ (HAX.out _ _ (by (repeat (first | exact G.out | apply Same.alloc)); done) (by exact heap_new _ _)) ?_; rintro v5 w5 ⟨o5, k5, -⟩; have R : Hid _ := HMX.out _ _ _ (by (repeat (first | exact G.out | apply Same.alloc)); done) o5 k5; clear o5 k5)
            go_roundw
            case rel => exact ⟨i + 1, j, by rw [Int.natCast_add]; rfl, rfl, R.out⟩
            case measure => simp only [intOf]; omega
          | true =>
            have HMY : Hid _ := HMY2.out rfl
            have ly := HLY.out wc G.out
            clear HMX2 HMY2 HAX HLX HLY
            go_wp2_with (at_builtin; refine wpList_app rfl (.tmp 70) (.tmp 75) 23 rfl u5 (.slice (some ⟨_, 0, none⟩) 1 1) rfl rfl _ (HAY.out _ _ (by (repeat (first | exact G.out | apply Same.alloc)); done) (by exact heap_new _ _)) ?_; rintro v5 w5 ⟨o5, k5, -⟩; have R : Hid _ := HMY.out _ _ _ (by (repeat (first | exact G.out | apply Same.alloc)); done) o5 k5; clear o5 k5)
            go_roundw
            case rel => exact ⟨i, j + 1, rfl, by rw [Int.natCast_add]; rfl, R.out⟩
            case measure => simp only [intOf]; omega
        · have p3 : decide ((q : Int) ≤ (j : Int)) = true := decide_eq_true (by omega)
          have p3' : (q : Int) ≤ (j : Int) := by omega
          have p3n : decide (q ≤ j) = true := decide_eq_true (by omega)
          have p3m : q ≤ j := by omega
          have HMX2 : Hid _ := HMX.out (.inl (by rw [LB.out]; omega))
          have HMX : Hid _ := HMX2.out
          have G : Hid (Kept wr wr.drew) := (Same.refl _ wr).drew
          have lx := HLX.out wr.drew G.out
          obtain ⟨cx, ecx⟩ : ∃ c, c = enc x := ⟨_, rfl⟩
          rw [← ecx] at lx hfx hkx HAX
          clear HMX2 HLX LXg ecx hx mg hO hOe rax hbnd
          go_wp2_with fail
          go_big_region_o
          all_goals
            go_wp2_with (at_builtin; refine wpList_app rfl (.tmp 61) (.tmp 66) 23 rfl u5 (.slice (some ⟨_, 0, none⟩) 1 1) rfl rfl _ (HAX.out _ _ (by (repeat (first | exact G.out | exact Same.refl _ _ | apply Same.alloc | apply Same.drew)); done) (by exact heap_new _ _)) ?_; rintro v5 w5 ⟨o5, k5, -⟩; have R : Hid _ := HMX.out _ _ _ (by (repeat (first | exact G.out | exact Same.refl _ _ | apply Same.alloc | apply Same.drew)); done) o5 k5; clear o5 k5)
            go_roundw
            case rel => exact ⟨i + 1, j, by rw [Int.natCast_add]; rfl, rfl, R.out⟩
            case measure => simp only [intOf]; omega
      · have p1 : decide ((i : Int) < (m : Int)) = false := decide_eq_false (by omega)
        have p1' : ¬ (i : Int) < (m : Int) := by omega
        have p1n : decide (i < m) = false := decide_eq_false (by omega)
        by_cases hj : j < q
        · have p2 : decide ((j : Int) < (q : Int)) = true := decide_eq_true (by omega)
          have p2' : (j : Int) < (q : Int) := by omega
          have p3 : decide ((q : Int) ≤ (j : Int)) = false := decide_eq_false (by omega)
          have p3' : ¬ (q : Int) ≤ (j : Int) := by omega
          have p3n : decide (q ≤ j) = false := decide_eq_false (by omega)
          have p3m : ¬ q ≤ j := by omega
          obtain ⟨y, hy⟩ : ∃ y, B[j]? = some y := ⟨_, List.getElem?_eq_getElem (by rw [LB.out]; exact hj)⟩
          obtain ⟨gy, oy, ey, hgy, -⟩ := RB.out wr mg.same j y hy
          subst ey
          have ray := RB.out wr mg.same
          have HAY : Hid (∀ (W : World) (bb : Nat), Kept wr W → W.heap[bb]? = some (.cells (enc y).toArray 41 (0, 0)) → ∀ ty, ∃ v' w', (Builtin.append_ #[23, 23] ty #[u5, .slice (some ⟨bb, 0, none⟩) 1 1]).run P W = .ok v' w' ∧ (Own enc k 41 base w' v' (O ++ [y]) ∧ Same (fun k => u5.ownBlock = some k) W w' ∧ ∀ k, v'.ownBlock = some k → u5.ownBlock = some k ∨ W.heap.size ≤ k)) := fun W bb kk hc ty =>
            Own.app (ys := [y]) EE.out t28 i30 hzs (hO.on kk) (vrow_p hc) (by simp) hbnd (by show O.length + 1 ≤ _; unfold maxLen; omega) (Nat.le_trans HBS.out (Nat.le_trans mg.same.size kk.size))
          have HMY : Hid (∀ (W w5 : World) (v5 : Value), Kept wr W → Own enc k 41 base w5 v5 (O ++ [y]) → Same (fun k => u5.ownBlock = some k) W w5 → Mg enc k w3 base A B v5 i (j + 1) w5) := fun W w5 v5 kk o5 k5 => mg.more hO hOl hOe kk o5 k5 (mrg_takeB hy (.inl (by rw [LA.out]; omega))) (by omega) mg.il (by rw [LB.out]; omega)
          have G : Hid (Kept wr wr.drew) := (Same.refl _ wr).drew
          have ly := (ray.on G.out).load0 EE.out hy P
          have hfy := fun (A : Array Value) (h : A.size = k) => fold_all (enc y) A (h.trans (EE.out.len y).symm)
          have hky : (enc y).length = k := EE.out.len y
          obtain ⟨cy, ecy⟩ : ∃ c, c = enc y := ⟨_, rfl⟩
          rw [← ecy] at ly hfy hky HAY
          clear ecy hy mg hO hOe ray hbnd
          go_wp2_with fail
          go_big_region_o
          all_goals
            go_wp2_with (at_builtin; refine wpList_app rfl (.tmp 70) (.tmp 75) 23 rfl u5 (.slice (some ⟨_, 0, none⟩) 1 1) rfl rfl _ (HAY.out _ _ (by (repeat (first | exact G.out | exact Same.refl _ _ | apply Same.alloc | apply Same.drew)); done) (by exact heap_new _ _)) ?_; rintro v5 w5 ⟨o5, k5, -⟩; have R : Hid _ := HMY.out _ _ _ (by (repeat (first | exact G.out | exact Same.refl _ _ | apply Same.alloc | apply Same.drew)); done) o5 k5; clear o5 k5)
            go_roundw
            case rel => exact ⟨i, j + 1, rfl, by rw [Int.natCast_add]; rfl, R.out⟩
            case measure => simp only [intOf]; omega
        · have p2 : decide ((j : Int) < (q : Int)) = false := decide_eq_false (by omega)
          have p2' : ¬ (j : Int) < (q : Int) := by omega
          have hfin : O = mrg ltV A B := by
            rw [List.drop_eq_nil_of_le (by rw [LA.out]; omega), List.drop_eq_nil_of_le (by rw [LB.out]; omega), mrg_nil, List.append_nil] at hOe
            exact hOe
          rw [hfin] at hO
          have R : Hid (Own enc k 41 w.heap.size wr u5 (mrg ltV A B) ∧ Kept w wr) := ⟨hO.base KW.out.2, ((KW.out.1.to _).trans' mg.same).mono fun b hb e => by have := KW.out.2; omega⟩
          clear hO hOe hfin mg
          go_wp2_with fail
          go_ret
          exact ⟨_, rfl, R.out⟩
theorem sort_p {P : Program} {k : Nat} {enc : Vl → List Value} (AW : Aw P k enc) : ∀ (N : Nat) {w : World} {a : Option Addr} {cap : Nat} {l : List Vl}, l.length < N → At enc k w a l → l.length ≤ cap → (a = none → l.length = 0 ∧ cap = 0) → l.length ≤ 1172812402961 →
    Calls P 19 #[.slice a l.length cap] w fun e w' => ∃ v, e = .returned v ∧ Own enc k 41 w.heap.size w' v (srt ltV l) ∧ Kept w w' := by
  intro N
  induction N with
  | zero => intro w a cap l h; omega
  | succ N ih =>
    intro w a cap l h hr hc hnil hn
    exact sort_step AW hr hc hnil hn fun W a' cap' l' hl hr' hc' hnil' => ih (by omega) hr' hc' hnil' (by omega)

theorem aw18 : Aw Tryd.prog 12 vl1 :=
  ⟨by kernel_rfl, ekV, Tryd.func19, Tryd.call20, Tryd.call19, before18, Tryd.underlying0, Tryd.underlying3, Tryd.underlying4, Tryd.underlying23, Tryd.isAgg0, Tryd.isAgg3, Tryd.isAgg4, Tryd.isAgg23, Tryd.isAgg41, Tryd.sizeOf0, Tryd.sizeOf3, Tryd.sizeOf4, Tryd.sizeOf23, Tryd.sizeOf41, ⟨_, Tryd.zeroValue41⟩, by decide, _, 120, Tryd.infoViol, rfl, by decide⟩
theorem rsort18 {w : World} {a : Option Addr} {cap : Nat} {l : List Vl} (h : At vl1 12 w a l) (hc : l.length ≤ cap) (hnil : a = none → l.length = 0 ∧ cap = 0) (hn : l.length ≤ 1172812402961) :
    Calls Tryd.prog 19 #[.slice a l.length cap] w fun e w' => ∃ v, e = .returned v ∧ OwnV w.heap.size w' v (srt ltV l) ∧ Kept w w' := sort_p aw18 (l.length + 1) (by omega) h hc hnil hn
end Go.Proofs.YtfhaiklfbnfdlaaDoor.Vi

namespace Go.Proofs.YtfhaiklfbnfdlaaDoor
open Go.RowKit

/-- What the law keeps of the first j elements. -/
def kp (l : List Vi.Vl) (j : Nat) : List Vi.Vl := ((l.take j).filter Vi.okV).take 10000
theorem kp_len (l : List Vi.Vl) (j : Nat) : (kp l j).length ≤ 10000 := by
  unfold kp
  rw [List.length_take]
  omega
theorem take_x {l : List Vi.Vl} {j : Nat} {x : Vi.Vl} (hx : l[j]? = some x) : l.take (j + 1) = l.take j ++ [x] := by
  rw [List.take_add_one, hx]
  rfl
theorem kp_no {l : List Vi.Vl} {j : Nat} {x : Vi.Vl} (hx : l[j]? = some x) (h : Vi.okV x = false) : kp l (j + 1) = kp l j := by
  unfold kp
  rw [take_x hx, List.filter_append]
  simp [h]
theorem kp_full {l : List Vi.Vl} {j : Nat} {x : Vi.Vl} (hx : l[j]? = some x) (hf : ¬ (kp l j).length < 10000) : kp l (j + 1) = kp l j := by
  unfold kp at hf ⊢
  rw [List.length_take] at hf
  rw [take_x hx, List.filter_append, List.take_append_of_le_length (by omega)]
theorem kp_yes {l : List Vi.Vl} {j : Nat} {x : Vi.Vl} (hx : l[j]? = some x) (h : Vi.okV x = true) (hf : (kp l j).length < 10000) : kp l (j + 1) = kp l j ++ [x] := by
  unfold kp at hf ⊢
  rw [List.length_take] at hf
  rw [take_x hx, List.filter_append, List.take_of_length_le (l := (l.take j).filter Vi.okV) (by omega)]
  have e : [x].filter Vi.okV = [x] := by simp [h]
  rw [e, List.take_of_length_le (by rw [List.length_append]; simp; omega)]
theorem kp_ok (l : List Vi.Vl) (j : Nat) : ∀ x ∈ kp l j, Vi.okV x = true := fun x hx => by
  unfold kp at hx
  have := List.mem_of_mem_take hx
  exact (List.mem_filter.1 this).2
theorem srt_allV {K : List Vi.Vl} (h : ∀ x ∈ K, Vi.okV x = true) : allV (Vi.srt Vi.ltV K) = true := by
  unfold allV
  rw [List.all_eq_true]
  exact fun x hx => h x ((Vi.srt_perm Vi.ltV K).mem_iff.1 hx)
theorem srt_srd (K : List Vi.Vl) : Vi.srd (Vi.srt Vi.ltV K) = true := by
  rw [srd_iff]
  intro i x y hx hy
  obtain ⟨h1, rfl⟩ := List.getElem?_eq_some_iff.1 hx
  obtain ⟨h2, rfl⟩ := List.getElem?_eq_some_iff.1 hy
  exact List.pairwise_iff_getElem.1 (Vi.srt_pw Vi.ltV_swo K) i (i + 1) h2 h1 (by omega)
/-- The outcome that the law makes. -/
abbrev oL (total : Int) (ls : List Vi.Vl) : OuM := ⟨9, 0, 0, 5, total, ls⟩
theorem oL_ok (total : Int) {K : List Vi.Vl} (h : ∀ x ∈ K, Vi.okV x = true) (hn : K.length ≤ 10000) : okO (oL total (Vi.srt Vi.ltV K)) = true ↔ (1 ≤ total ∧ total ≤ 1099511627776) ∧ ((Vi.srt Vi.ltV K).length : Int) ≤ total := by
  rw [okO_P]
  constructor
  · rintro ⟨h1, -⟩
    have h2 := h1.2.2.2.2.2.2.2.1 rfl
    exact ⟨h2.1, h2.2.1⟩
  · rintro ⟨h1, h2⟩
    refine ⟨?_, srt_allV h, srt_srd K⟩
    have h3 := Vi.srt_len Vi.ltV K
    unfold OkP
    dsimp only at *
    omega
theorem oL_sw {total : Int} {S : List Vi.Vl} {i : Nat} {x y : Vi.Vl} (hx : S[i]? = some x) (hy : S[i + 1]? = some y) (hl : Vi.ltV x y = true) : okO (oL total ((S.set i y).set (i + 1) x)) = false := by
  cases hb : okO (oL total ((S.set i y).set (i + 1) x)) with
  | false => rfl
  | true =>
    have h := (srd_iff _).1 ((okO_P _).1 hb).2.2
    have h1 := (List.getElem?_eq_some_iff.1 hx).1
    have h2 := (List.getElem?_eq_some_iff.1 hy).1
    have e := h i x y (by simp [h2]) (by simp [h1])
    rw [hl] at e
    cases e
theorem rendT_no {o : OuM} (h : okO o = false) : rendT o = ([], 220) := by
  unfold rendT
  rw [h]
  rfl
theorem rendT_ok {o : OuM} (h : okO o = true) : rendT o = (outL o, 0) := by
  unfold rendT
  rw [h]
  rfl
end Go.Proofs.YtfhaiklfbnfdlaaDoor
namespace Go.Proofs.YtfhaiklfbnfdlaaDoor.Vi
open Go.RowKit

variable {α : Type} [Inhabited α] {enc : α → List Value} {k : Nat}
omit [Inhabited α] in
theorem Own.app1 (E : Ek enc k) {P : Program} {t ty T : TypeId} {z : Value} {bytes : Nat} (ht : P.underlying t = some (.slice T)) (hi : (P.info? T).map (fun i => (i.zero, i.size, i.bytes)) = some (some z, k, bytes)) (hzs : z.cells.size = k)
    {w : World} {base : Nat} {v : Value} {xs : List α} (hown : Own enc k T base w v xs) {g : Nat} {y : α} {ty' : TypeId} (hg : w.heap[g]? = some (.cells (enc y).toArray ty' (0, 0))) {c : Nat} (hb : ((xs.length + 1) + (xs.length + 1) / 4 + 192) * bytes ≤ 281474976710656) (hm : xs.length + 1 ≤ maxLen) (hbase : base ≤ w.heap.size) :
    ∃ v' w', (Builtin.append_ #[t, t] ty #[v, .slice (some ⟨g, 0, none⟩) 1 c]).run P w = .ok v' w' ∧ Own enc k T base w' v' (xs ++ [y]) ∧ Same (fun k => v.ownBlock = some k) w w' ∧ (∀ k, v'.ownBlock = some k → v.ownBlock = some k ∨ w.heap.size ≤ k) := by
  have hc : ∀ j u, (fl enc [y])[j]? = some u → w.cell? ((⟨g, 0, none⟩ : Addr).add j) = some u := fun j u hu => by
    rw [Addr.add_lit, Nat.zero_add, cell_of hg]
    simpa [fl] using hu
  have hl : (fl enc [y]).length = 1 * k := length_fl E [y]
  obtain ⟨v', w', hr, r1, r2, r3, -⟩ := Ch.app_wide (P := P) (t := t) (ty := ty) (c := c) (m := 1) (a := ⟨g, 0, none⟩) (news := fl enc [y]) ht hi hzs E.pos hown hl hc (fl_one E [y]) hm hb hbase
  refine ⟨v', w', hr, ⟨by rw [length_fl E], ?_⟩, r2, r3⟩
  have := r1.2
  rw [fl_append, List.length_append]
  exact this
omit [Inhabited α] in
theorem Own.ltg {T : TypeId} {base : Nat} {w : World} {g m cap : Nat} {l : List α} (h : Own enc k T base w (.slice (some ⟨g, 0, none⟩) m cap) l) : base ≤ g ∧ g < w.heap.size ∧ m = l.length := by
  rcases h.2 with ⟨e0, hn⟩ | ⟨g', cap', cur, e0, hb, hg, h1, h2, h3, h4⟩
  · cases e0
  · cases e0
    exact ⟨hb, lt_of_heap hg, rfl⟩
omit [Inhabited α] in
theorem Own.swap (E : Ek enc k) {T : TypeId} {base : Nat} {w : World} {g m cap : Nat} {l : List α} (h : Own enc k T base w (.slice (some ⟨g, 0, none⟩) m cap) l) {i j : Nat} {x y : α} (hx : l[i]? = some x) (hy : l[j]? = some y) (P : Program) :
    (Sem.run P (loadCellsFrom ⟨g, i * k, none⟩ 0 k #[]) w.drew = .ok (enc x).toArray w.drew ∧ Sem.run P (loadCellsFrom ⟨g, j * k, none⟩ 0 k #[]) w.drew = .ok (enc y).toArray w.drew ∧
    Sem.run P (storeCells ⟨g, i * k, none⟩ (enc y) 0) w.drew = .ok () (w.drew.setCells g (i * k) (enc y)) ∧
    Sem.run P (storeCells ⟨g, j * k, none⟩ (enc x) 0) (w.drew.setCells g (i * k) (enc y)) = .ok () ((w.drew.setCells g (i * k) (enc y)).setCells g (j * k) (enc x))) ∧
    Own enc k T base ((w.drew.setCells g (i * k) (enc y)).setCells g (j * k) (enc x)) (.slice (some ⟨g, 0, none⟩) m cap) ((l.set i y).set j x) ∧ Same (fun b => b = g) w ((w.drew.setCells g (i * k) (enc y)).setCells g (j * k) (enc x)) := by
  have k1 : Kept w w.drew := (Same.refl _ w).drew
  obtain ⟨p1, p2, p3⟩ := (h.on k1).put E (i := i) (List.getElem?_eq_some_iff.1 hx).1 y P
  obtain ⟨q1, q2, q3⟩ := p2.put E (i := j) (by rw [List.length_set]; exact (List.getElem?_eq_some_iff.1 hy).1) x P
  have hw := (Own.at E h).on k1
  have l1 := hw.load0 E hx P
  have l2 := hw.load0 E hy P
  rw [Nat.zero_add] at l1 l2
  exact ⟨⟨l1, l2, p1, q1⟩, q2, ((k1.to _).trans' p3).trans' q3⟩
end Go.Proofs.YtfhaiklfbnfdlaaDoor.Vi

namespace Go.Proofs.YtfhaiklfbnfdlaaDoor
open Go.RowKit

theorem outL_leJ {o : OuM} (h : okO o = true) : (outL o).length ≤ 6500000 := by
  obtain ⟨r0, r1, r2, r3, r4, r5, r6, r7, -⟩ := okO_iff h
  rw [← outR_eq]
  unfold outR
  have h1 := numL_le20 (p := [10, 99, 111, 100, 101, 32]) (n := o.cd) (by decide) r1.1 (by omega)
  have h2 := numL_le20 (p := [10, 111, 102, 102, 115, 101, 116, 32]) (n := o.of) (by decide) r2.1 (by omega)
  have h3 := numL_le20 (p := [10, 116, 120, 110, 115, 32]) (n := o.tn) (by decide) r3.1 (by omega)
  have h4 := numL_le20 (p := [10, 116, 111, 116, 97, 108, 32]) (n := o.tt) (by decide) r4.1 r4.2
  have h5 := numL_le20 (p := [10, 115, 104, 111, 119, 110, 32]) (n := (o.ls.length : Int)) (by decide) (by omega) (by omega)
  have h6 := vios_le r7
  have h7 := oWord_le o.kd
  have h8 : headB.length ≤ 20 := by decide
  have h9 : footB.length ≤ 20 := by decide
  have g : ∀ (b : Bool) (l : List UInt8), (if b = true then l else []).length ≤ l.length := fun b l => by cases b <;> simp
  have g1 := g (hc o.kd) (numL [10, 99, 111, 100, 101, 32] o.cd)
  have g2 := g (ho o.kd) (numL [10, 111, 102, 102, 115, 101, 116, 32] o.of)
  have g3 := g (ht o.kd) (numL [10, 116, 120, 110, 115, 32] o.tn)
  have g4 := g (hl o.kd) (numL [10, 116, 111, 116, 97, 108, 32] o.tt ++ numL [10, 115, 104, 111, 119, 110, 32] (o.ls.length : Int))
  have g5 : (numL [10, 116, 111, 116, 97, 108, 32] o.tt ++ numL [10, 115, 104, 111, 119, 110, 32] (o.ls.length : Int)).length = (numL [10, 116, 111, 116, 97, 108, 32] o.tt).length + (numL [10, 115, 104, 111, 119, 110, 32] (o.ls.length : Int)).length := List.length_append
  simp only [List.length_append, List.length_cons, List.length_nil] at *
  omega
/-- What the law asks of a program, called in a world. -/
structure Al (P : Program) (k : Nat) (enc : Vi.Vl → List Value) (w : World) : Prop where
  mixed : P.follows .mixedOrders = true
  E : Vi.Ek enc k
  fL : P.funcs[7]? = some Tryd.f7
  eA : ∀ (args : Array Value) (w : World), Sem.run P (callFunc 9 args) w = .ok (.enter 9 args) w
  eV : ∀ (args : Array Value) (w : World), Sem.run P (callFunc 18 args) w = .ok (.enter 18 args) w
  eS : ∀ (args : Array Value) (w : World), Sem.run P (callFunc 19 args) w = .ok (.enter 19 args) w
  eB : ∀ (args : Array Value) (w : World), Sem.run P (callFunc 20 args) w = .ok (.enter 20 args) w
  eC : ∀ (args : Array Value) (w : World), Sem.run P (callFunc 10 args) w = .ok (.enter 10 args) w
  eR : ∀ (args : Array Value) (w : World), Sem.run P (callFunc 12 args) w = .ok (.enter 12 args) w
  eP : ∀ (args : Array Value) (w : World), Sem.run P (callFunc 16 args) w = .ok (.enter 16 args) w
  eM : ∀ (args : Array Value) (w : World), Sem.run P (callFunc 14 args) w = .ok (.enter 14 args) w
  eW : ∀ (args : Array Value) (w : World), Sem.run P (callFunc 13 args) w = .ok (.enter 13 args) w
  anc : ∀ W, Kept w W → Calls P 9 #[] W fun e w' => e = .returned (.bool true) ∧ Kept W w'
  val : ∀ (x : Vi.Vl) (W : World), Calls P 18 #[.agg (enc x).toArray] W fun e w' => e = .returned (.bool (Vi.okV x)) ∧ Kept W w'
  rso : ∀ (W : World) (a : Option Addr) (cap : Nat) (l : List Vi.Vl), Vi.At enc k W a l → l.length ≤ cap → (a = none → l.length = 0 ∧ cap = 0) → l.length ≤ 1172812402961 → Calls P 19 #[.slice a l.length cap] W fun e w' => ∃ v, e = .returned v ∧ Vi.Own enc k 41 W.heap.size w' v (Vi.srt Vi.ltV l) ∧ Kept W w'
  bef : ∀ (a b : Vi.Vl) (W : World), Calls P 20 #[.agg (enc a).toArray, .agg (enc b).toArray] W fun e w' => e = .returned (.bool (Vi.ltV a b)) ∧ Vi.Grw W w'
  cop : ∀ (W : World) (o : OuM) (a : Option Addr) (cap : Nat), Vi.At enc k W a o.ls → (a = none → o.ls.length = 0 ∧ cap = 0) → o.ls.length ≤ 1172812402961 → Calls P 10 #[ouV o (.slice a o.ls.length cap)] W fun e w' => ∃ a' c', e = .returned (ouV o (.slice a' o.ls.length c')) ∧ Vi.Own enc k 41 W.heap.size w' (.slice a' o.ls.length c') o.ls ∧ Kept W w'
  ren : ∀ (W : World) (o : OuM) (a : Option Addr) (cap : Nat), Kept w W → Vi.At enc k W a o.ls → o.ls.length ≤ 1172812402961 → Calls P 12 #[ouV o (.slice a o.ls.length cap)] W fun e w' => e = .returned (.tuple #[tx (rendT o).1, .int .i64 (rendT o).2]) ∧ Kept W w'
  par : ∀ (W : World) (o : OuM), Kept w W → okO o = true → Calls P 16 #[tx (outL o)] W fun e w' => ∃ a' c', e = .returned (.tuple #[ouV o (.slice a' o.ls.length c'), .int .i64 0]) ∧ Vi.Own enc k 41 W.heap.size w' (.slice a' o.ls.length c') o.ls ∧ Kept W w'
  sam : ∀ (W : World) (o : OuM) (a b : Option Addr) (c d : Nat), Vi.At enc k W a o.ls → Vi.At enc k W b o.ls → o.ls.length ≤ 1172812402961 → Calls P 14 #[ouV o (.slice a o.ls.length c), ouV o (.slice b o.ls.length d)] W fun e w' => e = .returned (.bool true) ∧ Kept W w'
  vld : ∀ (W : World) (o : OuM) (a : Option Addr) (cap : Nat), Vi.At enc k W a o.ls → o.ls.length ≤ 1172812402961 → Calls P 13 #[ouV o (.slice a o.ls.length cap)] W fun e w' => e = .returned (.bool (okO o)) ∧ Kept W w'
  t3 : P.underlying 3 = some (TypeDesc.int IntKind.i64)
  t4 : P.underlying 4 = some TypeDesc.bool
  t9 : P.underlying 9 = some TypeDesc.string
  t22 : P.underlying 22 = Tryd.prog.underlying 22
  t23 : P.underlying 23 = some (TypeDesc.slice 41)
  t25 : P.underlying 25 = Tryd.prog.underlying 25
  a3 : ∀ w, Sem.run P (isAgg 3) w = .ok false w
  a4 : ∀ w, Sem.run P (isAgg 4) w = .ok false w
  a9 : ∀ w, Sem.run P (isAgg 9) w = .ok false w
  a22 : ∀ w, Sem.run P (isAgg 22) w = .ok false w
  a23 : ∀ w, Sem.run P (isAgg 23) w = .ok false w
  a25 : ∀ w, Sem.run P (isAgg 25) w = .ok true w
  a41 : ∀ w, Sem.run P (isAgg 41) w = .ok true w
  z3 : ∀ w, Sem.run P (Go.sizeOf 3) w = .ok 1 w
  z4 : ∀ w, Sem.run P (Go.sizeOf 4) w = .ok 1 w
  z9 : ∀ w, Sem.run P (Go.sizeOf 9) w = .ok 1 w
  z22 : ∀ w, Sem.run P (Go.sizeOf 22) w = .ok 1 w
  z23 : ∀ w, Sem.run P (Go.sizeOf 23) w = .ok 1 w
  z25 : ∀ w, Sem.run P (Go.sizeOf 25) w = .ok 6 w
  z41 : ∀ w, Sem.run P (Go.sizeOf 41) w = .ok k w
  v23 : ∀ w, Sem.run P (zeroValue 23) w = .ok (.slice none 0 0) w
  v41 : ∃ zl : List Value, zl.length = k ∧ ∀ w, Sem.run P (zeroValue 41) w = .ok (.agg zl.toArray) w
  v25 : ∀ w, Sem.run P (zeroValue 25) w = .ok (.agg ouz) w
  i25 : (P.info? 25).map (·.size) = some 6
  hk : k ≤ 16777216
  i41 : ∃ z bytes, (P.info? 41).map (fun i => (i.zero, i.size, i.bytes)) = some (some z, k, bytes) ∧ z.cells.size = k ∧ bytes ≤ 120
theorem own_kept {enc : Vi.Vl → List Value} {k : Nat} {w W W' : World} {v : Value} {l : List Vi.Vl} (h : Kept w W) (o : Vi.Own enc k 41 w.heap.size W v l) (s : Same (fun b => v.ownBlock = some b) W W') : Kept w W' := ((h.to _).trans' s).mono fun _ hb e => absurd hb (Nat.not_lt.2 (o.block e).1)
set_option maxRecDepth 100000 in
set_option maxHeartbeats 6400000 in
theorem list_p {P : Program} {k : Nat} {enc : Vi.Vl → List Value} (w : World) (AL : Al P k enc w) (a : Option Addr) (cap : Nat) (l : List Vi.Vl) (total : Int) (h : Vi.At enc k w a l) (hlen : l.length ≤ 1172812402961) :
    Calls P 7 #[.slice a l.length cap, .int .i64 total] w fun e w' => e = .returned (.bool true) ∧ Kept w w' := by
  obtain ⟨mixed, E, fL, eA, eV, eS, eB, eC, eR, eP, eM, eW, anc, val, rso, bef, cop, ren, par, sam, vld, t3, t4, t9, t22, t23, t25, a3, a4, a9, a22, a23, a25, a41, z3, z4, z9, z22, z23, z25, z41, v23, ⟨zl, hzl, v41⟩, v25, i25, hkm, zz, bytes, i41, hzz, hby⟩ := AL
  have t22 := t22.trans Tryd.underlying22
  have t25 := t25.trans Tryd.underlying25
  unfold ouz at v25
  have u22 := run_underlying t22
  have u23 := run_underlying t23
  have u25 := run_underlying t25
  have EE : Hid (Vi.Ek enc k) := E
  have HI41 : Hid ((P.info? 41).map (·.size) = some k) := by
    obtain ⟨i0, hi0, -, hz1, -⟩ := info_parts i41
    have : (P.info? 41).map (·.size) = some k := by rw [hi0]; simpa using hz1
    exact this
  have hz0 : 0 < zl.length := by rw [hzl]; exact E.pos
  have hz1 : ¬ zl.length = 0 := by omega
  have hz2 : ¬ zl = [] := fun e => hz1 (by rw [e]; rfl)
  have hk0 : ¬ k = 0 := by have := E.pos; omega
  have hkm' : ¬ 16777216 < k := by omega
  have HAN : Hid (∀ W, Kept w W → _) := anc
  have HVA : Hid (∀ (x : Vi.Vl) (W : World), _) := val
  have HRO : Hid (∀ (W : World) (a : Option Addr) (cap : Nat) (l : List Vi.Vl), Vi.At enc k W a l → l.length ≤ cap → (a = none → l.length = 0 ∧ cap = 0) → l.length ≤ 1172812402961 → _) := rso
  have HBF : Hid (∀ (a b : Vi.Vl) (W : World), _) := bef
  have HCO : Hid (∀ (W : World) (o : OuM) (a : Option Addr) (cap : Nat), Vi.At enc k W a o.ls → (a = none → o.ls.length = 0 ∧ cap = 0) → o.ls.length ≤ 1172812402961 → _) := cop
  have HRE : Hid (∀ (W : World) (o : OuM) (a : Option Addr) (cap : Nat), Kept w W → Vi.At enc k W a o.ls → o.ls.length ≤ 1172812402961 → _) := ren
  have HPA : Hid (∀ (W : World) (o : OuM), Kept w W → okO o = true → _) := par
  have HSA : Hid (∀ (W : World) (o : OuM) (a b : Option Addr) (c d : Nat), Vi.At enc k W a o.ls → Vi.At enc k W b o.ls → o.ls.length ≤ 1172812402961 → _) := sam
  have HVL : Hid (∀ (W : World) (o : OuM) (a : Option Addr) (cap : Nat), Vi.At enc k W a o.ls → o.ls.length ≤ 1172812402961 → _) := vld
  have HAP : Hid (∀ (W : World) (v : Value) (xs : List Vi.Vl) (g : Nat) (y : Vi.Vl), Vi.Own enc k 41 w.heap.size W v xs → W.heap[g]? = some (.cells (enc y).toArray 41 (0, 0)) → xs.length ≤ 10000 → w.heap.size ≤ W.heap.size → ∀ ty, ∃ v' w', (Builtin.append_ #[23, 23] ty #[v, .slice (some ⟨g, 0, none⟩) 1 1]).run P W = .ok v' w' ∧ (Vi.Own enc k 41 w.heap.size w' v' (xs ++ [y]) ∧ Same (fun k => v.ownBlock = some k) W w' ∧ ∀ k, v'.ownBlock = some k → v.ownBlock = some k ∨ W.heap.size ≤ k)) := fun W v xs g y h1 h2 h3 h4 ty =>
    Vi.Own.app (ys := [y]) E t23 i41 hzz h1 (Vi.vrow_p h2) (by simp) (by have : ((xs.length + [y].length) + (xs.length + [y].length) / 4 + 192) * bytes ≤ 20000 * 120 := Nat.mul_le_mul (by simp only [List.length_cons, List.length_nil]; omega) hby; omega) (by simp only [List.length_cons, List.length_nil]; unfold maxLen; omega) h4
  have HST : Hid (∀ (W : World) (v0 v1 v2 v3 v4 v5 : Value), v0.oneCell' = true → v1.oneCell' = true → v2.oneCell' = true → v3.oneCell' = true → v4.oneCell' = true → v5.oneCell' = true → (storeCells ⟨W.heap.size, 0, none⟩ [v0, v1, v2, v3, v4, v5]).run P (W.alloc (.cells #[.int .i64 0, .int .i64 0, .int .i64 0, .int .i64 0, .int .i64 0, .slice none 0 0] 25)) = .ok () (W.alloc (ouO v0 v1 v2 v3 v4 v5))) := fun W v0 v1 v2 v3 v4 v5 h0 h1 h2 h3 h4 h5 => by
    have := run_storeCells_new (P := P) W 25 #[.int .i64 0, .int .i64 0, .int .i64 0, .int .i64 0, .int .i64 0, .slice none 0 0] #[v0, v1, v2, v3, v4, v5] (by rw [i25]; rfl) (by rfl) (by simp [h0, h1, h2, h3, h4, h5])
    simpa using this
  have HL : Hid (Vi.At enc k w a l) := h
  obtain ⟨n, en⟩ : ∃ n, n = l.length := ⟨_, rfl⟩
  rw [← en] at hlen ⊢
  have EN : Hid (n = l.length) := en
  have hni : (n : Int) ≤ 1172812402961 := by omega
  clear anc val rso bef cop ren par sam vld h en E i25
  go_enter fL, Tryd.ntmps7
  go_wp2_with fail
  refine Calls.mono (HAN.out _ (Same.refl _ w)) ?_
  rintro r w1 ⟨rfl, k1⟩
  have K1 : Hid (Kept w w1) := k1
  clear k1 HAN
  go_wp2_with fail
  go_loopw [21, 5] (fun i u wr => ∃ j : Nat, i = .int .i64 (j : Int) ∧ j ≤ n ∧ Vi.Own enc k 41 w.heap.size wr u (kp l j) ∧ Kept w wr) (fun i _ _ => n - (intOf i).toNat)
  case atStart => exact ⟨0, rfl, Nat.zero_le _, Vi.Own.nil _ _ _ _ _, K1.out⟩
  case round =>
    obtain ⟨j, rfl, hj, oj, kj⟩ := hrel
    rename World => WL
    have HJ : Hid (Vi.Own enc k 41 w.heap.size WL u5 (kp l j) ∧ Kept w WL) := ⟨oj, kj⟩
    clear oj kj K1
    by_cases hlt : j < n
    · have e1 : decide ((j : Int) < (n : Int)) = true := decide_eq_true (by omega)
      have e1' : (j : Int) < (n : Int) := by omega
      have hj1 : (j : Int) + 1 ≤ 9223372036854775807 := by omega
      obtain ⟨x, hx⟩ : ∃ x, l[j]? = some x := ⟨_, List.getElem?_eq_getElem (by rw [← show n = _ from EN.out]; exact hlt)⟩
      have HX : Hid (l[j]? = some x) := hx
      obtain ⟨ba, oa, rfl, hba, -⟩ := HL.out j x hx
      have lx := (HL.out.on HJ.out.2).load0 EE.out hx P
      have hbL : ba < WL.heap.size := Nat.lt_of_lt_of_le hba HJ.out.2.size
      obtain ⟨cx, ecx⟩ : ∃ cx, cx = enc x := ⟨_, rfl⟩
      have ECX : Hid (cx = enc x) := ecx
      have hcxk : cx.length = k := by rw [ecx]; exact EE.out.len x
      rw [← ecx] at lx
      have HNW : Hid ((WL.alloc (.cells cx.toArray 41)).heap[WL.heap.size]? = some (.cells cx.toArray 41 (0, 0))) := heap_new _ _
      have KB : Hid (Kept WL (WL.alloc (.cells cx.toArray 41))) := (Same.refl _ WL).alloc _
      have hst : (storeCells ⟨WL.heap.size, 0, none⟩ cx).run P (WL.alloc (.cells zl.toArray 41)) = .ok () (WL.alloc (.cells cx.toArray 41)) := by
        have := run_storeCells_new (P := P) WL 41 zl.toArray cx.toArray (by rw [HI41.out]; simp [hcxk]) (by simp [hcxk, hzl]) (by
          rw [List.all_toArray, List.all_eq_true, ecx]
          exact fun v hv => EE.out.one x v hv)
        simpa using this
      clear hx ecx hba
      go_upto_region 7 with fail
      generalize WL.alloc (.cells cx.toArray 41) = W4 at HNW KB ⊢
      generalize WL.heap.size = gx at HNW hbL ⊢
      clear lx hst hbL
      have H4 : Hid (Vi.Own enc k 41 w.heap.size W4 u5 (kp l j) ∧ Kept w W4) := ⟨HJ.out.1.on KB.out, HJ.out.2.trans' KB.out⟩
      have hgx : gx < W4.heap.size := lt_of_heap HNW.out
      have lbx : Sem.run P (loadCellsFrom ⟨gx, 0, none⟩ 0 k #[]) W4 = .ok cx.toArray W4 := by
        have := Vi.At.load0 EE.out (Vi.vrow_p (enc := enc) (k := k) (x := x) (by rw [← show cx = _ from ECX.out]; exact HNW.out)) (i := 0) rfl P
        rw [← show cx = _ from ECX.out] at this
        simpa using this
      obtain ⟨ak, ck, eu, -, -, -⟩ := H4.out.1.shape
      obtain ⟨m, em⟩ : ∃ m, m = (kp l j).length := ⟨_, rfl⟩
      rw [← em] at eu
      subst eu
      have EM : Hid (m = (kp l j).length) := em
      have hm : m ≤ 10000 := by rw [em]; exact kp_len l j
      have HV1 : Hid _ := HVA.out x W4
      rw [← show cx = _ from ECX.out] at HV1
      clear em HJ KB
      cases hok : Vi.okV x with
      | false =>
        have HX2 : Hid (kp l (j + 1) = kp l j) := kp_no HX.out hok
        rw [hok] at HV1
        clear hok
        go_wp2_with fail
        refine Calls.mono HV1.out ?_
        rintro r W5 ⟨rfl, k5⟩
        have K5 : Hid (Kept W4 W5) := k5
        clear HV1 k5 lbx hgx
        go_wp2_with fail
        go_roundw
        case rel => exact ⟨j + 1, by simp, hlt, by rw [HX2.out]; exact H4.out.1.on K5.out, H4.out.2.trans' K5.out⟩
        case measure => simp only [intOf]; omega
      | true =>
        rw [hok] at HV1
        by_cases hf : m < 10000
        · have hfi : (m : Int) < 10000 := by omega
          have HX2 : Hid (kp l (j + 1) = kp l j ++ [x]) := kp_yes HX.out hok (by rw [← show m = _ from EM.out]; exact hf)
          have hfd : decide ((m : Int) < 10000) = true := decide_eq_true hfi
          clear hok hf hm
          go_wp2_with fail
          refine Calls.mono HV1.out ?_
          rintro r W5 ⟨rfl, k5⟩
          have H5 : Hid (Vi.Own enc k 41 w.heap.size W5 (.slice ak m ck) (kp l j) ∧ Kept w W5) := ⟨H4.out.1.on k5, H4.out.2.trans' k5⟩
          have HB5 : Hid (W5.heap[gx]? = some (.cells cx.toArray 41 (0, 0))) := (k5.block _ (lt_of_heap HNW.out) (fun e => e)).trans HNW.out
          clear HV1 k5 lbx hgx HNW H4
          have hgx : gx < W5.heap.size := lt_of_heap HB5.out
          have lbx : Sem.run P (loadCellsFrom ⟨gx, 0, none⟩ 0 k #[]) W5 = .ok cx.toArray W5 := by
            have := Vi.At.load0 EE.out (Vi.vrow_p (enc := enc) (k := k) (x := x) (by rw [← show cx = _ from ECX.out]; exact HB5.out)) (i := 0) rfl P
            rw [← show cx = _ from ECX.out] at this
            simpa using this
          have hfx := fun (A : Array Value) (h : A.size = k) => Vi.fold_all cx A (h.trans hcxk.symm)
          have KA : Hid (Kept W5 (W5.alloc (.cells cx.toArray 41))) := (Same.refl _ W5).alloc _
          have HA : Hid (∀ ty, _) := HAP.out (W5.alloc (.cells cx.toArray 41)) (.slice ak m ck) (kp l j) W5.heap.size x (H5.out.1.on KA.out) (by rw [← show cx = _ from ECX.out]; exact heap_new _ _) (kp_len l j) (Nat.le_trans H5.out.2.size KA.out.size)
          go_wp2_with (at_builtin; refine wpList_app rfl (.tmp 32) (.tmp 34) 23 23 rfl (.slice ak m ck) (.slice (some ⟨W5.heap.size, 0, none⟩) 1 1) rfl rfl _ HA.out ?_; rintro v6 W6 ⟨o6, s6, -⟩; have R : Hid _ := And.intro o6 s6; clear o6 s6)
          go_roundw
          case rel => exact ⟨j + 1, by simp, hlt, by rw [HX2.out]; exact R.out.1, own_kept (H5.out.2.trans' KA.out) (H5.out.1.on KA.out) R.out.2⟩
          case measure => simp only [intOf]; omega
        · have hfi : ¬ (m : Int) < 10000 := by omega
          have HX2 : Hid (kp l (j + 1) = kp l j) := kp_full HX.out (by rw [← show m = _ from EM.out]; exact hf)
          have hfd : decide ((m : Int) < 10000) = false := decide_eq_false hfi
          clear hok hf hm
          go_wp2_with fail
          refine Calls.mono HV1.out ?_
          rintro r W5 ⟨rfl, k5⟩
          have K5 : Hid (Kept W4 W5) := k5
          clear HV1 k5 lbx hgx
          go_wp2_with fail
          go_roundw
          case rel => exact ⟨j + 1, by simp, hlt, by rw [HX2.out]; exact H4.out.1.on K5.out, H4.out.2.trans' K5.out⟩
          case measure => simp only [intOf]; omega
    · obtain rfl : n = j := by omega
      have e1 : decide ((n : Int) < (n : Int)) = false := decide_eq_false (by omega)
      have e1' : ¬ (n : Int) < (n : Int) := by omega
      obtain ⟨ak, ck, rfl, hck, hnk, -⟩ := HJ.out.1.shape
      have HS1 : Hid _ := HRO.out WL ak ck (kp l n) (HJ.out.1.at EE.out) hck (fun e => by have := hnk e; exact ⟨by rw [this.1]; rfl, this.2⟩) (by have := kp_len l n; omega)
      have HOK : Hid (okO (oL total (Vi.srt Vi.ltV (kp l n))) = true ↔ (1 ≤ total ∧ total ≤ 1099511627776) ∧ ((Vi.srt Vi.ltV (kp l n)).length : Int) ≤ total) := oL_ok total (kp_ok l n) (kp_len l n)
      have hSL : (Vi.srt Vi.ltV (kp l n)).length ≤ 10000 := by rw [Vi.srt_len]; exact kp_len l n
      have KW : Hid (Kept w WL) := HJ.out.2
      generalize Vi.srt Vi.ltV (kp l n) = S at HS1 HOK hSL
      generalize (kp l n).length = nk at HS1 ⊢
      clear hck hnk HJ HAP HVA HRO
      go_wp2_with fail
      refine Calls.mono HS1.out ?_
      rintro r w2 ⟨u, rfl, o2, k2⟩
      obtain ⟨sa, sc, rfl, hsc, hns, -⟩ := o2.shape
      have HC1 : Hid (∀ W b c, Vi.At enc k W b S → (b = none → S.length = 0 ∧ c = 0) → _) := fun W b c x y => HCO.out W (oL total S) b c x y (by dsimp only; omega)
      have HR1 : Hid (∀ W b c, Kept w W → Vi.At enc k W b S → _) := fun W b c x y => HRE.out W (oL total S) b c x y (by dsimp only; omega)
      have HR2 : Hid (∀ S2, S2.length = S.length → ∀ W b c, Kept w W → Vi.At enc k W b S2 → _) := fun (S2 : List Vi.Vl) (e2 : S2.length = S.length) W b c x y => HRE.out W (oL total S2) b c x y (by dsimp only; omega)
      have HV2 : Hid (∀ S2, S2.length = S.length → ∀ W b c, Vi.At enc k W b S2 → _) := fun (S2 : List Vi.Vl) (e2 : S2.length = S.length) W b c x => HVL.out W (oL total S2) b c x (by dsimp only; omega)
      have HP1 : Hid (okO (oL total S) = true → ∀ W, Kept w W → _) := fun ok W x => HPA.out W (oL total S) x ok
      have HM1 : Hid (∀ W a b c d, Vi.At enc k W a S → Vi.At enc k W b S → _) := fun W a b c d x y => HSA.out W (oL total S) a b c d x y (by dsimp only; omega)
      unfold ouV at HC1 HR1 HR2 HV2 HP1 HM1
      dsimp only at HC1 HR1 HR2 HV2 HP1 HM1
      obtain ⟨RT, eRT⟩ : ∃ RT, RT = rendT (oL total S) := ⟨_, rfl⟩
      have ERT : Hid (RT = rendT (oL total S)) := eRT
      rw [← eRT] at HR1
      clear eRT
      obtain ⟨ns, ens⟩ : ∃ ns, ns = S.length := ⟨_, rfl⟩
      have ENS : Hid (ns = S.length) := ens
      have NIS : Hid (sa = none → ns = 0 ∧ sc = 0) := fun e => by have := hns e; rw [ens, this.1]; exact ⟨rfl, this.2⟩
      rw [← ens] at HC1 HR1 HR2 HV2 HP1 HM1 HOK hSL ⊢
      have OS : Hid (Vi.Own enc k 41 WL.heap.size w2 (.slice sa ns sc) S ∧ Kept w w2) := ⟨by rw [ens]; exact o2, KW.out.trans' k2⟩
      clear HS1 HCO HRE HPA HSA HVL o2 k2 hsc hns ens KW
      have hst := HST.out w2 (.int .i64 9) (.int .i64 0) (.int .i64 0) (.int .i64 5) (.int .i64 total) (.slice sa ns sc) rfl rfl rfl rfl rfl rfl
      have B3 : Hid ((w2.alloc (ouO (.int .i64 9) (.int .i64 0) (.int .i64 0) (.int .i64 5) (.int .i64 total) (.slice sa ns sc))).heap[w2.heap.size]? = some (ouO (.int .i64 9) (.int .i64 0) (.int .i64 0) (.int .i64 5) (.int .i64 total) (.slice sa ns sc))) := heap_new _ _
      have k3 : Kept w2 (w2.alloc (ouO (.int .i64 9) (.int .i64 0) (.int .i64 0) (.int .i64 5) (.int .i64 total) (.slice sa ns sc))) := (Same.refl _ w2).alloc _
      have S3 : Hid (Kept w (w2.alloc (ouO (.int .i64 9) (.int .i64 0) (.int .i64 0) (.int .i64 5) (.int .i64 total) (.slice sa ns sc))) ∧ Vi.At enc k (w2.alloc (ouO (.int .i64 9) (.int .i64 0) (.int .i64 0) (.int .i64 5) (.int .i64 total) (.slice sa ns sc))) sa S) := ⟨OS.out.2.trans' k3, (OS.out.1.at EE.out).on k3⟩
      clear k3 OS
      go_upto_region 12 with fail
      generalize w2.alloc (ouO (.int .i64 9) (.int .i64 0) (.int .i64 0) (.int .i64 5) (.int .i64 total) (.slice sa ns sc)) = W3 at B3 S3 ⊢
      generalize w2.heap.size = g8 at B3 ⊢
      clear hst
      obtain ⟨c0, c1, c2, c3, c4, c5⟩ := ou_obj B3.out
      have l8 := lt_of_heap B3.out
      go_wp2_with fail
      refine Calls.mono (HC1.out W3 sa sc S3.out.2 NIS.out) ?_
      rintro r w4 ⟨b4, q4, rfl, o4, k4⟩
      have B4 : Hid (w4.heap[g8]? = some (ouO (.int .i64 9) (.int .i64 0) (.int .i64 0) (.int .i64 5) (.int .i64 total) (.slice sa ns sc))) := (k4.block _ (lt_of_heap B3.out) (fun e => e)).trans B3.out
      have S4 : Hid (Kept w w4 ∧ Vi.At enc k w4 sa S) := ⟨S3.out.1.trans' k4, S3.out.2.on k4⟩
      have A4 : Hid (Vi.At enc k w4 b4 S) := Vi.Own.at EE.out o4
      clear c0 c1 c2 c3 c4 c5 l8 o4 k4 B3 S3
      go_wp2_with fail
      refine Calls.mono (HR1.out w4 b4 q4 S4.out.1 A4.out) ?_
      rintro r w5 ⟨rfl, k5⟩
      have B5 : Hid (w5.heap[g8]? = some (ouO (.int .i64 9) (.int .i64 0) (.int .i64 0) (.int .i64 5) (.int .i64 total) (.slice sa ns sc))) := (k5.block _ (lt_of_heap B4.out) (fun e => e)).trans B4.out
      have S5 : Hid (Kept w w5 ∧ Vi.At enc k w5 sa S) := ⟨S4.out.1.trans' k5, S4.out.2.on k5⟩
      clear k5 B4 S4 A4 HR1
      by_cases hok : okO (oL total S) = true
      · obtain ⟨⟨x1, x2⟩, x3⟩ := HOK.out.1 hok
        have HP2 : Hid _ := HP1.out hok
        have hrt : RT = (outL (oL total S), 0) := by rw [ERT.out, rendT_ok hok]
        rw [hrt]
        clear hrt HOK HP1 hok ERT
        generalize outL (oL total S) = OL at HP2 ⊢
        have t1 : ¬ total < 1 := by omega
        have t2 : ¬ 1099511627776 < total := by omega
        have t3 : ¬ total < (ns : Int) := by omega
        have t1d : decide (total < 1) = false := decide_eq_false t1
        have t2d : decide (total > 1099511627776) = false := decide_eq_false t2
        have t3d : decide (total < (ns : Int)) = false := decide_eq_false t3
        go_wp2_with fail
        refine Calls.mono (HP2.out w5 S5.out.1) ?_
        rintro r w6 ⟨b6, q6, rfl, o6, k6⟩
        clear t1 t2 t3 t1d t2d t3d HP2
        have hst := HST.out w6 (.int .i64 9) (.int .i64 0) (.int .i64 0) (.int .i64 5) (.int .i64 total) (.slice b6 ns q6) rfl rfl rfl rfl rfl rfl
        have B7 : Hid ((w6.alloc (ouO (.int .i64 9) (.int .i64 0) (.int .i64 0) (.int .i64 5) (.int .i64 total) (.slice b6 ns q6))).heap[w6.heap.size]? = some (ouO (.int .i64 9) (.int .i64 0) (.int .i64 0) (.int .i64 5) (.int .i64 total) (.slice b6 ns q6))) := heap_new _ _
        have k7 : Kept w6 (w6.alloc (ouO (.int .i64 9) (.int .i64 0) (.int .i64 0) (.int .i64 5) (.int .i64 total) (.slice b6 ns q6))) := (Same.refl _ w6).alloc _
        have S7 : Hid (Kept w (w6.alloc (ouO (.int .i64 9) (.int .i64 0) (.int .i64 0) (.int .i64 5) (.int .i64 total) (.slice b6 ns q6))) ∧ Vi.At enc k (w6.alloc (ouO (.int .i64 9) (.int .i64 0) (.int .i64 0) (.int .i64 5) (.int .i64 total) (.slice b6 ns q6))) sa S ∧ Vi.At enc k (w6.alloc (ouO (.int .i64 9) (.int .i64 0) (.int .i64 0) (.int .i64 5) (.int .i64 total) (.slice b6 ns q6))) b6 S ∧ (w6.alloc (ouO (.int .i64 9) (.int .i64 0) (.int .i64 0) (.int .i64 5) (.int .i64 total) (.slice b6 ns q6))).heap[g8]? = some (ouO (.int .i64 9) (.int .i64 0) (.int .i64 0) (.int .i64 5) (.int .i64 total) (.slice sa ns sc))) := ⟨S5.out.1.trans' (k6.trans' k7), S5.out.2.on (k6.trans' k7), (Vi.Own.at EE.out o6).on k7, ((k6.trans' k7).block _ (lt_of_heap B5.out) (fun e => e)).trans B5.out⟩
        clear k7 k6 o6 S5 B5
        go_upto_region 18 with fail
        generalize w6.alloc (ouO (.int .i64 9) (.int .i64 0) (.int .i64 0) (.int .i64 5) (.int .i64 total) (.slice b6 ns q6)) = W7 at B7 S7 ⊢
        generalize w6.heap.size = g11 at B7 ⊢
        clear hst
        obtain ⟨c0, c1, c2, c3, c4, c5⟩ := ou_obj S7.out.2.2.2
        have l8 := lt_of_heap S7.out.2.2.2
        obtain ⟨d0, d1, d2, d3, d4, d5⟩ := ou_obj B7.out
        have l11 := lt_of_heap B7.out
        go_wp2_with fail
        refine Calls.mono (HM1.out W7 sa b6 sc q6 S7.out.2.1 S7.out.2.2.1) ?_
        rintro r w8 ⟨rfl, k8⟩
        have S8 : Hid (Kept w w8 ∧ Vi.At enc k w8 sa S ∧ w8.heap[g8]? = some (ouO (.int .i64 9) (.int .i64 0) (.int .i64 0) (.int .i64 5) (.int .i64 total) (.slice sa ns sc))) := ⟨S7.out.1.trans' k8, S7.out.2.1.on k8, (k8.block _ (lt_of_heap S7.out.2.2.2) (fun e => e)).trans S7.out.2.2.2⟩
        clear c0 c1 c2 c3 c4 c5 l8 d0 d1 d2 d3 d4 d5 l11 k8 S7 B7 HM1
        go_wp2_with fail
        go_loopw [13] (fun i wr => ∃ j : Nat, i = .int .i64 (j : Int) ∧ 1 ≤ j ∧ (j ≤ ns ∨ j = 1) ∧ Kept w8 wr) (fun i _ => ns - (intOf i).toNat)
        case atStart => exact ⟨1, rfl, Nat.le_refl _, .inr rfl, Same.refl _ _⟩
        case round =>
          obtain ⟨j, rfl, hj1, hj, kj⟩ := hrel
          rename World => WR
          have KJ : Hid (Kept w8 WR) := kj
          have S9 : Hid (Kept w WR ∧ Vi.At enc k WR sa S ∧ WR.heap[g8]? = some (ouO (.int .i64 9) (.int .i64 0) (.int .i64 0) (.int .i64 5) (.int .i64 total) (.slice sa ns sc))) := ⟨S8.out.1.trans' kj, S8.out.2.1.on kj, (kj.block _ (lt_of_heap S8.out.2.2) (fun e => e)).trans S8.out.2.2⟩
          clear kj S8
          by_cases hjn : j < ns
          · obtain ⟨i, rfl⟩ : ∃ i, j = i + 1 := ⟨j - 1, by omega⟩
            obtain ⟨x, hx⟩ : ∃ x, S[i]? = some x := ⟨_, List.getElem?_eq_getElem (by rw [← show ns = _ from ENS.out]; omega)⟩
            obtain ⟨y, hy⟩ : ∃ y, S[i + 1]? = some y := ⟨_, List.getElem?_eq_getElem (by rw [← show ns = _ from ENS.out]; omega)⟩
            obtain ⟨b, o, rfl, hb, -⟩ := S9.out.2.1 i x hx
            have lx := S9.out.2.1.loadg EE.out hx P
            have ly := S9.out.2.1.loadg EE.out hy P
            have HXY : Hid (S[i]? = some x ∧ S[i + 1]? = some y) := ⟨hx, hy⟩
            have HLT : Hid (∀ W, _) := HBF.out x y
            have HSW : Hid (∀ (W : World) (base : Nat) (g c : Nat), Vi.Own enc k 41 base W (.slice (some ⟨g, 0, none⟩) ns c) S → _) := fun W base g c (h : Vi.Own enc k 41 base W (.slice (some ⟨g, 0, none⟩) ns c) S) => h.swap EE.out hx hy P
            have kx : (enc x).length = k := EE.out.len x
            have ky : (enc y).length = k := EE.out.len y
            obtain ⟨cx, ecx⟩ : ∃ cx, cx = enc x := ⟨_, rfl⟩
            obtain ⟨cy, ecy⟩ : ∃ cy, cy = enc y := ⟨_, rfl⟩
            rw [← ecx] at lx HLT HSW kx
            rw [← ecy] at ly HLT HSW ky
            clear hx hy ecx ecy hb
            obtain ⟨j, ej⟩ : ∃ j, j = i + 1 := ⟨_, rfl⟩
            have EJ : Hid (j = i + 1) := ej
            have hi : (j : Int) - 1 = (i : Int) := by omega
            have hwi : IntKind.i64.wrap ((j : Int) - 1) = (i : Int) := by rw [IntKind.wrap_i64] <;> omega
            have hw64 : wrap64 ((j : Int) - 1) = (i : Int) := by unfold wrap64; omega
            have hwd : IntKind.i64.wrap (i : Int) = (i : Int) := by rw [IntKind.wrap_i64] <;> omega
            have hin : (i : Int) < (ns : Int) := by omega
            have d1 : (j : Int) < (ns : Int) := by omega
            have d1d : decide ((j : Int) < (ns : Int)) = true := decide_eq_true d1
            have d2 : (j : Int) + 1 ≤ 9223372036854775807 := by omega
            rw [← ej] at hj1 hj hjn ly HSW ⊢
            clear ej
            cases hv : Vi.ltV x y with
            | false =>
              rw [hv] at HLT
              clear hv
              go_wp2_with fail
              refine wp_region_quiet_grown mixed (by kernel_rfl) ?_
              repeat (go_big_quiet_step (first | (go_at_call 20; refine Calls.grown_of (HLT.out _))))
              refine wpQuiet_nil ?_
              intro _ hw'
              obtain ⟨⟨nq, osq⟩, hw''⟩ := hw'
              subst hw''
              have G : Hid (Vi.Grw WR (Sort.grow (WR.drewN nq) osq)) := ⟨nq, osq, rfl⟩
              generalize Sort.grow (WR.drewN nq) osq = W5 at G ⊢
              clear lx ly
              go_wp2_with fail
              go_roundw
              case rel => exact ⟨j + 1, by first | rfl | simp, by omega, .inl hjn, KJ.out.trans' (Vi.Grw.kept G.out)⟩
              case measure => simp only [intOf]; omega
            | true =>
              have HBAD : Hid (okO (oL total ((S.set i y).set (i + 1) x)) = false) := oL_sw HXY.out.1 HXY.out.2 hv
              rw [hv] at HLT
              clear hv
              go_wp2_with fail
              refine wp_region_quiet_grown mixed (by kernel_rfl) ?_
              repeat (go_big_quiet_step (first | (go_at_call 20; refine Calls.grown_of (HLT.out _))))
              refine wpQuiet_nil ?_
              intro _ hw'
              obtain ⟨⟨nq, osq⟩, hw''⟩ := hw'
              subst hw''
              have G : Kept WR (Sort.grow (WR.drewN nq) osq) := Vi.Grw.kept ⟨nq, osq, rfl⟩
              have SA : Hid (Kept w (Sort.grow (WR.drewN nq) osq) ∧ Vi.At enc k (Sort.grow (WR.drewN nq) osq) (some ⟨b, o, none⟩) S ∧ (Sort.grow (WR.drewN nq) osq).heap[g8]? = some (ouO (.int .i64 9) (.int .i64 0) (.int .i64 0) (.int .i64 5) (.int .i64 total) (.slice (some ⟨b, o, none⟩) ns sc))) := ⟨S9.out.1.trans' G, S9.out.2.1.on G, (G.block _ (lt_of_heap S9.out.2.2) (fun e => e)).trans S9.out.2.2⟩
              clear G
              generalize Sort.grow (WR.drewN nq) osq = WA at SA ⊢
              clear lx ly S9 KJ
              obtain ⟨c0, c1, c2, c3, c4, c5⟩ := ou_obj SA.out.2.2
              have l8 := lt_of_heap SA.out.2.2
              go_wp2_with fail
              refine Calls.mono (HC1.out WA _ sc SA.out.2.1 NIS.out) ?_
              rintro r wb ⟨bb, qb, rfl, ob, kb⟩
              obtain ⟨gq, rfl, hgq, hgs⟩ : ∃ gq, bb = some ⟨gq, 0, none⟩ ∧ WA.heap.size ≤ gq ∧ gq < wb.heap.size := by
                obtain ⟨a', c', e', -, hn', hg'⟩ := ob.shape
                simp only [Value.slice.injEq] at e'
                obtain ⟨rfl, -, rfl⟩ := e'
                cases bb with
                | none =>
                  have := (hn' rfl).1
                  rw [this] at HXY
                  exact absurd HXY.out.1 (by simp)
                | some ad =>
                  obtain ⟨g, rfl, h1, h2⟩ := hg' ad rfl
                  exact ⟨g, rfl, h1, h2⟩
              have hst := HST.out wb (.int .i64 9) (.int .i64 0) (.int .i64 0) (.int .i64 5) (.int .i64 total) (.slice (some ⟨gq, 0, none⟩) ns qb) rfl rfl rfl rfl rfl rfl
              have BC : Hid ((wb.alloc (ouO (.int .i64 9) (.int .i64 0) (.int .i64 0) (.int .i64 5) (.int .i64 total) (.slice (some ⟨gq, 0, none⟩) ns qb))).heap[wb.heap.size]? = some (ouO (.int .i64 9) (.int .i64 0) (.int .i64 0) (.int .i64 5) (.int .i64 total) (.slice (some ⟨gq, 0, none⟩) ns qb))) := heap_new _ _
              have kc : Kept wb (wb.alloc (ouO (.int .i64 9) (.int .i64 0) (.int .i64 0) (.int .i64 5) (.int .i64 total) (.slice (some ⟨gq, 0, none⟩) ns qb))) := (Same.refl _ wb).alloc _
              have SC : Hid (Kept w (wb.alloc (ouO (.int .i64 9) (.int .i64 0) (.int .i64 0) (.int .i64 5) (.int .i64 total) (.slice (some ⟨gq, 0, none⟩) ns qb))) ∧ Vi.Own enc k 41 WA.heap.size (wb.alloc (ouO (.int .i64 9) (.int .i64 0) (.int .i64 0) (.int .i64 5) (.int .i64 total) (.slice (some ⟨gq, 0, none⟩) ns qb))) (.slice (some ⟨gq, 0, none⟩) ns qb) S ∧ gq < wb.heap.size ∧ w.heap.size ≤ gq) := ⟨SA.out.1.trans' (kb.trans' kc), ob.on kc, hgs, Nat.le_trans SA.out.1.size hgq⟩
              clear kc kb ob hgq hgs c0 c1 c2 c3 c4 c5 l8 SA
              go_upto_region 25 with fail
              generalize wb.alloc (ouO (.int .i64 9) (.int .i64 0) (.int .i64 0) (.int .i64 5) (.int .i64 total) (.slice (some ⟨gq, 0, none⟩) ns qb)) = WC at BC SC ⊢
              generalize wb.heap.size = g14 at BC SC ⊢
              clear hst
              obtain ⟨⟨l1, l2, s1, s2⟩, o13, k13⟩ := HSW.out WC _ gq qb SC.out.2.1
              have hne : g14 ≠ gq := by have := SC.out.2.2.1; omega
              have hgq : gq < WC.heap.size := by have := SC.out.2.2.1; have := lt_of_heap BC.out; omega
              have c5 := (ou_obj BC.out).2.2.2.2.2
              have l14 := lt_of_heap BC.out
              have SD : Hid (Kept w _ ∧ Vi.At enc k _ (some ⟨gq, 0, none⟩) _ ∧ _ = some (ouO (.int .i64 9) (.int .i64 0) (.int .i64 0) (.int .i64 5) (.int .i64 total) (.slice (some ⟨gq, 0, none⟩) ns qb))) := ⟨((SC.out.1.to _).trans' k13).mono fun _ hb e => by subst e; exact absurd hb (Nat.not_lt.2 SC.out.2.2.2), Vi.Own.at EE.out o13, (k13.block _ (lt_of_heap BC.out) hne).trans BC.out⟩
              rw [← show j = _ from EJ.out] at HBAD
              have HL2 : Hid (((S.set i y).set j x).length = ns) := by show _ = _; rw [List.length_set, List.length_set]; exact ENS.out.symm
              have HRX : Hid _ := HR2.out ((S.set i y).set j x) HL2.out _ _ qb SD.out.1 SD.out.2.1
              rw [show rendT (oL total ((S.set i y).set j x)) = _ from rendT_no HBAD.out] at HRX
              have HVX : Hid (∀ W b c, Vi.At enc k W b ((S.set i y).set j x) → _) := fun W b c h => HV2.out ((S.set i y).set j x) HL2.out W b c h
              rw [show okO (oL total ((S.set i y).set j x)) = false from HBAD.out] at HVX
              rw [show ((S.set i y).set j x).length = ns from HL2.out] at HRX HVX
              obtain ⟨p0, p1, p2, p3, p4, p5⟩ := ou_obj SD.out.2.2
              have lp := lt_of_heap SD.out.2.2
              have kdr : Kept WC WC.drew := (Same.refl _ WC).drew
              have cm : (WC.drew.setCells gq (i * k) cy).cell? ⟨g14, 5, none⟩ = some (.slice (some ⟨gq, 0, none⟩) ns qb) := (((kdr.to (fun b => b = gq)).trans' (Vi.setCells_same WC.drew gq (i * k) cy)).cell (p := ⟨g14, 5, none⟩) l14 hne).trans c5
              have lm : g14 < (WC.drew.setCells gq (i * k) cy).heap.size := Nat.lt_of_lt_of_le l14 ((kdr.to (fun b => b = gq)).trans' (Vi.setCells_same WC.drew gq (i * k) cy)).size
              clear o13 k13 hne BC SC HBAD HR2 HV2
              go_wp2_with fail
              go_big_region_o
              all_goals
                go_wp2_with fail
                refine Calls.mono HRX.out ?_
                rintro r wd ⟨rfl, kd⟩
                have SE : Hid (Kept w wd ∧ Vi.At enc k wd (some ⟨gq, 0, none⟩) ((S.set i y).set j x) ∧ wd.heap[g14]? = some (ouO (.int .i64 9) (.int .i64 0) (.int .i64 0) (.int .i64 5) (.int .i64 total) (.slice (some ⟨gq, 0, none⟩) ns qb))) := ⟨SD.out.1.trans' kd, SD.out.2.1.on kd, (kd.block _ (lt_of_heap SD.out.2.2) (fun e => e)).trans SD.out.2.2⟩
                clear p0 p1 p2 p3 p4 p5 lp kd SD HRX l1 l2 s1 s2 cm lm l14 c5
                obtain ⟨p0, p1, p2, p3, p4, p5⟩ := ou_obj SE.out.2.2
                have lp := lt_of_heap SE.out.2.2
                go_wp2_with fail
                refine Calls.mono (HVX.out wd _ qb SE.out.2.1) ?_
                rintro r we ⟨rfl, ke⟩
                have KF : Hid (Kept w we) := SE.out.1.trans' ke
                clear p0 p1 p2 p3 p4 p5 lp ke SE HVX
                go_wp2_with fail
                go_ret
                exact ⟨rfl, KF.out⟩
          · have d1 : ¬ (j : Int) < (ns : Int) := by omega
            have d1d : decide ((j : Int) < (ns : Int)) = false := decide_eq_false d1
            go_wp2_with fail
            go_ret
            exact ⟨rfl, S9.out.1⟩
      · have hrt : RT = ([], 220) := by rw [ERT.out, rendT_no (by simpa using hok)]
        rw [hrt]
        have hc : total < 1 ∨ (¬ total < 1 ∧ 1099511627776 < total) ∨ (¬ total < 1 ∧ ¬ 1099511627776 < total ∧ total < (ns : Int)) := by
          have : ¬ ((1 ≤ total ∧ total ≤ 1099511627776) ∧ (ns : Int) ≤ total) := fun h => hok (HOK.out.2 h)
          omega
        clear hrt hok HOK HP1 HM1 HC1 HR2 HV2 ERT
        rcases hc with s1 | ⟨s1, s2⟩ | ⟨s1, s2, s3⟩
        all_goals
          go_wp2_with fail
          go_ret
          exact ⟨rfl, S5.out.1⟩
set_option maxRecDepth 100000 in
/-- The program itself. -/
theorem al22 (w : World) (tb : Tab w.heap.size w) (hm : Mx w) (hw : Wds w) : Al Tryd.prog 12 Vi.vl1 w where
  mixed := by kernel_rfl
  E := Vi.ekV
  fL := Tryd.func7
  eA := Tryd.call9
  eV := Tryd.call18
  eS := Tryd.call19
  eB := Tryd.call20
  eC := Tryd.call10
  eR := Tryd.call12
  eP := Tryd.call16
  eM := Tryd.call14
  eW := Tryd.call13
  anc := fun W k => anchor_any22 W (tb.up (Nat.le_refl _) k) (hm.on k) (hw.on k)
  val := fun x W => (Vi.rvalid18 x W).mono fun e w' ⟨h1, h2⟩ => ⟨h1, by rw [h2]; exact (Same.refl _ _).alloc _⟩
  rso := fun _ _ _ _ h1 h2 h3 h4 => Vi.rsort18 h1 h2 h3 h4
  bef := Vi.before18
  cop := fun W o a cap h hn hl => copied_any22 W o a cap h hn hl
  ren := fun W o a cap k h hl => render22 W o a cap h hl (tb.up (Nat.le_refl _) k) (hw.on k)
  par := fun W o k hx => by
    have h9 := parse22 (outL o) W (by have := outL_leJ hx; omega) (hm.on k) (hw.on k)
    rw [prs_app hx] at h9
    exact h9
  sam := fun W o a b c d h1 h2 hl => same22_any W o o a b c d h1 h2 (by omega) (by omega) true (by simp)
  vld := fun W o a cap h hl => (valid22 W o a cap h hl).mono fun e w' ⟨x, y⟩ => ⟨x, Vi.Grw.kept y⟩
  t3 := Tryd.underlying3
  t4 := Tryd.underlying4
  t9 := Tryd.underlying9
  t22 := rfl
  t23 := Tryd.underlying23
  t25 := rfl
  a3 := Tryd.isAgg3
  a4 := Tryd.isAgg4
  a9 := Tryd.isAgg9
  a22 := Tryd.isAgg22
  a23 := Tryd.isAgg23
  a25 := Tryd.isAgg25
  a41 := Tryd.isAgg41
  z3 := Tryd.sizeOf3
  z4 := Tryd.sizeOf4
  z9 := Tryd.sizeOf9
  z22 := Tryd.sizeOf22
  z23 := Tryd.sizeOf23
  z25 := Tryd.sizeOf25
  z41 := Tryd.sizeOf41
  v23 := Tryd.zeroValue23
  v41 := ⟨[.int .i64 0, .int .i64 0, .int .i64 0, .int .i64 0, .int .i64 0, .string .empty, .bool false, .string .empty, .bool false, .string .empty, .int .i64 0, .int .i64 0], rfl, Tryd.zeroValue41⟩
  v25 := Tryd.zeroValue25
  i25 := by kernel_rfl
  hk := by decide
  i41 := ⟨_, 120, Vi.Tryd.infoViol, rfl, by decide⟩
theorem list_law (w : World) (a : Option Addr) (cap : Nat) (l : List Vi.Vl) (total : Int) (h : Vi.At Vi.vl1 12 w a l) (hlen : l.length ≤ 1172812402961) (tb : Tab w.heap.size w) (hm : Mx w) (hw : Wds w) :
    Calls Tryd.prog 7 #[.slice a l.length cap, .int .i64 total] w fun e w' => e = .returned (.bool true) ∧ Kept w w' := list_p w (al22 w tb hm hw) a cap l total h hlen
end Go.Proofs.YtfhaiklfbnfdlaaDoor
