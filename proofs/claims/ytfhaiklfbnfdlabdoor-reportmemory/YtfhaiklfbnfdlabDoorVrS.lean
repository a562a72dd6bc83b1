/- What is proved: the document's sort of a list of violations gives a new list, sorted, those alike as they stood; the list lies in memory. -/
import Derived.Test.YtfhaiklfbnfdlabDoorVrE
import Derived.Laws.MakeOwn
namespace Go.Proofs.YtfhaiklfbnfdlabDoor.Vi
open Go.RowKit

theorem fold_set (l : List Value) : ∀ (n : Nat) (A : Array Value), A.size = n + l.length → (l.zipIdx n).foldl (fun cs x => cs.setIfInBounds x.snd x.fst) A = (A.toList.take n ++ l).toArray := by
  induction l with
  | nil =>
    intro n A h
    simp only [List.zipIdx_nil, List.foldl_nil, List.append_nil]
    rw [List.take_of_length_le (by simp at h ⊢; omega)]
  | cons a l ih =>
    intro n A h
    simp only [List.length_cons] at h
    rw [List.zipIdx_cons, List.foldl_cons, ih (n + 1) _ (by simp; omega)]
    congr 1
    simp only [Array.toList_setIfInBounds]
    rw [List.take_add_one, List.take_set_of_le (Nat.le_refl _), List.getElem?_set]
    simp [show n < A.size by omega]
theorem fold_all (l : List Value) (A : Array Value) (h : A.size = l.length) : l.zipIdx.foldl (fun cs x => cs.setIfInBounds x.snd x.fst) A = l.toArray := by
  have := fold_set l 0 A (by omega)
  simpa using this
/-- What the document's sort asks of a program. -/
structure Aw (P : Program) (k : Nat) (enc : Vl → List Value) : Prop where
  mixed : P.follows .mixedOrders = true
  E : Ek enc k
  fS : P.funcs[6]? = some Tryd.f6
  eB : ∀ (args : Array Value) (w : World), Sem.run P (callFunc 10 args) w = .ok (.enter 10 args) w
  eS : ∀ (args : Array Value) (w : World), Sem.run P (callFunc 6 args) w = .ok (.enter 6 args) w
  bef : ∀ (a b : Vl) (W : World), Calls P 10 #[.agg (enc a).toArray, .agg (enc b).toArray] W fun e w' => e = .returned (.bool (ltV a b)) ∧ Grw W w'
  t0 : P.underlying 0 = some (TypeDesc.tuple #[])
  t3 : P.underlying 3 = some (TypeDesc.int IntKind.i64)
  t4 : P.underlying 4 = some TypeDesc.bool
  t28 : P.underlying 22 = some (TypeDesc.slice 25)
  a0 : ∀ w, Sem.run P (isAgg 0) w = .ok false w
  a3 : ∀ w, Sem.run P (isAgg 3) w = .ok false w
  a4 : ∀ w, Sem.run P (isAgg 4) w = .ok false w
  a28 : ∀ w, Sem.run P (isAgg 22) w = .ok false w
  a30 : ∀ w, Sem.run P (isAgg 25) w = .ok true w
  z0 : ∀ w, Sem.run P (Go.sizeOf 0) w = .ok 1 w
  z3 : ∀ w, Sem.run P (Go.sizeOf 3) w = .ok 1 w
  z4 : ∀ w, Sem.run P (Go.sizeOf 4) w = .ok 1 w
  z28 : ∀ w, Sem.run P (Go.sizeOf 22) w = .ok 1 w
  z30 : ∀ w, Sem.run P (Go.sizeOf 25) w = .ok k w
  v30 : ∃ zs : Array Value, ∀ w, Sem.run P (zeroValue 25) w = .ok (.agg zs) w
  hk : k ≤ 16777216
  i30 : ∃ z bytes, (P.info? 25).map (fun i => (i.zero, i.size, i.bytes)) = some (some z, k, bytes) ∧ z.cells.size = k ∧ bytes ≤ 120
/-- What stands while two sorted lists are laid into one. -/
structure Mg (enc : Vl → List Value) (k : Nat) (w : World) (base : Nat) (A B : List Vl) (ov : Value) (i j : Nat) (wr : World) : Prop where
  own : ∃ O, Own enc k 25 base wr ov O ∧ O.length = i + j ∧ O ++ mrg ltV (A.drop i) (B.drop j) = mrg ltV A B
  il : i ≤ A.length
  jl : j ≤ B.length
  same : Same (fun k => base ≤ k) w wr
theorem Mg.more {enc : Vl → List Value} {k : Nat} {w : World} {base : Nat} {A B : List Vl} {ov v5 : Value} {i j i' j' : Nat} {wr W w5 : World} {x : Vl} {O : List Vl} (m : Mg enc k w base A B ov i j wr) (hO : Own enc k 25 base wr ov O) (hl : O.length = i + j) (he : O ++ mrg ltV (A.drop i) (B.drop j) = mrg ltV A B)
    (kk : Kept wr W) (o5 : Own enc k 25 base w5 v5 (O ++ [x])) (k5 : Same (fun k => ov.ownBlock = some k) W w5) (hn : mrg ltV (A.drop i) (B.drop j) = x :: mrg ltV (A.drop i') (B.drop j')) (hs : i' + j' = i + j + 1) (hi : i' ≤ A.length) (hj : j' ≤ B.length) : Mg enc k w base A B v5 i' j' w5 :=
  ⟨⟨O ++ [x], o5, by simp; omega, by rw [← he, hn]; simp⟩, hi, hj, (m.same.trans' (kk.to _)).trans k5 fun b _ e => (hO.block e).1⟩
theorem mrg_takeA {A B : List Vl} {i j : Nat} {x : Vl} (hx : A[i]? = some x) (h : B.length ≤ j ∨ ∃ y, B[j]? = some y ∧ ltV y x = false) : mrg ltV (A.drop i) (B.drop j) = x :: mrg ltV (A.drop (i + 1)) (B.drop j) := by
  obtain ⟨hi, rfl⟩ := List.getElem?_eq_some_iff.1 hx
  rw [List.drop_eq_getElem_cons hi]
  rcases h with h | ⟨y, hy, hb⟩
  · rw [List.drop_eq_nil_of_le h, mrg_nil, mrg_nil]
  · obtain ⟨hj, rfl⟩ := List.getElem?_eq_some_iff.1 hy
    rw [List.drop_eq_getElem_cons hj, mrg_fst _ _ hb]
theorem mrg_takeB {A B : List Vl} {i j : Nat} {y : Vl} (hy : B[j]? = some y) (h : A.length ≤ i ∨ ∃ x, A[i]? = some x ∧ ltV y x = true) : mrg ltV (A.drop i) (B.drop j) = y :: mrg ltV (A.drop i) (B.drop (j + 1)) := by
  obtain ⟨hj, rfl⟩ := List.getElem?_eq_some_iff.1 hy
  rw [List.drop_eq_getElem_cons hj]
  rcases h with h | ⟨x, hx, hb⟩
  · rw [List.drop_eq_nil_of_le h, nil_mrg, nil_mrg]
  · obtain ⟨hi, rfl⟩ := List.getElem?_eq_some_iff.1 hx
    rw [List.drop_eq_getElem_cons hi, mrg_snd _ _ hb]
theorem vrow_p {enc : Vl → List Value} {w : World} {k g : Nat} {x : Vl} {ty : TypeId} (h : w.heap[g]? = some (.cells (enc x).toArray ty (0, 0))) : At enc k w (some ⟨g, 0, none⟩) [x] := fun j y hy => by
  match j, hy with
  | 0, hy =>
    simp at hy
    subst hy
    refine ⟨g, 0, rfl, lt_of_heap h, fun c v hv => ?_⟩
    rw [cell_of h, Nat.zero_mul, Nat.add_zero, Nat.zero_add]
    simpa using hv
  | j + 1, hy => simp at hy
set_option maxRecDepth 100000 in
set_option maxHeartbeats 4000000 in
theorem sort_step {P : Program} {k : Nat} {enc : Vl → List Value} (AW : Aw P k enc) {w : World} {a : Option Addr} {cap : Nat} {l : List Vl} (hr : At enc k w a l) (hcap : l.length ≤ cap) (hnil : a = none → l.length = 0 ∧ cap = 0) (hn : l.length ≤ 1172812402961)
    (IH : ∀ (W : World) (a' : Option Addr) (cap' : Nat) (l' : List Vl), l'.length < l.length → At enc k W a' l' → l'.length ≤ cap' → (a' = none → l'.length = 0 ∧ cap' = 0) → Calls P 6 #[.slice a' l'.length cap'] W fun e w' => ∃ v, e = .returned v ∧ Own enc k 25 W.heap.size w' v (srt ltV l') ∧ Kept W w') :
    Calls P 6 #[.slice a l.length cap] w fun e w' => ∃ v, e = .returned v ∧ Own enc k 25 w.heap.size w' v (srt ltV l) ∧ Kept w w' := by
  obtain ⟨mixed, E, fS, eB, eS, bef, t0, t3, t4, t28, a0, a3, a4, a28, a30, z0, z3, z4, z28, z30, ⟨zs, v30⟩, hkm, zz, bytes, i30, hzs, hby⟩ := AW
  have u28 := run_underlying t28
  have EE : Hid (Ek enc k) := E
  have HBF : Hid (∀ a b W, _) := bef
  have hk0 : ¬ k = 0 := by have := E.pos; omega
  have hkm' : ¬ 16777216 < k := by omega
  clear bef
  by_cases h2 : l.length < 2
  · have hs : srt ltV l = l := by
      match l, h2 with
      | [], _ => rfl
      | [x], _ => rfl
    rw [hs]
    have HC : Hid (∀ ty, _) := fun ty => copy_own (c := cap) E t28 i30 hzs hr hnil (by have : (l.length + l.length / 4 + 192) * bytes ≤ 200 * 120 := Nat.mul_le_mul (by omega) hby; omega) (by unfold maxLen; omega) ty
    obtain ⟨n, en⟩ : ∃ n, n = l.length := ⟨_, rfl⟩
    rw [← en] at HC h2 ⊢
    have d1 : decide ((n : Int) < 2) = true := decide_eq_true (by omega)
    have d1' : (n : Int) < 2 := by omega
    clear hr hcap hnil hn IH hs en E
    go_enter fS, Tryd.ntmps6
    go_wp2_with (at_builtin; refine wpList_app rfl (.tmp 11) (.tmp 12) 22 rfl (.slice (some ⟨w.heap.size, 0, none⟩) 0 0) (.slice a n cap) rfl rfl _ HC.out ?_; rintro v2 w2 ⟨o2, k2⟩; have R : Hid _ := And.intro o2 k2; clear o2 k2)
    go_ret
    obtain ⟨o2, k2⟩ := R.out
    exact ⟨_, rfl, o2, k2⟩
  · obtain ⟨n, en⟩ : ∃ n, n = l.length := ⟨_, rfl⟩
    obtain ⟨m, em⟩ : ∃ m, m = n / 2 := ⟨_, rfl⟩
    obtain ⟨q, hnm⟩ : ∃ q, n - m = q := ⟨_, rfl⟩
    obtain ⟨cq, hcm⟩ : ∃ cq, cap - m = cq := ⟨_, rfl⟩
    have ea : ∃ b off, a = some ⟨b, off, none⟩ := by
      obtain ⟨b, off, e, _⟩ := hr 0 l[0] (List.getElem?_eq_getElem (by omega))
      exact ⟨b, off, e⟩
    obtain ⟨b, off, rfl⟩ := ea
    have lm : (l.take m).length = m := by rw [List.length_take]; omega
    have ld : (l.drop m).length = q := by rw [List.length_drop]; omega
    have HI1 : Hid _ := IH w (some ⟨b, off, none⟩) cap (l.take m) (by omega) (hr.take m) (by omega) (fun e => by cases e)
    have HI2 : Hid (∀ W, Kept w W → _) := fun W (k' : Kept w W) => IH W (some ⟨b, off + m * k, none⟩) cq (l.drop m) (by omega) ((hr.on k').drop m) (by omega) (fun e => by cases e)
    rw [lm] at HI1
    rw [ld] at HI2
    have hmrg : Hid _ := mrg_srt ltV_swo (l.take m) (l.drop m)
    rw [List.take_append_drop] at hmrg
    have la : (srt ltV (l.take m)).length = m := by rw [srt_len, lm]
    have lb : (srt ltV (l.drop m)).length = q := by rw [srt_len, ld]
    generalize srt ltV (l.take m) = A at *
    generalize srt ltV (l.drop m) = B at *
    rw [← hmrg.out]
    rw [← en] at hn hcap h2 ⊢
    have d1 : decide ((n : Int) < 2) = false := decide_eq_false (by omega)
    have d1' : ¬ (n : Int) < 2 := by omega
    have hq : Int.tdiv (n : Int) 2 = (m : Int) := by
      rw [em, Int.tdiv_eq_ediv_of_nonneg (by omega)]
      omega
    have hmn : m < n := by omega
    have hmc : (m : Int) ≤ (cap : Int) := by omega
    have hmn2 : (m : Int) ≤ (n : Int) := by omega
    have hmne : m ≠ cap := by omega
    have LA : Hid (A.length = m) := la
    have LB : Hid (B.length = q) := lb
    clear hr hnil IH lm ld em en la lb hmrg E
    go_enter fS, Tryd.ntmps6
    go_wp2_with fail
    refine Calls.mono HI1.out ?_
    rintro e w1 ⟨v1, rfl, o1, k1⟩
    have K1 : Hid (Kept w w1) := k1
    have HI3 : Hid _ := HI2.out w1 k1
    obtain ⟨a1, c1, rfl, -, -, lo1⟩ := o1.shape
    have ra1 : At enc k w1 a1 A := o1.at EE.out
    rw [show A.length = m from LA.out]
    clear o1 k1 HI1 HI2
    go_wp2_with fail
    refine Calls.mono HI3.out ?_
    rintro e w2 ⟨v2, rfl, o2, k2⟩
    obtain ⟨a2, c2, rfl, -, -, lo2⟩ := o2.shape
    have ra2 : At enc k w2 a2 B := o2.at EE.out
    rw [show B.length = q from LB.out]
    obtain ⟨i0, hi0, hz0, hz1, hz2⟩ := info_parts i30
    obtain ⟨w3, hmk, hown, hgr⟩ := run_make_own (P := P) w2 w2.heap.size 22 25 i0 _ k t28 hi0 hz0 hz1 .i64 .i64 n (by rw [hz2]; have : bytes * n ≤ 120 * 1172812402961 := Nat.mul_le_mul hby hn; omega) (by unfold maxLen; omega) (Nat.le_refl _)
    have k3 : Kept w2 w3 := Same.of_grown hgr (fun k e => by cases e)
    have RA : Hid (∀ wr, Same (fun k => w2.heap.size ≤ k) w3 wr → At enc k wr a1 A) := fun wr kk => ((ra1.on k2).on k3).kept kk fun b o e hb => fun hge => by
      obtain ⟨g, e', -, hg⟩ := lo1 _ e
      cases e'
      have := k2.size
      omega
    have RB : Hid (∀ wr, Same (fun k => w2.heap.size ≤ k) w3 wr → At enc k wr a2 B) := fun wr kk => (ra2.on k3).kept kk fun b o e hb => fun hge => by
      obtain ⟨g, e', -, hg⟩ := lo2 _ e
      cases e'
      omega
    have KW : Hid (Kept w w3 ∧ w.heap.size ≤ w2.heap.size) := ⟨(Same.trans' K1.out k2).trans' k3, (Same.trans' K1.out k2).size⟩
    have HBS : Hid (w2.heap.size ≤ w3.heap.size) := k3.size
    have MG : Hid (Mg enc k w3 w2.heap.size A B (.slice (some ⟨w2.heap.size, 0, none⟩) 0 n) 0 0 w3) := ⟨⟨[], hown, rfl, rfl⟩, Nat.zero_le _, Nat.zero_le _, Same.refl _ _⟩
    clear o2 k2 k3 hown hgr ra1 ra2 lo1 lo2 HI3 hz0 hz1 hz2 hi0
    go_wp2_with fail
    generalize w2.heap.size = base at *
    clear hmk
    go_loopw [5, 6, 7] (fun u5 u6 u7 wr => ∃ i j : Nat, u6 = .int .i64 i ∧ u7 = .int .i64 j ∧ Mg enc k w3 base A B u5 i j wr) (fun _ u6 u7 _ => n - (intOf u6).toNat - (intOf u7).toNat)
    case atStart => exact ⟨0, 0, rfl, rfl, MG.out⟩
    case round =>
      clear MG
      obtain ⟨i, j, rfl, rfl, mg⟩ := hrel
      obtain ⟨O, hO, hOl, hOe⟩ := mg.own
      have hil := mg.il
      have hjl := mg.jl
      rw [LA.out] at hil
      rw [LB.out] at hjl
      have i1 : (i : Int) ≤ 1172812402961 := by omega
      have j1 : (j : Int) ≤ 1172812402961 := by omega
      have hbnd : (O.length + 1 + (O.length + 1) / 4 + 192) * bytes ≤ 281474976710656 := by
        have : (O.length + 1 + (O.length + 1) / 4 + 192) * bytes ≤ 2000000000000 * 120 := Nat.mul_le_mul (by omega) hby
        omega
      by_cases hi : i < m
      · have p1 : decide ((i : Int) < (m : Int)) = true := decide_eq_true (by omega)
        have p1' : (i : Int) < (m : Int) := by omega
        have p1n : decide (i < m) = true := decide_eq_true (by omega)
        obtain ⟨x, hx⟩ : ∃ x, A[i]? = some x := ⟨_, List.getElem?_eq_getElem (by rw [LA.out]; exact hi)⟩
        obtain ⟨gx, ox, ex, hgx, -⟩ := RA.out wr mg.same i x hx
        subst ex
        have rax := RA.out wr mg.same
        have HAX : Hid (∀ (W : World) (bb : Nat), Kept wr W → W.heap[bb]? = some (.cells (enc x).toArray 25 (0, 0)) → ∀ ty, ∃ v' w', (Builtin.append_ #[22, 22] ty #[u5, .slice (some ⟨bb, 0, none⟩) 1 1]).run P W = .ok v' w' ∧ (Own enc k 25 base w' v' (O ++ [x]) ∧ Same (fun k => u5.ownBlock = some k) W w' ∧ ∀ k, v'.ownBlock = some k → u5.ownBlock = some k ∨ W.heap.size ≤ k)) := fun W bb kk hc ty =>
          Own.app (ys := [x]) EE.out t28 i30 hzs (hO.on kk) (vrow_p hc) (by simp) hbnd (by show O.length + 1 ≤ _; unfold maxLen; omega) (Nat.le_trans HBS.out (Nat.le_trans mg.same.size kk.size))
        have HMX : Hid ((B.length ≤ j ∨ ∃ y, B[j]? = some y ∧ ltV y x = false) → ∀ (W w5 : World) (v5 : Value), Kept wr W → Own enc k 25 base w5 v5 (O ++ [x]) → Same (fun k => u5.ownBlock = some k) W w5 → Mg enc k w3 base A B v5 (i + 1) j w5) := fun hw W w5 v5 kk o5 k5 => mg.more hO hOl hOe kk o5 k5 (mrg_takeA hx hw) (by omega) (by rw [LA.out]; omega) mg.jl
        have LXg := rax.loadg EE.out hx P
        have HLX : Hid (∀ W, Kept wr W → Sem.run P (loadCellsFrom ⟨gx, ox + i * k, none⟩ 0 k #[]) W = .ok (enc x).toArray W) := fun W kk => (rax.on kk).load0 EE.out hx P
        have hfx := fun (A : Array Value) (h : A.size = k) => fold_all (enc x) A (h.trans (EE.out.len x).symm)
        have hkx : (enc x).length = k := EE.out.len x
        by_cases hj : j < q
        · have p2 : decide ((j : Int) < (q : Int)) = true := decide_eq_true (by omega)
          have p2' : (j : Int) < (q : Int) := by omega
          have p3 : decide ((q : Int) ≤ (j : Int)) = false := decide_eq_false (by omega)
          have p3' : ¬ (q : Int) ≤ (j : Int) := by omega
          have p3n : decide (q ≤ j) = false := decide_eq_false (by omega)
          have p3m : ¬ q ≤ j := by omega
          obtain ⟨y, hy⟩ : ∃ y, B[j]? = some y := ⟨_, List.getElem?_eq_getElem (by rw [LB.out]; exact hj)⟩
          obtain ⟨gy, oy, ey, hgy, -⟩ := RB.out wr mg.same j y hy
          subst ey
          have ray := RB.out wr mg.same
          have HAY : Hid (∀ (W : World) (bb : Nat), Kept wr W → W.heap[bb]? = some (.cells (enc y).toArray 25 (0, 0)) → ∀ ty, ∃ v' w', (Builtin.append_ #[22, 22] ty #[u5, .slice (some ⟨bb, 0, none⟩) 1 1]).run P W = .ok v' w' ∧ (Own enc k 25 base w' v' (O ++ [y]) ∧ Same (fun k => u5.ownBlock = some k) W w' ∧ ∀ k, v'.ownBlock = some k → u5.ownBlock = some k ∨ W.heap.size ≤ k)) := fun W bb kk hc ty =>
            Own.app (ys := [y]) EE.out t28 i30 hzs (hO.on kk) (vrow_p hc) (by simp) hbnd (by show O.length + 1 ≤ _; unfold maxLen; omega) (Nat.le_trans HBS.out (Nat.le_trans mg.same.size kk.size))
          have HMY : Hid ((A.length ≤ i ∨ ∃ x, A[i]? = some x ∧ ltV y x = true) → ∀ (W w5 : World) (v5 : Value), Kept wr W → Own enc k 25 base w5 v5 (O ++ [y]) → Same (fun k => u5.ownBlock = some k) W w5 → Mg enc k w3 base A B v5 i (j + 1) w5) := fun hw W w5 v5 kk o5 k5 => mg.more hO hOl hOe kk o5 k5 (mrg_takeB hy hw) (by omega) mg.il (by rw [LB.out]; omega)
          have HMX2 : Hid (ltV y x = false → _) := fun e => HMX.out (.inr ⟨y, hy, e⟩)
          have HMY2 : Hid (ltV y x = true → _) := fun e => HMY.out (.inr ⟨x, hx, e⟩)
          have LYg := ray.loadg EE.out hy P
          have HLY : Hid (∀ W, Kept wr W → Sem.run P (loadCellsFrom ⟨gy, oy + j * k, none⟩ 0 k #[]) W = .ok (enc y).toArray W) := fun W kk => (ray.on kk).load0 EE.out hy P
          have hfy := fun (A : Array Value) (h : A.size = k) => fold_all (enc y) A (h.trans (EE.out.len y).symm)
          have hky : (enc y).length = k := EE.out.len y
          have hcc := fun W => HBF.out y x W
          generalize ltV y x = bb at hcc HMX2 HMY2
          obtain ⟨cx, ecx⟩ : ∃ c, c = enc x := ⟨_, rfl⟩
          obtain ⟨cy, ecy⟩ : ∃ c, c = enc y := ⟨_, rfl⟩
          rw [← ecx] at LXg HLX hfx hkx hcc HAX
          rw [← ecy] at LYg HLY hfy hky hcc HAY
          clear ecx ecy hx hy mg hO hOe HMX HMY rax ray hbnd
          go_wp2_with fail
          go_quiet_grown (first | (go_at_fn 10; refine Calls.grown_of (hcc _)))
          clear LXg LYg hcc
          have G : Hid (Kept wr (Sort.grow (wr.drewN nq) osq)) := Grw.kept ⟨nq, osq, rfl⟩
          generalize Sort.grow (wr.drewN nq) osq = wc at G ⊢
          cases bb with
          | false =>
            have HMX : Hid _ := HMX2.out rfl
            have lx := HLX.out wc G.out
            clear HMX2 HMY2 HAY HLX HLY
            go_wp2_with (at_builtin; refine wpList_app rfl (.tmp 61) (.tmp 66) 22 rfl u5 (.slice (some ⟨_, 0, none⟩) 1 1) rfl rfl _ (HAX.out _ _ (by (repeat (first | exact G.out | apply Same.alloc)); done) (by exact heap_new _ _)) ?_; rintro v5 w5 ⟨o5, k5, -⟩; have R : Hid _ := HMX.out _ _ _ (by (repeat (first | exact G.out | apply Same.alloc)); done) o5 k5; clear o5 k5)
            go_roundw
            case rel => exact ⟨i + 1, j, by rw [Int.natCast_add]; rfl, rfl, R.out⟩
            case measure => simp only [intOf]; omega
          | true =>
            have HMY : Hid _ := HMY2.out rfl
            have ly := HLY.out wc G.out
            clear HMX2 HMY2 HAX HLX HLY
            go_wp2_with (at_builtin; refine wpList_app rfl (.tmp 70) (.tmp 75) 22 rfl u5 (.slice (some ⟨_, 0, none⟩) 1 1) rfl rfl _ (HAY.out _ _ (by (repeat (first | exact G.out | apply Same.alloc)); done) (by exact heap_new _ _)) ?_; rintro v5 w5 ⟨o5, k5, -⟩; have R : Hid _ := HMY.out _ _ _ (by (repeat (first | exact G.out | apply Same.alloc)); done) o5 k5; clear o5 k5)
            go_roundw
            case rel => exact ⟨i, j + 1, rfl, by rw [Int.natCast_add]; rfl, R.out⟩
            case measure => simp only [intOf]; omega
        · have p3 : decide ((q : Int) ≤ (j : Int)) = true := decide_eq_true (by omega)
          have p3' : (q : Int) ≤ (j : Int) := by omega
          have p3n : decide (q ≤ j) = true := decide_eq_true (by omega)
          have p3m : q ≤ j := by omega
          have HMX2 : Hid _ := HMX.out (.inl (by rw [LB.out]; omega))
          have HMX : Hid _ := HMX2.out
          have G : Hid (Kept wr wr.drew) := (Same.refl _ wr).drew
          have lx := HLX.out wr.drew G.out
          obtain ⟨cx, ecx⟩ : ∃ c, c = enc x := ⟨_, rfl⟩
          rw [← ecx] at lx hfx hkx HAX
          clear HMX2 HLX LXg ecx hx mg hO hOe rax hbnd
          go_wp2_with fail
          go_big_region_o
          all_goals
            go_wp2_with (at_builtin; refine wpList_app rfl (.tmp 61) (.tmp 66) 22 rfl u5 (.slice (some ⟨_, 0, none⟩) 1 1) rfl rfl _ (HAX.out _ _ (by (repeat (first | exact G.out | exact Same.refl _ _ | apply Same.alloc | apply Same.drew)); done) (by exact heap_new _ _)) ?_; rintro v5 w5 ⟨o5, k5, -⟩; have R : Hid _ := HMX.out _ _ _ (by (repeat (first | exact G.out | exact Same.refl _ _ | apply Same.alloc | apply Same.drew)); done) o5 k5; clear o5 k5)
            go_roundw
            case rel => exact ⟨i + 1, j, by rw [Int.natCast_add]; rfl, rfl, R.out⟩
            case measure => simp only [intOf]; omega
      · have p1 : decide ((i : Int) < (m : Int)) = false := decide_eq_false (by omega)
        have p1' : ¬ (i : Int) < (m : Int) := by omega
        have p1n : decide (i < m) = false := decide_eq_false (by omega)
        by_cases hj : j < q
        · have p2 : decide ((j : Int) < (q : Int)) = true := decide_eq_true (by omega)
          have p2' : (j : Int) < (q : Int) := by omega
          have p3 : decide ((q : Int) ≤ (j : Int)) = false := decide_eq_false (by omega)
          have p3' : ¬ (q : Int) ≤ (j : Int) := by omega
          have p3n : decide (q ≤ j) = false := decide_eq_false (by omega)
          have p3m : ¬ q ≤ j := by omega
          obtain ⟨y, hy⟩ : ∃ y, B[j]? = some y := ⟨_, List.getElem?_eq_getElem (by rw [LB.out]; exact hj)⟩
          obtain ⟨gy, oy, ey, hgy, -⟩ := RB.out wr mg.same j y hy
          subst ey
          have ray := RB.out wr mg.same
          have HAY : Hid (∀ (W : World) (bb : Nat), Kept wr W → W.heap[bb]? = some (.cells (enc y).toArray 25 (0, 0)) → ∀ ty, ∃ v' w', (Builtin.append_ #[22, 22] ty #[u5, .slice (some ⟨bb, 0, none⟩) 1 1]).run P W = .ok v' w' ∧ (Own enc k 25 base w' v' (O ++ [y]) ∧ Same (fun k => u5.ownBlock = some k) W w' ∧ ∀ k, v'.ownBlock = some k → u5.ownBlock = some k ∨ W.heap.size ≤ k)) := fun W bb kk hc ty =>
            Own.app (ys := [y]) EE.out t28 i30 hzs (hO.on kk) (vrow_p hc) (by simp) hbnd (by show O.length + 1 ≤ _; unfold maxLen; omega) (Nat.le_trans HBS.out (Nat.le_trans mg.same.size kk.size))
          have HMY : Hid (∀ (W w5 : World) (v5 : Value), Kept wr W → Own enc k 25 base w5 v5 (O ++ [y]) → Same (fun k => u5.ownBlock = some k) W w5 → Mg enc k w3 base A B v5 i (j + 1) w5) := fun W w5 v5 kk o5 k5 => mg.more hO hOl hOe kk o5 k5 (mrg_takeB hy (.inl (by rw [LA.out]; omega))) (by omega) mg.il (by rw [LB.out]; omega)
          have G : Hid (Kept wr wr.drew) := (Same.refl _ wr).drew
          have ly := (ray.on G.out).load0 EE.out hy P
          have hfy := fun (A : Array Value) (h : A.size = k) => fold_all (enc y) A (h.trans (EE.out.len y).symm)
          have hky : (enc y).length = k := EE.out.len y
          obtain ⟨cy, ecy⟩ : ∃ c, c = enc y := ⟨_, rfl⟩
          rw [← ecy] at ly hfy hky HAY
          clear ecy hy mg hO hOe ray hbnd
          go_wp2_with fail
          go_big_region_o
          all_goals
            go_wp2_with (at_builtin; refine wpList_app rfl (.tmp 70) (.tmp 75) 22 rfl u5 (.slice (some ⟨_, 0, none⟩) 1 1) rfl rfl _ (HAY.out _ _ (by (repeat (first | exact G.out | exact Same.refl _ _ | apply Same.alloc | apply Same.drew)); done) (by exact heap_new _ _)) ?_; rintro v5 w5 ⟨o5, k5, -⟩; have R : Hid _ := HMY.out _ _ _ (by (repeat (first | exact G.out | exact Same.refl _ _ | apply Same.alloc | apply Same.drew)); done) o5 k5; clear o5 k5)
            go_roundw
            case rel => exact ⟨i, j + 1, rfl, by rw [Int.natCast_add]; rfl, R.out⟩
            case measure => simp only [intOf]; omega
        · have p2 : decide ((j : Int) < (q : Int)) = false := decide_eq_false (by omega)
          have p2' : ¬ (j : Int) < (q : Int) := by omega
          have hfin : O = mrg ltV A B := by
            rw [List.drop_eq_nil_of_le (by rw [LA.out]; omega), List.drop_eq_nil_of_le (by rw [LB.out]; omega), mrg_nil, List.append_nil] at hOe
            exact hOe
          rw [hfin] at hO
          have R : Hid (Own enc k 25 w.heap.size wr u5 (mrg ltV A B) ∧ Kept w wr) := ⟨hO.base KW.out.2, ((KW.out.1.to _).trans' mg.same).mono fun b hb e => by have := KW.out.2; omega⟩
          clear hO hOe hfin mg
          go_wp2_with fail
          go_ret
          exact ⟨_, rfl, R.out⟩
theorem sort_p {P : Program} {k : Nat} {enc : Vl → List Value} (AW : Aw P k enc) : ∀ (N : Nat) {w : World} {a : Option Addr} {cap : Nat} {l : List Vl}, l.length < N → At enc k w a l → l.length ≤ cap → (a = none → l.length = 0 ∧ cap = 0) → l.length ≤ 1172812402961 →
    Calls P 6 #[.slice a l.length cap] w fun e w' => ∃ v, e = .returned v ∧ Own enc k 25 w.heap.size w' v (srt ltV l) ∧ Kept w w' := by
  intro N
  induction N with
  | zero => intro w a cap l h; omega
  | succ N ih =>
    intro w a cap l h hr hc hnil hn
    exact sort_step AW hr hc hnil hn fun W a' cap' l' hl hr' hc' hnil' => ih (by omega) hr' hc' hnil' (by omega)

theorem aw18 : Aw Tryd.prog 12 vl1 :=
  ⟨by kernel_rfl, ekV, Tryd.func6, Tryd.call10, Tryd.call6, before18, Tryd.underlying0, Tryd.underlying3, Tryd.underlying4, Tryd.underlying22, Tryd.isAgg0, Tryd.isAgg3, Tryd.isAgg4, Tryd.isAgg22, Tryd.isAgg25, Tryd.sizeOf0, Tryd.sizeOf3, Tryd.sizeOf4, Tryd.sizeOf22, Tryd.sizeOf25, ⟨_, Tryd.zeroValue25⟩, by decide, _, 120, Tryd.infoViol, rfl, by decide⟩
theorem rsort18 {w : World} {a : Option Addr} {cap : Nat} {l : List Vl} (h : At vl1 12 w a l) (hc : l.length ≤ cap) (hnil : a = none → l.length = 0 ∧ cap = 0) (hn : l.length ≤ 1172812402961) :
    Calls Tryd.prog 6 #[.slice a l.length cap] w fun e w' => ∃ v, e = .returned v ∧ OwnV w.heap.size w' v (srt ltV l) ∧ Kept w w' := sort_p aw18 (l.length + 1) (by omega) h hc hnil hn
end Go.Proofs.YtfhaiklfbnfdlabDoor.Vi
