/- What is proved: hold keeps a violation if it is one of the first; in any program with these texts, the top lies in memory. -/
import Derived.Test.YtnfkjblhnpnaeaaVHp
namespace Go.Proofs.Ytnfkjblhnpnaeaa
open Go.RowKit

/-- What hold asks of a program. -/
structure Ac (P : Program) (k : Nat) (enc : Nb → List Value) : Prop where
  A : Ab P k enc
  fH : P.funcs[24]? = some Try.f24
  eR : ∀ (args : Array Value) (w : World), Sem.run P (callFunc 34 args) w = .ok (.enter 34 args) w
  eS : ∀ (args : Array Value) (w : World), Sem.run P (callFunc 35 args) w = .ok (.enter 35 args) w
  t24 : P.underlying 24 = Try.prog.underlying 24
  t52 : P.underlying 52 = Try.prog.underlying 52
  a24 : ∀ w, Sem.run P (isAgg 24) w = .ok false w
  a52 : ∀ w, Sem.run P (isAgg 52) w = .ok true w
  z24 : ∀ w, Sem.run P (Go.sizeOf 24) w = .ok 1 w
  z52 : ∀ w, Sem.run P (Go.sizeOf 52) w = .ok 3 w
  v55 : ∃ zs : Array Value, ∀ w, Sem.run P (zeroValue 55) w = .ok (.agg zs) w
  hk : k ≤ 16777216
  i55 : ∃ z bytes, (P.info? 55).map (fun i => (i.zero, i.size, i.bytes)) = some (some z, k, bytes) ∧ z.cells.size = k ∧ bytes ≤ 128
theorem fold_set (l : List Value) : ∀ (n : Nat) (A : Array Value), A.size = n + l.length → (l.zipIdx n).foldl (fun cs x => cs.setIfInBounds x.snd x.fst) A = (A.toList.take n ++ l).toArray := by
  induction l with
  | nil =>
    intro n A h
    simp only [List.zipIdx_nil, List.foldl_nil, List.append_nil]
    rw [List.take_of_length_le (by simp at h ⊢; omega)]
  | cons a l ih =>
    intro n A h
    simp only [List.length_cons] at h
    rw [List.zipIdx_cons, List.foldl_cons, ih (n + 1) _ (by simp; omega)]
    congr 1
    simp only [Array.toList_setIfInBounds]
    rw [List.take_add_one, List.take_set_of_le (Nat.le_refl _), List.getElem?_set]
    simp [show n < A.size by omega]
theorem fold_all (l : List Value) (A : Array Value) (h : A.size = l.length) : l.zipIdx.foldl (fun cs x => cs.setIfInBounds x.snd x.fst) A = l.toArray := by
  have := fold_set l 0 A (by omega)
  simpa using this
theorem Dn.start {L : List Nb} (h : Hp gtN L) (x : Nb) : Dn gtN (L.set 0 x) 0 := by
  refine ⟨fun j h1 h2 h3 => ?_, fun j h1 h2 h3 h4 => by omega⟩
  rw [List.length_set] at h2
  have := h j h1 h2
  rw [List.getD_eq_getElem?_getD, List.getD_eq_getElem?_getD] at this ⊢
  rw [List.getElem?_set_ne (by omega), List.getElem?_set_ne (by omega)]
  exact this
theorem box_load {enc : Nb → List Value} {k : Nat} (E : Ek enc k) {w : World} {g : Nat} {x : Nb} {ty : TypeId} (h : w.heap[g]? = some (.cells (enc x).toArray ty (0, 0))) (P : Program) (n : Nat) (os : Array Obj) :
    Sem.run P (loadCellsFrom ⟨g, 0, none⟩ 0 k #[]) (Sort.grow (w.drewN n) os) = .ok (enc x).toArray (Sort.grow (w.drewN n) os) := by
  refine run_loadCellsFrom_list P _ _ _ k (E.len x) fun c v hv => ?_
  rw [Addr.add_lit, Nat.zero_add]
  refine cell_grown (a := ⟨g, _, none⟩) (lt_of_heap h) ?_ n os
  rw [cell_of h]
  simpa using hv
theorem box_load1 {enc : Nb → List Value} {k : Nat} (E : Ek enc k) {w : World} {g : Nat} {x : Nb} {ty : TypeId} (h : w.heap[g]? = some (.cells (enc x).toArray ty (0, 0))) (P : Program) :
    Sem.run P (loadCellsFrom ⟨g, 0, none⟩ 0 k #[]) w.drew = .ok (enc x).toArray w.drew := by
  have := box_load E h P 1 #[]
  rwa [Sort.grow_empty] at this
abbrev tpO (lim tot : Nat) (v : Value) : Obj := .cells #[.int .i64 (lim : Int), .int .i64 (tot : Int), v] 52 (0, 0)
theorem row_at {enc : Nb → List Value} {k : Nat} (_ : Ek enc k) {w : World} {g : Nat} {x : Nb} {ty : TypeId} (h : w.heap[g]? = some (.cells (enc x).toArray ty (0, 0))) : At enc k w (some ⟨g, 0, none⟩) [x] := fun j y hy => by
  match j, hy with
  | 0, hy =>
    simp at hy
    subst hy
    refine ⟨g, 0, rfl, lt_of_heap h, fun c v hv => ?_⟩
    rw [cell_of h, Nat.zero_mul, Nat.add_zero, Nat.zero_add]
    simpa using hv
  | j + 1, hy => simp at hy
theorem own_ne {enc : Nb → List Value} {k base : Nat} {w : World} {v : Value} {L : List Nb} (h : Own enc k 55 base w v L) {tb : Nat} {cs : Array Value} {ty : TypeId} (ho : w.heap[tb]? = some (.cells cs ty (0, 0))) (hne : ty ≠ 55) : v.ownBlock ≠ some tb := fun e => by
  obtain ⟨-, cur, hc⟩ := h.block e
  rw [ho] at hc
  cases hc
  exact hne rfl
set_option maxRecDepth 100000 in
set_option maxHeartbeats 3200000 in
theorem hold_p {P : Program} {k : Nat} {enc : Nb → List Value} (AC : Ac P k enc) {base : Nat} {w : World} {tb lim : Nat} {v : Value} {vs : List Vl} {L : List Nb} (ob : w.heap[tb]? = some (tpO lim vs.length v)) (h : Own enc k 55 base w v L) (hd : Hd lim vs L) (hlim : lim ≤ 10000) (hbase : base ≤ w.heap.size) (x : Vl) :
    Calls P 24 #[.pointer (some ⟨tb, 0, none⟩), .agg (enc ⟨x, (vs.length : Int)⟩).toArray] w fun e w' => e = .returned (.tuple #[]) ∧ ∃ v' L', w'.heap[tb]? = some (tpO lim vs.length v') ∧ Own enc k 55 base w' v' L' ∧ Hd lim (vs ++ [x]) L' ∧ Same (fun b => b = tb ∨ v.ownBlock = some b) w w' ∧ ∀ b, v'.ownBlock = some b → v.ownBlock = some b ∨ w.heap.size ≤ b := by
  have AA : Hid (Ab P k enc) := AC.A
  obtain ⟨⟨mixed, E, fR, fS, fL, eC, eL, cmp, t0, t3, t4, t50, a0, a3, a4, a50, a55, z0, z3, z4, z50, z55⟩, fH, eR, eS, t24, t52, a24, a52, z24, z52, ⟨zs, v55⟩, hkm, zz, bytes, i55, hzs, hby⟩ := AC
  have u50 := run_underlying t50
  have u24 := run_underlying (t24.trans Try.underlying24)
  have u52 := run_underlying (t52.trans Try.underlying52)
  have EE : Hid (Ek enc k) := E
  have HC : Hid (∀ a b W, _) := cmp
  have HD : Hid (Hd lim vs L) := hd
  have hL : L.length ≤ 10000 := by have := hd.len; omega
  obtain ⟨nb, enb⟩ : ∃ nb : Nb, nb = ⟨x, (vs.length : Int)⟩ := ⟨_, rfl⟩
  rw [← enb]
  have hnbk : (enc nb).length = k := E.len nb
  have hk0 : ¬ k = 0 := by have := E.pos; omega
  have hkm' : ¬ 16777216 < k := by omega
  have hfold := fun (A : Array Value) (h : A.size = k) => fold_all (enc nb) A (h.trans hnbk.symm)
  have HHO : Hid (Own enc k 55 base w v L) := h
  have HOB : Hid (w.heap[tb]? = some (tpO lim vs.length v)) := ob
  have K0 : Hid (Kept w (w.alloc (.cells (enc nb).toArray 55))) := (Same.refl _ w).alloc _
  have HG : Hid ((w.alloc (.cells (enc nb).toArray 55)).heap[w.heap.size]? = some (.cells (enc nb).toArray 55 (0, 0))) := heap_new _ _
  have HNB : Hid (nb = ⟨x, (vs.length : Int)⟩) := enb
  obtain ⟨cn, ecn⟩ : ∃ cn, cn = enc nb := ⟨_, rfl⟩
  have ECN : Hid (cn = enc nb) := ecn
  rw [← ecn] at K0 HG hnbk hfold ⊢
  have hgx : w.heap.size ≤ w.heap.size := Nat.le_refl _
  clear E cmp fL fR fS eL enb ecn hd
  go_enter fH, Try.ntmps24
  go_upto_region 1 with fail
  generalize hW : w.alloc (.cells cn.toArray 55) = W at *
  clear hW
  obtain ⟨gx, egx⟩ : ∃ gx, gx = w.heap.size := ⟨_, rfl⟩
  rw [← egx] at HG ⊢
  have EGX : Hid (gx = w.heap.size) := egx
  clear egx
  have obW : W.heap[tb]? = some (tpO lim vs.length v) := (K0.out.block tb (lt_of_heap ob) (fun e => e)).trans ob
  have htb := lt_of_heap obW
  have HOW : Hid (W.heap[tb]? = some (tpO lim vs.length v)) := obW
  have hoW := h.on K0.out
  obtain ⟨av, cv, ev, hcv, hav, hav2⟩ := h.shape
  have EV : Hid (v = .slice av L.length cv) := ev
  subst ev
  have c0 : W.cell? ⟨tb, 0, none⟩ = some (.int .i64 (lim : Int)) := (cell_of obW 0).trans rfl
  have c2 : W.cell? ⟨tb, 2, none⟩ = some (.slice av L.length cv) := (cell_of obW 2).trans rfl
  have HOO : Hid (Own enc k 55 base W (.slice av L.length cv) L) := hoW
  have egxl : gx < W.heap.size := lt_of_heap HG.out
  clear ob h hoW obW
  generalize hLn : L.length = ln at *
  have LN : Hid (L.length = ln) := hLn
  by_cases hroom : ln < lim
  · have d1 : decide ((ln : Int) < (lim : Int)) = true := decide_eq_true (by omega)
    have d1' : (ln : Int) < (lim : Int) := by omega
    go_big_region_o
    all_goals (go_wp2_with fail)
    have KZ : Hid (Kept w W.drew) := K0.out.drew
    have HGZ : Hid (W.drew.heap[gx]? = some (.cells cn.toArray 55 (0, 0))) := HG.out
    have HOZ : Hid (Own enc k 55 base W.drew (.slice av ln cv) L) := HOO.out.on ((Same.refl _ W).drew)
    have HBZ : Hid (W.drew.heap[tb]? = some (tpO lim vs.length (.slice av ln cv))) := HOW.out
    clear c0 c2 HG HOW HOO K0 htb egxl
    generalize W.drew = Z at KZ HGZ HOZ HBZ ⊢
    have htz : tb < Z.heap.size := lt_of_heap HBZ.out
    have egxl : gx < Z.heap.size := lt_of_heap HGZ.out
    have c0 : Z.cell? ⟨tb, 0, none⟩ = some (.int .i64 (lim : Int)) := (cell_of HBZ.out 0).trans rfl
    have c2 : Z.cell? ⟨tb, 2, none⟩ = some (.slice av ln cv) := (cell_of HBZ.out 2).trans rfl
    have lb := box_load1 EE.out (by rw [← ECN.out]; exact HGZ.out) P
    rw [← show cn = _ from ECN.out] at lb
    have HAP : Hid (∀ W', Kept Z W' → ∀ g', W'.heap[g']? = some (.cells cn.toArray 55 (0, 0)) → ∀ ty, ∃ v' w', (Builtin.append_ #[50, 50] ty #[.slice av ln cv, .slice (some ⟨g', 0, none⟩) 1 1]).run P W' = .ok v' w' ∧ (Own enc k 55 base w' v' (L ++ [nb]) ∧ Same (fun b => (Value.slice av ln cv).ownBlock = some b) W' w' ∧ ∀ b, v'.ownBlock = some b → (Value.slice av ln cv).ownBlock = some b ∨ W'.heap.size ≤ b)) := fun W' k' g' hg' ty =>
      Own.app (k := k) (ys := [nb]) EE.out t50 i55 hzs (HOZ.out.on k') (row_at EE.out (by rw [← ECN.out]; exact hg')) (by simp) (by have h1 := LN.out; have : (L.length + 1 + (L.length + 1) / 4 + 192) * bytes ≤ 13000 * 128 := Nat.mul_le_mul (by omega) hby; show (L.length + 1 + (L.length + 1) / 4 + 192) * bytes ≤ _; omega) (by have h1 := LN.out; show L.length + 1 ≤ _; unfold maxLen; omega) (Nat.le_trans hbase (Nat.le_trans (Same.size KZ.out) k'.size))
    have HFI : Hid (∀ W' w4 v4, Kept Z W' → Own enc k 55 base w4 v4 (L ++ [nb]) → Same (fun b => (Value.slice av ln cv).ownBlock = some b) W' w4 → (∀ b, v4.ownBlock = some b → (Value.slice av ln cv).ownBlock = some b ∨ W'.heap.size ≤ b) → (w4.cell? ⟨tb, 2, none⟩ = some (.slice av ln cv) ∧ w4.frozen? ⟨tb, 2, none⟩ = false ∧ tb < w4.heap.size ∧ ∃ g4 c4, v4 = .slice (some ⟨g4, 0, none⟩) (ln + 1) c4) ∧ (w4.setCell ⟨tb, 2, none⟩ v4).heap[tb]? = some (tpO lim vs.length v4) ∧ Own enc k 55 base (w4.setCell ⟨tb, 2, none⟩ v4) v4 (L ++ [nb]) ∧ Same (fun b => b = tb ∨ (Value.slice av ln cv).ownBlock = some b) w (w4.setCell ⟨tb, 2, none⟩ v4) ∧ ∀ b, v4.ownBlock = some b → (Value.slice av ln cv).ownBlock = some b ∨ w.heap.size ≤ b) := fun W' w4 v4 k' o4 s4 l4 => by
      have obW' := (k'.block tb htz (fun e => e)).trans HBZ.out
      have hne := own_ne (HOZ.out.on k') obW' (by decide)
      have ob4 := (s4.block tb (lt_of_heap obW') hne).trans obW'
      have hs : Same (fun b => b = tb) w4 (w4.setCell ⟨tb, 2, none⟩ v4) := (Same.refl (fun b => b = tb) w4).setCell ⟨tb, 2, none⟩ (.inr rfl) v4
      have hne4 := own_ne o4 ob4 (by decide)
      obtain ⟨a4, c4, e4, -, -, h5⟩ := o4.shape
      refine ⟨⟨(cell_of ob4 2).trans rfl, frozen_of ob4 2, lt_of_heap ob4, ?_⟩, (setCell_at ob4 2 v4).trans rfl, o4.kept hs (fun b hb e => hne4 (by rw [hb, e])), ?_, fun b hb => (l4 b hb).imp id fun e => Nat.le_trans (Nat.le_trans (Same.size KZ.out) k'.size) e⟩
      · rw [List.length_append, show L.length = ln from LN.out] at e4
        cases a4 with
        | none =>
          rcases o4.2 with ⟨-, h6⟩ | ⟨g4, cp4, cur4, e6, -⟩
          · simp at h6
          · rw [e4] at e6
            cases e6
        | some ad =>
          obtain ⟨g4, rfl, -, -⟩ := h5 ad rfl
          exact ⟨g4, c4, e4⟩
      · exact (((Kept.to (KZ.out.trans' k') _).trans' (s4.mono fun b _ hb => .inr hb)).trans' (hs.mono fun b _ hb => .inl hb))
    have HR : Hid (∀ W2 g4 c4, Own enc k 55 base W2 (.slice (some ⟨g4, 0, none⟩) (ln + 1) c4) (L ++ [nb]) → _) := fun W2 g4 c4 o4 => rise_p AA.out o4 (by omega) (by rw [Nat.add_sub_cancel, ← LN.out]; exact Up.start HD.out.hp nb) (by
      obtain ⟨R, hR, -⟩ := HD.out.rest
      have h7 := HD.out.room (by rw [LN.out]; exact hroom) x (L' := srt gtN (L ++ [nb])) (fun j h1 h2 => by
        have := List.pairwise_iff_getElem.1 (srt_pw gtN_swo (L ++ [nb])) ((j - 1) / 2) j (by omega) h2 (by omega)
        rwa [getD_at h2, getD_at (by omega)]) (by rw [← HNB.out]; exact srt_perm _ _)
      exact h7.dis.perm (srt_perm _ _))
    go_region_law_o ((refine step_app rfl (.tmp 19) (.tmp 21) 50 rfl _ (.slice (some ⟨Z.heap.size, 0, none⟩) 1 1) rfl rfl _ (HAP.out _ (by (repeat (first | assumption | exact Same.refl _ _ | apply Same.alloc | apply Same.drew | apply Same.drewN)); done) _ (by exact heap_new _ _)) ?_); rintro v4 w4 ⟨o4, s4, l4⟩; obtain ⟨⟨c40, f40, b40, g4, cp4, rfl⟩, ip⟩ := HFI.out _ w4 v4 (by (repeat (first | assumption | exact Same.refl _ _ | apply Same.alloc | apply Same.drew | apply Same.drewN)); done) o4 s4 l4; have IP : Hid _ := ip; clear o4 s4 l4 ip)
    all_goals
      obtain ⟨p1, p2, p3, p4⟩ := IP.out
      have HRR : Hid _ := HR.out _ _ _ p2
      clear p1 p2 p3 p4 HAP HFI HR lb hfold
      go_wp2_with fail
      refine Calls.mono HRR.out ?_
      rintro r w5 ⟨rfl, L', o5, hp5, pm5, k5⟩
      have R5 : Hid (Own enc k 55 base w5 (.slice (some ⟨g4, 0, none⟩) (ln + 1) cp4) L' ∧ Hp gtN L' ∧ L'.Perm (L ++ [nb]) ∧ Same (fun b => b = g4) _ w5) := ⟨o5, hp5, pm5, k5⟩
      clear o5 hp5 pm5 k5 HRR
      go_wp2_with fail
      go_end0
      obtain ⟨p1, p2, p3, p4⟩ := IP.out
      obtain ⟨o5, hp5, pm5, k5⟩ := R5.out
      have hne := own_ne p2 p1 (by decide)
      rw [show L.length = ln from LN.out]
      refine ⟨rfl, _, L', (k5.block tb (lt_of_heap p1) (fun e => hne (by rw [e]; rfl))).trans p1, o5, HD.out.room (by rw [LN.out]; exact hroom) x hp5 (by rw [← HNB.out]; exact pm5), ?_, p4⟩
      refine p3.trans k5 fun b hb e => ?_
      subst e
      rcases p4 b rfl with h6 | h6
      · exact .inr h6
      · omega
  · have d1 : decide ((ln : Int) < (lim : Int)) = false := decide_eq_false (by omega)
    have d1' : ¬ (ln : Int) < (lim : Int) := by omega
    go_big_region_o
    all_goals (go_wp2_with fail)
    have KZ : Hid (Kept w W.drew) := K0.out.drew
    have HGZ : Hid (W.drew.heap[gx]? = some (.cells cn.toArray 55 (0, 0))) := HG.out
    have HOZ : Hid (Own enc k 55 base W.drew (.slice av ln cv) L) := HOO.out.on ((Same.refl _ W).drew)
    have HBZ : Hid (W.drew.heap[tb]? = some (tpO lim vs.length (.slice av ln cv))) := HOW.out
    clear c0 c2 HG HOW HOO K0 htb egxl hfold d1 d1'
    generalize W.drew = Z at KZ HGZ HOZ HBZ ⊢
    have htz : tb < Z.heap.size := lt_of_heap HBZ.out
    have egxl : gx < Z.heap.size := lt_of_heap HGZ.out
    by_cases h0 : 0 < lim
    · have d2 : decide ((lim : Int) > 0) = true := decide_eq_true (by omega)
      have d2' : (0 : Int) < (lim : Int) := by omega
      have hln0 : ln = lim := by have := HD.out.len; have e := LN.out; omega
      obtain ⟨g, rfl⟩ : ∃ g, av = some ⟨g, 0, none⟩ := by
        cases av with
        | none => have := (hav rfl).1; have e := LN.out; rw [this] at e; simp at e; omega
        | some ad => obtain ⟨g, rfl, -, -⟩ := hav2 ad rfl; exact ⟨g, rfl⟩
      obtain ⟨y, hy⟩ : ∃ y, L[0]? = some y := ⟨_, List.getElem?_eq_getElem (by have e := LN.out; omega)⟩
      have d3 : (0 : Int) < (ln : Int) := by omega
      have hlnp : 0 < ln := by omega
      clear hln0
      have lb := box_load EE.out (by rw [← ECN.out]; exact HGZ.out) P
      rw [← show cn = _ from ECN.out] at lb
      have ly := HOZ.out.loadg EE.out hy P
      rw [Nat.zero_mul] at ly
      have hcc := fun W => HC.out nb y W
      rw [← show cn = _ from ECN.out] at hcc
      have c0 : ∀ n os, (Sort.grow (Z.drewN n) os).cell? ⟨tb, 0, none⟩ = some (.int .i64 (lim : Int)) := cell_grown (a := ⟨tb, 0, none⟩) htz ((cell_of HBZ.out 0).trans rfl)
      have c2 : ∀ n os, (Sort.grow (Z.drewN n) os).cell? ⟨tb, 2, none⟩ = some (.slice (some ⟨g, 0, none⟩) ln cv) := cell_grown (a := ⟨tb, 2, none⟩) htz ((cell_of HBZ.out 2).trans rfl)
      have HY : Hid (L[0]? = some y) := hy
      have hlt : ltN nb y = decide (compN nb y < 0) := rfl
      have HLT : Hid (ltN nb y = decide (compN nb y < 0)) := hlt
      clear hlt hy hav hav2
      generalize compN nb y = cw at hcc HLT
      obtain ⟨cy, ecy⟩ : ∃ c, c = enc y := ⟨_, rfl⟩
      rw [← ecy] at ly hcc
      clear ecy
      by_cases hcw : cw < 0
      · have dc : decide (cw < 0) = true := decide_eq_true hcw
        go_quiet_grown (first | (go_at_fn 27; refine Calls.grown_of (hcc _)))
        clear lb ly hcc c0 c2
        have G : Hid (Grw Z (Sort.grow (Z.drewN nq) osq)) := ⟨nq, osq, rfl⟩
        generalize Sort.grow (Z.drewN nq) osq = Y at G ⊢
        have gk := G.out.kept
        have HOY : Hid (Own enc k 55 base Y (.slice (some ⟨g, 0, none⟩) ln cv) L) := HOZ.out.on gk
        have HBY : Hid (Y.heap[tb]? = some (tpO lim vs.length (.slice (some ⟨g, 0, none⟩) ln cv))) := (gk.block tb htz (fun e => e)).trans HBZ.out
        have HGY : Hid (Y.heap[gx]? = some (.cells cn.toArray 55 (0, 0))) := (gk.block gx egxl (fun e => e)).trans HGZ.out
        have KY : Hid (Kept w Y) := KZ.out.trans' gk
        have kd : Kept Y Y.drew := (Same.refl _ Y).drew
        have hln : 0 < L.length := by have e := LN.out; omega
        obtain ⟨s1, o1, k1⟩ := (HOY.out.on kd).put EE.out (i := 0) hln nb P
        rw [Nat.zero_mul, ← show cn = _ from ECN.out] at s1 o1 k1
        have HO1 : Hid (Own enc k 55 base _ _ (L.set 0 nb)) := o1
        have HK1 : Hid (Same (fun b => b = g) w _) := (Kept.to (KY.out.trans' kd) _).trans' k1
        have lb := box_load1 EE.out (by rw [← ECN.out]; exact HGY.out) P
        rw [← show cn = _ from ECN.out] at lb
        have HB1 : Hid ((Y.drew.setCells g 0 cn).heap[tb]? = some (tpO lim vs.length (.slice (some ⟨g, 0, none⟩) ln cv))) := (k1.block tb (lt_of_heap HBY.out) (fun e => own_ne HOY.out HBY.out (by decide) (by rw [e]; rfl))).trans HBY.out
        have c2 : Y.cell? ⟨tb, 2, none⟩ = some (.slice (some ⟨g, 0, none⟩) ln cv) := (cell_of HBY.out 2).trans rfl
        have hty := lt_of_heap HBY.out
        have c2' : (Y.drew.setCells g 0 cn).cell? ⟨tb, 2, none⟩ = some (.slice (some ⟨g, 0, none⟩) ln cv) := (cell_of HB1.out 2).trans rfl
        have HSK : Hid _ := sink_p AA.out o1 (by omega) (by omega) (Dn.start HD.out.hp nb)
        clear o1 k1 kd gk hln HGY KY HOZ HBZ HGZ KZ
        go_wp2_with fail
        go_big_region_o
        all_goals (go_wp2_with fail)
        refine Calls.mono HSK.out ?_
        rintro r w5 ⟨rfl, L', o5, hp5, pm5, k5⟩
        have R5 : Hid (Own enc k 55 base w5 (.slice (some ⟨g, 0, none⟩) ln cv) L' ∧ Hp gtN L' ∧ L'.Perm (L.set 0 nb) ∧ Same (fun b => b = g) _ w5) := ⟨o5, hp5, pm5, k5⟩
        clear o5 hp5 pm5 k5 HSK lb s1 c2 c2'
        go_wp2_with fail
        go_end0
        obtain ⟨o5, hp5, pm5, k5⟩ := R5.out
        have hne := own_ne HOY.out HBY.out (by decide)
        refine ⟨rfl, _, L', (k5.block tb (lt_of_heap HB1.out) (fun e => hne (by rw [e]; rfl))).trans HB1.out, o5, HD.out.swap (by rw [LN.out]; exact hroom) x (by have e := LN.out; omega) (by rw [← HNB.out, getD_of HY.out, HLT.out]; exact dc) hp5 (by rw [← HNB.out]; exact pm5), ?_, fun b hb => .inl hb⟩
        exact (HK1.out.trans' k5).mono fun b _ e => .inr (by rw [e]; rfl)
      · have dc : decide (cw < 0) = false := decide_eq_false hcw
        go_quiet_grown (first | (go_at_fn 27; refine Calls.grown_of (hcc _)))
        clear lb ly hcc c0 c2
        have G : Hid (Grw Z (Sort.grow (Z.drewN nq) osq)) := ⟨nq, osq, rfl⟩
        generalize Sort.grow (Z.drewN nq) osq = Y at G ⊢
        go_wp2_with fail
        go_end0
        have gk := G.out.kept
        exact ⟨rfl, _, (gk.block tb htz (fun e => e)).trans HBZ.out, L, HOZ.out.on gk, HD.out.keep (by rw [LN.out]; exact hroom) x (.inr (by rw [← HNB.out, getD_of HY.out, HLT.out]; exact dc)), Kept.to (KZ.out.trans' gk) _, fun b hb => .inl hb⟩
    · have d2 : decide ((lim : Int) > 0) = false := decide_eq_false (by omega)
      have d2' : ¬ (0 : Int) < (lim : Int) := by omega
      have c0 : Z.cell? ⟨tb, 0, none⟩ = some (.int .i64 (lim : Int)) := (cell_of HBZ.out 0).trans rfl
      go_big_region_o
      all_goals (go_wp2_with fail)
      go_end0
      have gk : Kept Z Z.drew := (Same.refl _ Z).drew
      exact ⟨rfl, _, (gk.block tb htz (fun e => e)).trans HBZ.out, L, HOZ.out.on gk, HD.out.keep (by rw [LN.out]; exact hroom) x (.inl (by omega)), Kept.to (KZ.out.trans' gk) _, fun b hb => .inl hb⟩
end Go.Proofs.Ytnfkjblhnpnaeaa
