/- What is proved: the document's Decode of a list of bytes that lies in memory; the bounds that a machine's memory sets. -/
import Derived.Test.YtmajfclkhjnahaaRRop
import Derived.Test.YtmajfclkhjnahaaRTxn
import Derived.Test.YtmajfclkhjnahaaRArg
namespace Go.Proofs.Ytmajfclkhjnahaa
open Go.RowKit

def mosts : List Nat := [1048575, 1048575, 1099511627776, 1099511627776, 1099511627776, 1099511627776, 1, 16]
def mkT (xs : List Nat) (os : List OpM) : TxM := ⟨xs.getD 0 0, xs.getD 1 0, xs.getD 2 0, xs.getD 3 0, xs.getD 4 0, xs.getD 5 0, xs.getD 6 0, os⟩
/-- What is still to be read, where the numbers xs have been. -/
def rest : List Nat → List Nat → Pg TxM
  | [], xs => (pgOs (xs.getD 7 0)).bind fun os => .ret (mkT xs os)
  | m :: ms, xs => .ask (.nm m) fun a => rest ms (xs ++ [a.1])
theorem rest_all : rest mosts [] = pgT := rfl
def ints (xs : List Nat) : List Value := xs.map fun x : Nat => Value.int .i64 (x : Int)
def fsA (xs : List Nat) : Array Value := (ints (xs ++ List.replicate (8 - xs.length) 0)).toArray
def mostA : Array Value := (ints mosts).toArray
/-- What stands while the document's Decode runs. -/
structure Dn (w wr : World) (oa : Option Addr) (c : Nat) (l : List Int) (q : Nat) (xs : List Nat) : Prop where
  kept : Kept w wr
  b0 : wr.heap[w.heap.size]? = some (.cells txz 37 (0, 0))
  rc : RC wr (w.heap.size + 1) oa c l q 0
  b2 : wr.heap[w.heap.size + 1 + 1]? = some (.cells mostA 76 (0, 0))
  b3 : wr.heap[w.heap.size + 1 + 1 + 1]? = some (.cells (fsA xs) 76 (0, 0))
  inb : ∀ k, InB oa l.length k → k < w.heap.size
section
variable {w wr : World} {oa : Option Addr} {c : Nat} {l : List Int} {q : Nat} {xs : List Nat}
theorem Dn.step (h : Dn w wr oa c l q xs) {w1 : World} {q' : Nat} (s : Same (fun k => k = w.heap.size + 1) wr w1) (u : RC w1 (w.heap.size + 1) oa c l q' 0) : Dn w w1 oa c l q' xs :=
  ⟨h.kept.trans s (fun i hi e => by omega), (s.block _ (lt_of_heap h.b0) (by omega)).trans h.b0, u, (s.block _ (lt_of_heap h.b2) (by omega)).trans h.b2, (s.block _ (lt_of_heap h.b3) (by omega)).trans h.b3, h.inb⟩
theorem Dn.by (h : Dn w wr oa c l q xs) {S : Nat → Prop} {w1 : World} (s : Same S wr w1) (hs : ∀ k, S k → w.heap.size + 1 + 1 + 1 < k) : Dn w w1 oa c l q xs := by
  have hs' : ∀ k, k ≤ w.heap.size + 1 + 1 + 1 → ¬ S k := fun k hk e => by have := hs k e; omega
  exact ⟨h.kept.trans s (fun i hi e => absurd e (hs' i (by omega))), (s.block _ (lt_of_heap h.b0) (hs' _ (by omega))).trans h.b0, h.rc.kept s (hs' _ (by omega)) (fun k hk => hs' k (by have := h.inb k hk; omega)), (s.block _ (lt_of_heap h.b2) (hs' _ (by omega))).trans h.b2, (s.block _ (lt_of_heap h.b3) (hs' _ (by omega))).trans h.b3, h.inb⟩
theorem fsA_set (xs : List Nat) (x : Nat) (h : xs.length < 8) : (fsA xs).setIfInBounds xs.length (.int .i64 (x : Int)) = fsA (xs ++ [x]) := by
  unfold fsA ints
  rw [List.setIfInBounds_toArray]
  congr 1
  rw [show 8 - xs.length = (8 - (xs.length + 1)) + 1 by omega, List.replicate_succ, List.map_append, List.map_cons, List.set_append_right _ _ (by simp), List.length_map, Nat.sub_self, List.set_cons_zero]
  simp
theorem Dn.put (h : Dn w wr oa c l q xs) (x : Nat) (hx : xs.length < 8) : Dn w (wr.setCell ⟨w.heap.size + 1 + 1 + 1, xs.length, none⟩ (.int .i64 (x : Int))) oa c l q (xs ++ [x]) := by
  have s : Same (fun k => k = w.heap.size + 1 + 1 + 1) wr (wr.setCell ⟨w.heap.size + 1 + 1 + 1, xs.length, none⟩ (.int .i64 (x : Int))) := Same.setCell (S := fun k => k = w.heap.size + 1 + 1 + 1) (Same.refl _ wr) _ (.inr rfl) _
  exact ⟨h.kept.trans s (fun i hi e => by omega), (s.block _ (lt_of_heap h.b0) (by omega)).trans h.b0, h.rc.kept s (by omega) (fun k hk => by have := h.inb k hk; omega), (s.block _ (lt_of_heap h.b2) (by omega)).trans h.b2, (setCell_at h.b3 _ _).trans (by rw [fsA_set _ _ hx]), h.inb⟩
theorem fsA_get (xs : List Nat) (j : Nat) (h : j < 8) (hx : xs.length ≤ 8) : (fsA xs)[j]? = some (.int .i64 (xs.getD j 0 : Int)) := by
  unfold fsA ints
  rw [List.getElem?_toArray, List.getElem?_map]
  by_cases hj : j < xs.length
  · rw [List.getElem?_append_left hj]
    simp [List.getD, List.getElem?_eq_getElem hj]
  · rw [List.getElem?_append_right (by omega), List.getElem?_replicate, if_pos (by omega)]
    simp [List.getD, List.getElem?_eq_none (by omega : xs.length ≤ j)]
theorem Dn.cells (h : Dn w wr oa c l q xs) (hx : xs.length ≤ 8) (j : Nat) (hj : j < 8) (m : Nat) (hm : mosts[j]? = some m) :
    wr.cell? ⟨w.heap.size + 1, 1, none⟩ = some (.int .i64 (q : Int)) ∧ wr.cell? ⟨w.heap.size + 1 + 1, j, none⟩ = some (.int .i64 (m : Int)) ∧ wr.cell? ⟨w.heap.size + 1 + 1 + 1, j, none⟩ = some (.int .i64 (xs.getD j 0 : Int)) ∧ wr.frozen? ⟨w.heap.size + 1 + 1 + 1, j, none⟩ = false := by
  obtain ⟨-, c1, -⟩ := h.rc.cells
  refine ⟨c1, (cell_of h.b2 j).trans ?_, (cell_of h.b3 j).trans (fsA_get xs j hj hx), frozen_of h.b3 j⟩
  unfold mostA ints
  rw [List.getElem?_toArray, List.getElem?_map, hm]
  rfl
end
theorem ops_cells {w : World} {ad : Addr} {l : List OpM} (hl : OpsAt w (some ad) l) (j : Nat) (u : Value) (hu : (opc l)[j]? = some u) : w.cell? (ad.add j) = some u := by
  have hj := (List.getElem?_eq_some_iff.1 hu).1
  rw [length_opc] at hj
  obtain ⟨o, ho⟩ : ∃ o, l[j / 4]? = some o := ⟨_, List.getElem?_eq_getElem (by omega)⟩
  obtain ⟨b', off', e, hb', c0, c1, c2, c3⟩ := hl _ _ ho
  cases e
  rw [Addr.add_lit]
  obtain ⟨g0, g1, g2, g3⟩ := opc_get ho
  have h4 : j % 4 = 0 ∨ j % 4 = 1 ∨ j % 4 = 2 ∨ j % 4 = 3 := by omega
  rcases h4 with h4 | h4 | h4 | h4
  · rw [show j = j / 4 * 4 by omega] at hu ⊢
    rw [g0] at hu
    cases hu
    simpa [Nat.add_assoc] using c0
  · rw [show j = j / 4 * 4 + 1 by omega] at hu ⊢
    rw [g1] at hu
    cases hu
    simpa [Nat.add_assoc] using c1
  · rw [show j = j / 4 * 4 + 2 by omega] at hu ⊢
    rw [g2] at hu
    cases hu
    simpa [Nat.add_assoc] using c2
  · rw [show j = j / 4 * 4 + 3 by omega] at hu ⊢
    rw [g3] at hu
    cases hu
    simpa [Nat.add_assoc] using c3
/-- One operation more behind a row of one's own. -/
theorem app_op_one {w : World} {base : Nat} {v : Value} {xs : List OpM} (o : OpM) (hown : OwnO base w v xs) (hb : xs.length ≤ 1000) (hbase : base ≤ w.heap.size) (ty : TypeId) :
    ∃ v' w', (Builtin.append_ #[35, 35] ty #[v, .slice (some ⟨w.heap.size, 0, none⟩) 1 1]).run Try.prog (w.alloc (.cells #[.int .i64 o.kind, .string o.key, .bool o.found, .string o.value] 60)) = .ok v' w' ∧ OwnO base w' v' (xs ++ [o]) ∧ Same (fun k => v.ownBlock = some k) w w' ∧ ∀ k, v'.ownBlock = some k → v.ownBlock = some k ∨ w.heap.size ≤ k := by
  obtain ⟨i0, hi0, hz0, hz1, hz2⟩ := info_parts Try.infoOp
  have k0 : Kept w (w.alloc (.cells #[.int .i64 o.kind, .string o.key, .bool o.found, .string o.value] 60 (0, 0))) := (Same.refl _ w).alloc _
  have ho := OwnO.on hown k0
  obtain ⟨v', w', hr, r1, r2, _, r3⟩ := run_append_own_at (P := Try.prog) (w := w.alloc (.cells #[.int .i64 o.kind, .string o.key, .bool o.found, .string o.value] 60)) base 35 ty 60 i0 _ 4 48 Try.underlying35 hi0 hz0 hz1 hz2 rfl (by decide) v xs.length _ ho ⟨w.heap.size, 0, none⟩ 1 1 (opc [o]) (length_opc [o])
    (fun j u hu => ops_cells (ops_new w o) j u hu) (opc_one _) (by unfold maxLen; omega) (by omega) (by simp [World.size_alloc]; omega)
  rw [← opc_append] at r1
  refine ⟨v', w', hr, by rw [OwnO, List.length_append]; exact r1, (Kept.to k0 _).trans' (Same.of_grown r2 (fun k e => e)), fun k hk => ?_⟩
  rcases r3 with e | e
  · exact .inl (e ▸ hk)
  · rw [e] at hk
    cases hk
    rw [World.size_alloc]
    exact .inr (by omega)
/-- What stands at the head of the loop over the operations. -/
structure Ln (w wr : World) (oa : Option Addr) (c : Nat) (l : List Int) (q : Nat) (xs : List Nat) (X : Nat) (ds : List OpM) (sa : Option Addr) (sc : Nat) : Prop where
  dn : Dn w wr oa c l q xs
  hX : w.heap.size + 1 + 1 + 1 < X
  bX : wr.heap[X]? = some (.cells #[.int .i64 (xs.getD 0 0 : Int), .int .i64 (xs.getD 1 0 : Int), .int .i64 (xs.getD 2 0 : Int), .int .i64 (xs.getD 3 0 : Int), .int .i64 (xs.getD 4 0 : Int), .int .i64 (xs.getD 5 0 : Int), .int .i64 (xs.getD 6 0 : Int), .slice sa ds.length sc] 37 (0, 0))
  own : OwnO (X + 1) wr (.slice sa ds.length sc) ds
  le : ds.length ≤ xs.getD 7 0
  eqn : run pgT l 0 = (match run (pgOs (xs.getD 7 0 - ds.length)) (l.drop q) q with | .error e => .error e | .ok (os, q') => .ok (mkT xs (ds ++ os), q'))
theorem Ln.stop {w wr : World} {oa : Option Addr} {c : Nat} {l : List Int} {q : Nat} {xs : List Nat} {X : Nat} {ds : List OpM} {sa : Option Addr} {sc : Nat} (h : Ln w wr oa c l q xs X ds sa sc) (hj : ds.length < xs.getD 7 0) {pz : Nat × Int} (hr : run pgO (l.drop q) q = .error pz) : decode l = .error pz := by
  have hm : xs.getD 7 0 - ds.length = (xs.getD 7 0 - (ds.length + 1)) + 1 := by omega
  have e := h.eqn
  rw [hm] at e
  simp only [pgOs] at e
  rw [run_bind, hr] at e
  exact decode_err e
theorem Ln.more {w wr : World} {oa : Option Addr} {c : Nat} {l : List Int} {q : Nat} {xs : List Nat} {X : Nat} {ds : List OpM} {sa : Option Addr} {sc : Nat} (h : Ln w wr oa c l q xs X ds sa sc) (hj : ds.length < xs.getD 7 0) {o : OpM} {q2 : Nat} (hr : run pgO (l.drop q) q = .ok (o, q2)) :
    run pgT l 0 = (match run (pgOs (xs.getD 7 0 - (ds ++ [o]).length)) (l.drop q2) q2 with | .error e => .error e | .ok (os, q') => .ok (mkT xs ((ds ++ [o]) ++ os), q')) := by
  have hm : xs.getD 7 0 - ds.length = (xs.getD 7 0 - (ds.length + 1)) + 1 := by omega
  have e := h.eqn
  rw [hm] at e
  simp only [pgOs] at e
  rw [run_bind, hr] at e
  simp only at e
  rw [run_bind] at e
  obtain ⟨r1, r2, -, -⟩ := run_ok (h.dn.rc.byts.drop q) hr
  rw [List.drop_drop, show q + (q2 - q) = q2 by omega] at e
  rw [e, List.length_append, List.length_singleton]
  cases run (pgOs (xs.getD 7 0 - (ds.length + 1))) (l.drop q2) q2 with
  | error e => rfl
  | ok x =>
    obtain ⟨os, q'⟩ := x
    simp [run]
theorem Ln.done {w wr : World} {oa : Option Addr} {c : Nat} {l : List Int} {q : Nat} {xs : List Nat} {X : Nat} {ds : List OpM} {sa : Option Addr} {sc : Nat} (h : Ln w wr oa c l q xs X ds sa sc) (hj : ds.length = xs.getD 7 0) : run pgT l 0 = .ok (mkT xs ds, q) := by
  have e := h.eqn
  rw [hj, Nat.sub_self] at e
  simpa [pgOs, run] using e
theorem loadVar_tx_drew {w : World} {b : Nat} {a0 a1 a2 a3 a4 a5 a6 : Int} {s : Option Addr} {n c : Nat} (h : w.heap[b]? = some (.cells #[.int .i64 a0, .int .i64 a1, .int .i64 a2, .int .i64 a3, .int .i64 a4, .int .i64 a5, .int .i64 a6, .slice s n c] 37 (0, 0))) :
    (loadVar 37 ⟨b, 0, none⟩).run Try.prog w.drew = .ok (.agg #[.int .i64 a0, .int .i64 a1, .int .i64 a2, .int .i64 a3, .int .i64 a4, .int .i64 a5, .int .i64 a6, .slice s n c]) w.drew := loadVar_tx (w := w.drew) h
set_option maxRecDepth 100000 in
set_option maxHeartbeats 2400000 in
theorem refDec_any (w : World) (oa : Option Addr) (c : Nat) (l : List Int) (h : ArgB w oa c l) : Calls Try.prog 34 #[.slice oa l.length c] w (DcP w l) := by
  have hle := h.le
  have hlen63 : (l.length : Int) ≤ 140737488355328 := by omega
  have HN : Hid (∀ W q (m : Nat), RC W (w.heap.size + 1) oa c l q 0 → Calls Try.prog 47 #[.pointer (some ⟨w.heap.size + 1, 0, none⟩), .int .i64 2, .int .i64 0, .int .i64 (m : Int)] W fun e w' => Same (fun k => k = w.heap.size + 1) W w' ∧ match rd (.nm m) (l.drop q) with | .error z => e = .returned (.tuple #[.int .i64 0, .slice none 0 0, .int .i64 z]) | .ok (x, n) => e = .returned (.tuple #[.int .i64 (x.1 : Int), .slice none 0 0, .int .i64 0]) ∧ RC w' (w.heap.size + 1) oa c l (q + n) 0) := fun W q m u => by
    refine Calls.mono (step_num u 0 (m : Int)) ?_
    rintro e w' ⟨rfl, u', s⟩
    rw [rNum_rd] at u' ⊢
    refine ⟨s, ?_⟩
    cases hr : rd (.nm m) (l.drop q) with
    | error z => rfl
    | ok x =>
      rw [hr] at u'
      exact ⟨rfl, u'⟩
  have HO : Hid (∀ W q, RC W (w.heap.size + 1) oa c l q 0 → _) := fun W q (u : RC W (w.heap.size + 1) oa c l q 0) => op_ref u
  have HBY : Hid (Byts l) := h.byts
  have D0 : Hid (Dn w ((((w.alloc (.cells txz 37 (0, 0))).alloc (rcurO oa l.length c 0 0)).alloc (.cells mostA 76 (0, 0))).alloc (.cells (fsA []) 76 (0, 0))) oa c l 0 []) := by
    have k : Kept w ((((w.alloc (.cells txz 37 (0, 0))).alloc (rcurO oa l.length c 0 0)).alloc (.cells mostA 76 (0, 0))).alloc (.cells (fsA []) 76 (0, 0))) := ((((Same.refl _ w).alloc _).alloc _).alloc _).alloc _
    obtain ⟨t1, t2, t3⟩ := three_new w (.cells txz 37 (0, 0)) (rcurO oa l.length c 0 0) (.cells mostA 76 (0, 0))
    have hin : ∀ k, InB oa l.length k → k < w.heap.size := fun k => h.data.lt
    refine ⟨k, (heap_old _ _ (lt_of_heap t1)).trans t1, ⟨(heap_old _ _ (lt_of_heap t2)).trans t2, h.data.kept k (fun _ _ h => h), h.cap, Nat.zero_le _, fun k hk => by have := hin k hk; omega, h.byts, by omega⟩, (heap_old _ _ (lt_of_heap t3)).trans t3, ?_, hin⟩
    have := heap_new (((w.alloc (.cells txz 37 (0, 0))).alloc (rcurO oa l.length c 0 0)).alloc (.cells mostA 76 (0, 0))) (.cells (fsA []) 76 (0, 0))
    simpa only [World.size_alloc] using this
  obtain ⟨L, eL⟩ : ∃ L, L = l.length := ⟨_, rfl⟩
  have EL : Hid _ := eL
  rw [← eL] at hlen63 ⊢
  clear h hle eL
  go_enter Try.func34, Try.ntmps34
  go_wp2_with fail
  go_loopw [8] (fun i wr => ∃ (xs : List Nat) (q : Nat), i = .int .i64 xs.length ∧ xs.length ≤ 8 ∧ Dn w wr oa c l q xs ∧ run pgT l 0 = run (rest (mosts.drop xs.length) xs) (l.drop q) q ∧ (xs.length = 8 → xs.getD 7 0 ≤ 16)) (fun i _ => 8 - (intOf i).toNat)
  case atStart => exact ⟨[], 0, rfl, by decide, (by rw [EL.out]; exact D0.out), (by rw [List.drop_zero]; rfl), fun h => absurd h (by decide)⟩
  case round =>
    obtain ⟨xs, q, rfl, hj, hdn, hrun, h16⟩ := hrel
    have HDN : Hid _ := hdn
    have HRUN : Hid _ := hrun
    clear D0 hdn hrun
    by_cases hlt : xs.length < 8
    · obtain ⟨m, hm⟩ : ∃ m, mosts[xs.length]? = some m := ⟨_, List.getElem?_eq_getElem (by exact hlt)⟩
      obtain ⟨k1, k2, k3, k4⟩ := HDN.out.cells hj xs.length hlt m hm
      have hxd : xs.getD xs.length 0 = 0 := by simp [List.getD]
      rw [hxd] at k3
      have hdr : mosts.drop xs.length = m :: mosts.drop (xs.length + 1) := by
        obtain ⟨hh, rfl⟩ := List.getElem?_eq_some_iff.1 hm
        exact List.drop_eq_getElem_cons hh
      rw [hdr] at HRUN
      obtain ⟨J, eJ⟩ : ∃ J, J = xs.length := ⟨_, rfl⟩
      have EJ : Hid _ := eJ
      rw [← eJ] at hj hlt k2 k3 k4 ⊢
      have d1 : decide ((J : Int) < 8) = true := decide_eq_true (by omega)
      have hlt2 : (J : Int) < 8 := by omega
      have HM : Hid _ := hm
      clear hm hxd hdr eJ h16
      go_wp2_with fail
      refine Calls.mono (HN.out _ _ m HDN.out.rc) ?_
      rintro e w1 ⟨s1, p1⟩
      rcases h1 : rd (.nm m) (l.drop q) with z | ⟨⟨x, y⟩, n⟩
      · rw [h1] at p1
        simp only at p1
        subst p1
        have hz := rd_nz h1
        have hz' : (z != 0) = true := by simpa using hz
        have g0 := (s1.block _ (lt_of_heap HDN.out.b0) (by omega)).trans HDN.out.b0
        obtain ⟨⟨m0, m1, m2, m3, m4, m5, m6, m7⟩, f0, f1, f2, f3, f4, f5, f6, f7⟩ := tx_obj g0
        have G0 : Hid _ := g0
        have KK : Hid (Kept w w1) := HDN.out.kept.trans s1 (fun i hi e => by omega)
        have HE : Hid _ := decode_err (HRUN.out.trans (run_ask_err h1))
        clear g0 s1 h1 hz k1 k2 k3 k4
        go_wp2_with fail
        refine bodyPost_ret (results_ctt (a := 2) (t := 37) (u := 3) (s := 4) rfl rfl (loadVar_tx (put8_at G0.out _ _ _ _ _ _ _ _))) rfl ?_
        unfold DcP
        rw [HE.out]
        exact ⟨KK.out.trans (put8_same _ _ _ _ _ _ _ _ _ _) (fun i hi e => by omega), rfl⟩
      rw [h1] at p1
      simp only at p1
      obtain ⟨rfl, u1⟩ := p1
      have dn1 := HDN.out.step s1 u1
      have g3 := dn1.b3
      have c3 : w1.cell? ⟨w.heap.size + 1 + 1 + 1, J, none⟩ = some (.int .i64 0) := by
        rw [EJ.out]
        refine (cell_of g3 _).trans ((fsA_get xs _ (by rw [← EJ.out]; exact hlt) (by rw [← EJ.out]; exact hj)).trans ?_)
        simp [List.getD]
      have f3 : w1.frozen? ⟨w.heap.size + 1 + 1 + 1, J, none⟩ = false := frozen_of g3 J
      have DP : Hid _ := dn1.put x (by rw [← EJ.out]; exact hlt)
      have HR2 : Hid _ := HRUN.out.trans (run_ask_ok h1)
      have HXM : Hid (x ≤ m) := (one_nm (HBY.out.drop q) h1).1
      rw [List.drop_drop] at HR2
      rw [← EJ.out] at DP HR2
      clear dn1 g3 s1 u1 h1 k1 k2 k3 k4
      go_wp2_with fail
      go_roundw
      case rel =>
        refine ⟨xs ++ [x], q + n, by rw [List.length_append, ← EJ.out]; rfl, by rw [List.length_append, ← EJ.out]; exact hlt, DP.out, ?_⟩
        refine ⟨by rw [List.length_append, ← EJ.out]; exact HR2.out, fun h8 => ?_⟩
        have h7 : xs.length = 7 := by simpa using h8
        have hm := HM.out
        rw [h7, show mosts[7]? = some 16 from rfl] at hm
        cases hm
        have : (xs ++ [x]).getD 7 0 = x := by
          rw [List.getD, List.getElem?_append_right (by omega), h7]
          rfl
        rw [this]
        exact HXM.out
      case measure => simp only [intOf]; omega
    · have e8 : xs.length = 8 := by omega
      have cs : ∀ j, j < 8 → wr.cell? ⟨w.heap.size + 1 + 1 + 1, j, none⟩ = some (.int .i64 (xs.getD j 0 : Int)) := fun j hj' => (cell_of HDN.out.b3 j).trans (fsA_get xs j hj' hj)
      have k0 := cs 0 (by decide)
      have k1 := cs 1 (by decide)
      have k2 := cs 2 (by decide)
      have k3 := cs 3 (by decide)
      have k4 := cs 4 (by decide)
      have k5 := cs 5 (by decide)
      have k6 := cs 6 (by decide)
      have k7 := cs 7 (by decide)
      have hb3 := lt_of_heap HDN.out.b3
      rw [e8, show ((8 : Nat) : Int) = 8 from rfl]
      have d1 : decide ((8 : Int) < 8) = false := rfl
      have LN : Hid (Ln w (wr.alloc (.cells #[.int .i64 (xs.getD 0 0 : Int), .int .i64 (xs.getD 1 0 : Int), .int .i64 (xs.getD 2 0 : Int), .int .i64 (xs.getD 3 0 : Int), .int .i64 (xs.getD 4 0 : Int), .int .i64 (xs.getD 5 0 : Int), .int .i64 (xs.getD 6 0 : Int), .slice none 0 0] 37 (0, 0))) oa c l q xs wr.heap.size [] none 0) := by
        refine ⟨HDN.out.by ((Same.refl (fun _ => False) _).alloc _) (fun _ h => h.elim), hb3, heap_new _ _, ⟨rfl, .inl ⟨rfl, rfl⟩⟩, Nat.zero_le _, ?_⟩
        have := HRUN.out
        rw [e8, show mosts.drop 8 = [] from rfl] at this
        simp only [rest] at this
        rw [run_bind] at this
        rw [this, List.length_nil, Nat.sub_zero]
        cases run (pgOs (xs.getD 7 0)) (l.drop q) q with
        | error e => rfl
        | ok x =>
          obtain ⟨os, q'⟩ := x
          rfl
      obtain ⟨y0, e0⟩ : ∃ y, y = xs.getD 0 0 := ⟨_, rfl⟩
      have E0 : Hid _ := e0
      obtain ⟨y1, e1⟩ : ∃ y, y = xs.getD 1 0 := ⟨_, rfl⟩
      have E1 : Hid _ := e1
      obtain ⟨y2, e2⟩ : ∃ y, y = xs.getD 2 0 := ⟨_, rfl⟩
      have E2 : Hid _ := e2
      obtain ⟨y3, e3⟩ : ∃ y, y = xs.getD 3 0 := ⟨_, rfl⟩
      have E3 : Hid _ := e3
      obtain ⟨y4, e4⟩ : ∃ y, y = xs.getD 4 0 := ⟨_, rfl⟩
      have E4 : Hid _ := e4
      obtain ⟨y5, e5⟩ : ∃ y, y = xs.getD 5 0 := ⟨_, rfl⟩
      have E5 : Hid _ := e5
      obtain ⟨y6, e6⟩ : ∃ y, y = xs.getD 6 0 := ⟨_, rfl⟩
      have E6 : Hid _ := e6
      obtain ⟨y7, e7⟩ : ∃ y, y = xs.getD 7 0 := ⟨_, rfl⟩
      have E7 : Hid _ := e7
      rw [← e0, ← e1, ← e2, ← e3, ← e4, ← e5, ← e6] at LN
      rw [← e0] at k0
      rw [← e1] at k1
      rw [← e2] at k2
      rw [← e3] at k3
      rw [← e4] at k4
      rw [← e5] at k5
      rw [← e6] at k6
      rw [← e7] at k7
      have hy7 : y7 ≤ 16 := by rw [e7]; exact h16 e8
      have LT : Hid (w.heap.size + 1 + 1 + 1 < wr.heap.size) := hb3
      clear e0 e1 e2 e3 e4 e5 e6 e7 cs h16 hlt hj
      go_wp2_with fail
      generalize eX : wr.heap.size = X at LN LT
      clear eX k0 k1 k2 k3 k4 k5 k6 k7 HDN HRUN hb3
      go_loopw [14] (fun i wq => ∃ (ds : List OpM) (q : Nat) (sa : Option Addr) (sc : Nat), i = .int .i64 ds.length ∧ Ln w wq oa c l q xs X ds sa sc) (fun i _ => y7 - (intOf i).toNat)
      case atStart => exact ⟨[], q, none, 0, rfl, LN.out⟩
      case round =>
        obtain ⟨ds, q', sa, sc, rfl, hln⟩ := hrel
        have HLN : Hid _ := hln
        have hX := hln.hX
        have hle7 := hln.le
        have k7 : wr.cell? ⟨w.heap.size + 1 + 1 + 1, 7, none⟩ = some (.int .i64 (y7 : Int)) := by rw [E7.out]; exact (cell_of hln.dn.b3 7).trans (fsA_get xs 7 (by decide) (by omega))
        have bX := hln.bX
        rw [← E0.out, ← E1.out, ← E2.out, ← E3.out, ← E4.out, ← E5.out, ← E6.out] at bX
        rw [← E7.out] at hle7
        have HRC : Hid _ := hln.dn.rc
        obtain ⟨J, eJ⟩ : ∃ J, J = ds.length := ⟨_, rfl⟩
        have EJ : Hid _ := eJ
        rw [← eJ] at bX hle7 ⊢
        have BX : Hid _ := bX
        clear LN hln eJ bX
        by_cases hlt : J < y7
        · have d2 : decide ((J : Int) < (y7 : Int)) = true := decide_eq_true (by omega)
          have hlt2 : (J : Int) < (y7 : Int) := by omega
          have hltE : ds.length < xs.getD 7 0 := by rw [← EJ.out, ← E7.out]; exact hlt
          have HLE : Hid _ := hltE
          clear hltE
          go_wp2_with fail
          refine Calls.mono (HO.out _ _ HRC.out) ?_
          rintro e w1 ⟨s1, p1⟩
          have g0 := (s1.block _ (lt_of_heap HLN.out.dn.b0) (by omega)).trans HLN.out.dn.b0
          have gX := (s1.block _ (lt_of_heap BX.out) (by omega)).trans BX.out
          have hltX := lt_of_heap gX
          have hlt0 := lt_of_heap g0
          have G0 : Hid _ := g0
          have GX : Hid _ := gX
          have KK : Hid (Kept w w1) := HLN.out.dn.kept.trans s1 (fun i hi e => by omega)
          rcases hr : run pgO (l.drop q') q' with pz | ⟨o, q2⟩
          · obtain ⟨p, z⟩ := pz
            rw [hr] at p1
            simp only at p1
            obtain ⟨ko, so, fo, vo, rfl⟩ := p1
            have hz : z ≠ 0 := by have := (run_err (HBY.out.drop q') hr).2.2.1; omega
            have hz' : (z != 0) = true := by simpa using hz
            have HE : Hid _ := HLN.out.stop HLE.out hr
            obtain ⟨⟨m0, m1, m2, m3, m4, m5, m6, m7⟩, f0, f1, f2, f3, f4, f5, f6, f7⟩ := tx_obj g0
            clear g0 gX s1 hr hz
            go_wp2_with fail
            have G1 := (heap_old (put8 w1 w.heap.size (.int .i64 0) (.int .i64 0) (.int .i64 0) (.int .i64 0) (.int .i64 0) (.int .i64 0) (.int .i64 0) (.slice none 0 0)) (.cells #[.int .i64 ko, .string so, .bool fo, .string vo] 60 (0, 0)) (lt_of_heap (put8_at G0.out _ _ _ _ _ _ _ _))).trans (put8_at G0.out _ _ _ _ _ _ _ _)
            refine bodyPost_ret (results_ctt (a := 2) (t := 37) (u := 3) (s := 4) rfl rfl (loadVar_tx G1)) rfl ?_
            unfold DcP
            rw [HE.out]
            exact ⟨(KK.out.trans (put8_same _ _ _ _ _ _ _ _ _ _) (fun i hi e => by omega)).alloc _, rfl⟩
          rw [hr] at p1
          simp only at p1
          obtain ⟨rfl, u1⟩ := p1
          obtain ⟨⟨-, -, -, -, -, -, -, m7⟩, -, -, -, -, -, -, -, f7⟩ := tx_obj gX
          have DN1 : Hid _ := HLN.out.dn.step s1 u1
          have OW1 : Hid (OwnO (X + 1) w1 (.slice sa J sc) ds) := by
            have := OwnO.kept HLN.out.own s1 (fun k hk e => by have := (OwnO.block HLN.out.own hk).1; omega)
            rw [← EJ.out] at this
            exact this
          have OW2 : Hid (OwnO (X + 1) (w1.alloc (.cells #[.int .i64 o.kind, .string o.key, .bool o.found, .string o.value] 60 (0, 0))) (.slice sa J sc) ds) := OwnO.on OW1.out ((Same.refl _ _).alloc _)
          have HAP : Hid (∀ ty, _) := fun ty => app_op_one (w := w1.alloc (.cells #[.int .i64 o.kind, .string o.key, .bool o.found, .string o.value] 60 (0, 0))) o OW2.out (by rw [← EJ.out]; omega) (by rw [World.size_alloc]; omega) ty
          rw [World.size_alloc] at HAP
          have HUX : Hid (¬ (Value.slice sa J sc).ownBlock = some X) := fun e => by have := (OwnO.block OW1.out e).1; omega
          have HMO : Hid _ := HLN.out.more HLE.out hr
          have GX2 : Hid _ := (heap_old w1 (.cells #[.int .i64 o.kind, .string o.key, .bool o.found, .string o.value] 60 (0, 0)) hltX).trans gX
          have HX5 : Hid (∀ w5, Same (fun k => (Value.slice sa J sc).ownBlock = some k) (w1.alloc (.cells #[.int .i64 o.kind, .string o.key, .bool o.found, .string o.value] 60 (0, 0))) w5 → w5.heap[X]? = _) := fun w5 s5 => (s5.block _ (lt_of_heap GX2.out) HUX.out).trans GX2.out
          clear g0 gX s1 u1 hr
          unfold opV
          go_wp2_with (at_builtin; refine wpList_app rfl (.tmp 80) (.tmp 82) 35 35 rfl _ _ rfl rfl _ HAP.out ?_; rintro v5 w5 ⟨o5, s5, n5⟩; have x5 := HX5.out w5 s5; obtain ⟨⟨-, -, -, -, -, -, -, t7⟩, -, -, -, -, -, -, -, y7'⟩ := tx_obj x5; obtain ⟨a5, c5, e5, -⟩ := OwnO.ops o5; subst e5; have X5 : Hid _ := x5; have O5 : Hid _ := o5; have S5 : Hid _ := s5; clear x5 o5 s5 n5)
          go_roundw
          case rel =>
            have hl : (ds ++ [o]).length = ds.length + 1 := by simp
            have o5 : OwnO (X + 1) w5 (.slice a5 (ds ++ [o]).length c5) (ds ++ [o]) := O5.out
            rw [hl] at o5
            have s6 : Same (fun k => k = X) w5 (w5.setCell ⟨X, 7, none⟩ (.slice a5 (ds.length + 1) c5)) := Same.setCell (S := fun k => k = X) (Same.refl _ w5) _ (.inr rfl) _
            have sA : Same (fun k => X ≤ k) w1 (w5.setCell ⟨X, 7, none⟩ (.slice a5 (ds.length + 1) c5)) := (((Same.refl (fun k => X ≤ k) w1).alloc _).trans S5.out (fun i hi e => by have := (OwnO.block OW1.out e).1; omega)).trans s6 (fun i hi e => by omega)
            refine ⟨ds ++ [o], q2, a5, c5, by rw [hl, ← EJ.out]; rfl, ⟨DN1.out.by sA (fun k hk => by omega), hX, ?_, ?_, by rw [hl, ← EJ.out, ← E7.out]; exact hlt, HMO.out⟩⟩
            · rw [hl]
              refine (setCell_at X5.out 7 _).trans ?_
              rw [E0.out, E1.out, E2.out, E3.out, E4.out, E5.out, E6.out]
              simp
            · rw [hl]
              exact OwnO.kept o5 s6 (fun k hk e => by have := (OwnO.block o5 hk).1; omega)
          case measure => simp only [intOf]; omega
        · have hJ : ds.length = xs.getD 7 0 := by rw [← EJ.out, ← E7.out]; omega
          obtain rfl : J = y7 := by omega
          have d2 : decide ((J : Int) < (J : Int)) = false := decide_eq_false (by omega)
          have HDO : Hid _ := HLN.out.done hJ
          obtain ⟨-, cq, -⟩ := HRC.out.cells
          have g0 := HLN.out.dn.b0
          obtain ⟨⟨m0, m1, m2, m3, m4, m5, m6, m7⟩, f0, f1, f2, f3, f4, f5, f6, f7⟩ := tx_obj g0
          have G0 : Hid _ := g0
          have KK : Hid _ := HLN.out.dn.kept
          have hqL := HRC.out.ple
          have hrcl := HRC.out.lt
          rw [← EL.out] at hqL
          clear g0 hJ
          by_cases hq : q' < L
          · have d3 : decide ((q' : Int) < (L : Int)) = true := decide_eq_true (by omega)
            have d3' : (q' : Int) < (L : Int) := by omega
            go_wp2_with fail
            go_region_held3 (fun w' => w'.cell? ⟨w.heap.size + 1, 1, none⟩ = some (.int .i64 (q' : Int))) (go_simp) (fail)
            go_wp2_with fail
            refine bodyPost_ret (results_ctt (a := 2) (t := 37) (u := 3) (s := 4) rfl rfl (loadVar_tx_drew (put8_at G0.out _ _ _ _ _ _ _ _))) rfl ?_
            unfold DcP
            rw [decode_more HDO.out (by rw [← EL.out]; exact hq)]
            exact ⟨Same.drew (KK.out.trans (put8_same _ _ _ _ _ _ _ _ _ _) (fun i hi e => by omega)), rfl⟩
          · have d3 : decide ((q' : Int) < (L : Int)) = false := decide_eq_false (by omega)
            have d3' : ¬ (q' : Int) < (L : Int) := by omega
            obtain ⟨⟨t0', t1, t2, t3, t4, t5, t6, t7⟩, -⟩ := tx_obj BX.out
            go_wp2_with fail
            refine bodyPost_ret (results_ctt (a := 2) (t := 37) (u := 3) (s := 4) rfl rfl (loadVar_tx (put8_at G0.out _ _ _ _ _ _ _ _))) rfl ?_
            unfold DcP
            rw [decode_all HDO.out (by rw [← EL.out]; exact hq)]
            have sP := put8_same wr w.heap.size (.int .i64 (y0 : Int)) (.int .i64 (y1 : Int)) (.int .i64 (y2 : Int)) (.int .i64 (y3 : Int)) (.int .i64 (y4 : Int)) (.int .i64 (y5 : Int)) (.int .i64 (y6 : Int)) (.slice sa J sc)
            refine ⟨KK.out.trans sP (fun i hi e => by omega), .slice sa J sc, ?_, ?_⟩
            · rw [E0.out, E1.out, E2.out, E3.out, E4.out, E5.out, E6.out]
              rfl
            · have := OwnO.kept HLN.out.own sP (fun k hk e => by have := (OwnO.block HLN.out.own hk).1; omega)
              rw [← EJ.out] at this
              exact OwnO.lower this (by omega)
end Go.Proofs.Ytmajfclkhjnahaa
