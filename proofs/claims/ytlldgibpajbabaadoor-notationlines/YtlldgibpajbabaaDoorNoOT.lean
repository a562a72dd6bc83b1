/- What is proved: a transaction as an argument, opened; the document's Copy; no condition. -/
import Derived.Test.YtlldgibpajbabaaDoorNoAn
import Derived.ProofKit
import Derived.OpenShut
import Derived.Deep.Slices
import Derived.Deep.SlicePairs
import Derived.SizedLaws
namespace Go.Proofs.YtlldgibpajbabaaDoor
open Go.ChangeShapes Go.WideShapes Go.ChangeAt Go.RowKit
open Go.RowKit

theorem Tryd.laid5 : laidOutB Tryd.prog = true := by kernel_rfl
theorem Tryd.cellsB : Tryd.prog.cellsOf 5 = 1 := by kernel_rfl
theorem Tryd.bytesB : Tryd.prog.bytesOf 5 = 1 := by kernel_rfl

theorem list_of (n : Nat) {α : Type} (f : Nat → α) : ((List.range n).map f).length = n ∧ ∀ i x, ((List.range n).map f)[i]? = some x → i < n ∧ x = f i := by
  refine ⟨by simp, fun i x h => ?_⟩
  have hi := (List.getElem?_eq_some_iff.1 h).1
  simp at hi
  rw [List.getElem?_map, List.getElem?_range hi] at h
  simp at h
  exact ⟨hi, h.symm⟩

instance : Inhabited OpM := ⟨z0⟩
theorem Tryd.cellsI : Tryd.prog.cellsOf 3 = 1 := by kernel_rfl
theorem Tryd.cellsS : Tryd.prog.cellsOf 9 = 1 := by kernel_rfl
theorem Tryd.cellsL : Tryd.prog.cellsOf 4 = 1 := by kernel_rfl
theorem Tryd.cellsO : Tryd.prog.cellsOf 49 = 4 := by kernel_rfl
theorem Tryd.cellsOs : Tryd.prog.cellsOf 23 = 1 := by kernel_rfl
theorem Tryd.bytesO : Tryd.prog.bytesOf 49 = 48 := by kernel_rfl
set_option maxRecDepth 100000 in
theorem open_ops {H : Type} {enc : TypeId × Value → H} {W : World} {fuel : Nat} {sa : Option Addr} {len cap : Nat} {d : DataW H} {p : List MemPlace}
    (h : DataW.trod enc Tryd.prog W 0 (fun _ => true) true fuel 23 [.slice sa len cap] = some (d, p)) : ∃ l : List OpM, len = l.length ∧ OpsAt W sa l ∧ (sa = none → l.length = 0 ∧ cap = 0) ∧ ((∀ n ∈ d.weights Tryd.prog 23, n ≤ reachBytes) → l.length * 48 ≤ reachBytes) := by
  rcases Go.Deep.open_slice Tryd.underlying23 h with ⟨hcs, hd⟩ | ⟨a, len', cap', m, n, D, Pl, hcs, _, hl, hm, hmm, hd, hx⟩
  · simp only [List.cons.injEq, Value.slice.injEq, and_true] at hcs
    obtain ⟨rfl, rfl, rfl⟩ := hcs
    exact ⟨[], rfl, OpsAt.nil _ _, fun _ => ⟨rfl, rfl⟩, fun _ => by simp⟩
  · simp only [List.cons.injEq, Value.slice.injEq, and_true] at hcs
    obtain ⟨rfl, rfl, rfl⟩ := hcs
    simp only [if_true] at hmm
    simp only [Prod.mk.injEq] at hd
    have each : ∀ i, i < len → ∃ o : OpM, W.cell? (a.add (i * 4)) = some (.int .i64 o.kind) ∧ W.cell? (a.add (i * 4 + 1)) = some (.string o.key) ∧ W.cell? (a.add (i * 4 + 2)) = some (.bool o.found) ∧ W.cell? (a.add (i * 4 + 3)) = some (.string o.value) := by
      intro i hi
      obtain ⟨cs', h1, h2⟩ := hx i (by omega)
      rw [Tryd.cellsO] at h1
      obtain ⟨_, hlen, hcell⟩ := World.cells?_some h1
      obtain ⟨xs, k, hk, hxy, _, hxl, hf⟩ := DataW.trod_struct Tryd.underlying49 h2
      match xs, hxl, cs', hlen with
      | [y0, y1, y2, y3], _, [v0, v1, v2, v3], _ =>
        have g0 := hf 0 _ rfl
        have g1 := hf 1 _ rfl
        have g2 := hf 2 _ rfl
        have g3 := hf 3 _ rfl
        simp [Tryd.cellsI, Tryd.cellsS, Tryd.cellsL] at g0 g1 g2 g3
        obtain ⟨n0, e0, _⟩ := DataW.trod_int Tryd.underlying3 g0
        obtain ⟨n1, e1, _⟩ := DataW.trod_string Tryd.underlying9 g1
        obtain ⟨n2, e2, _⟩ := DataW.trod_bool Tryd.underlying4 g2
        obtain ⟨n3, e3, _⟩ := DataW.trod_string Tryd.underlying9 g3
        have c0 := hcell 0 (by omega)
        have c1 := hcell 1 (by omega)
        have c2 := hcell 2 (by omega)
        have c3 := hcell 3 (by omega)
        rw [Go.Deep.add_add] at c0 c1 c2 c3
        simp only [List.cons.injEq, and_true] at e0 e1 e2 e3
        subst e0 e1 e2 e3
        exact ⟨⟨n0, n1, n2, n3⟩, by simpa using c0, by simpa using c1, by simpa using c2, by simpa using c3⟩
    obtain ⟨q, hq⟩ := Go.Deep.choose_lt each
    obtain ⟨e1, e2⟩ := list_of len q
    refine ⟨(List.range len).map q, e1.symm, fun i x hi => ?_, fun e => (by cases e), fun hw => ?_⟩
    · obtain ⟨hi', rfl⟩ := e2 i x hi
      obtain ⟨h0, h1, h2, h3⟩ := hq i hi'
      obtain ⟨h00, _, _, _⟩ := hq 0 (by omega)
      obtain ⟨b, off, spot⟩ := a
      have hspot : spot = none := by simpa [Addr.add] using World.cell?_spot h00
      subst hspot
      rw [Go.WideShapes.add_plain] at h0 h1 h2 h3
      exact ⟨b, off, rfl, World.block_lt_of_cell? W _ h0, h0, h1, h2, h3⟩
    · rw [e1]
      have := hw ((len + (m - len)) * 48) (by
        rw [hd.1]
        simp only [DataW.weights, Tryd.underlying23, Tryd.bytesO, List.length_map, List.length_range]
        exact List.mem_cons_self)
      omega
/-- What is known of an argument that is a transaction. -/
structure ArgT (w : World) (t : TxM) (a : Option Addr) (c : Nat) : Prop where
  ops : OpsAt w a t.ops
  nil : a = none → t.ops.length = 0 ∧ c = 0
  len : t.ops.length * 48 ≤ reachBytes
theorem ArgT.on {w w' : World} {t : TxM} {a : Option Addr} {c : Nat} (h : ArgT w t a c) (k : Kept w w') : ArgT w' t a c := ⟨h.ops.on k, h.nil, h.len⟩
theorem ArgT.txa {w : World} {t : TxM} {a : Option Addr} {c : Nat} (h : ArgT w t a c) : TxA w t (txV t (.slice a t.ops.length c)) := ⟨a, c, rfl, h.ops⟩
theorem ArgT.le {w : World} {t : TxM} {a : Option Addr} {c : Nat} (h : ArgT w t a c) : t.ops.length * 48 ≤ 140737488351232 := by
  have := h.len
  unfold reachBytes at this
  omega
set_option maxRecDepth 100000 in
theorem open_txn {H : Type} {enc : TypeId × Value → H} {W : World} {fuel : Nat} {cs : Array Value} {d : DataW H} {p : List MemPlace} (hsz : cs.size = Tryd.prog.cellsOf 25)
    (h : DataW.trod enc Tryd.prog W 0 (fun _ => true) true fuel 25 cs.toList = some (d, p)) : ∃ (t : TxM) (a : Option Addr) (c : Nat), Value.agg cs = txV t (.slice a t.ops.length c) ∧ ((∀ n ∈ d.weights Tryd.prog 25, n ≤ reachBytes) → ArgT W t a c) := by
  have cS : Tryd.prog.cellsOf 25 = 8 := by kernel_rfl
  rw [cS] at hsz
  obtain ⟨xs, k, hk, hxy, _, hxl, hf⟩ := DataW.trod_struct Tryd.underlying25 h
  obtain ⟨cl⟩ := cs
  match xs, hxl, cl, hsz with
  | [y0, y1, y2, y3, y4, y5, y6, y7], _, [v0, v1, v2, v3, v4, v5, v6, v7], _ =>
    have g0 := hf 0 _ rfl
    have g1 := hf 1 _ rfl
    have g2 := hf 2 _ rfl
    have g3 := hf 3 _ rfl
    have g4 := hf 4 _ rfl
    have g5 := hf 5 _ rfl
    have g6 := hf 6 _ rfl
    have g7 := hf 7 _ rfl
    simp [Tryd.cellsI, Tryd.cellsOs] at g0 g1 g2 g3 g4 g5 g6 g7
    obtain ⟨n0, e0, _⟩ := DataW.trod_int Tryd.underlying3 g0
    obtain ⟨n1, e1, _⟩ := DataW.trod_int Tryd.underlying3 g1
    obtain ⟨n2, e2, _⟩ := DataW.trod_int Tryd.underlying3 g2
    obtain ⟨n3, e3, _⟩ := DataW.trod_int Tryd.underlying3 g3
    obtain ⟨n4, e4, _⟩ := DataW.trod_int Tryd.underlying3 g4
    obtain ⟨n5, e5, _⟩ := DataW.trod_int Tryd.underlying3 g5
    obtain ⟨n6, e6, _⟩ := DataW.trod_int Tryd.underlying3 g6
    have sl : ∃ a n c, v7 = .slice a n c := by
      rcases Go.Deep.open_slice Tryd.underlying23 g7 with ⟨hcs, _⟩ | ⟨a, len', cap', m, n, D, Pl, hcs, _⟩
      · simp only [List.cons.injEq, and_true] at hcs; exact ⟨_, _, _, hcs⟩
      · simp only [List.cons.injEq, and_true] at hcs; exact ⟨_, _, _, hcs⟩
    obtain ⟨a, n, c, rfl⟩ := sl
    obtain ⟨d7, p7⟩ := y7
    obtain ⟨l, rfl, r1, r2, r3⟩ := open_ops g7
    simp only [List.cons.injEq, and_true] at e0 e1 e2 e3 e4 e5 e6
    subst e0 e1 e2 e3 e4 e5 e6
    simp only [Prod.mk.injEq] at hxy
    refine ⟨⟨n0, n1, n2, n3, n4, n5, n6, l⟩, a, c, rfl, fun hw => ⟨r1, r2, r3 fun n hn => hw n ?_⟩⟩
    rw [hxy.1]
    simp only [DataW.weights, Tryd.underlying25, List.map_cons, List.map_nil, DataW.weightsEach, List.mem_append]
    simp
    simp [hn]

theorem app_ops_lit {w : World} {l : List OpM} {oa : Option Addr} {c : Nat} (hl : OpsAt w oa l) (hnil : oa = none → l.length = 0 ∧ c = 0) (hb : l.length * 48 ≤ 140737488355328) (ty : TypeId) :
    ∃ v' w', (Builtin.append_ #[23, 23] ty #[.slice (some ⟨w.heap.size, 0, none⟩) 0 0, .slice oa l.length c]).run Tryd.prog (w.alloc (.cells #[] 49)) = .ok v' w' ∧ OwnO w.heap.size w' v' l ∧ Kept w w' := by
  obtain ⟨i0, hi0, hz0, hz1, hz2⟩ := info_parts Tryd.infoOp
  have hown : (w.alloc (.cells #[] 49)).ownsRow w.heap.size 49 4 (.slice (some ⟨w.heap.size, 0, none⟩) 0 0) 0 [] := World.ownsRow_made w #[] 0 (Nat.le_refl _) (Nat.zero_le _) rfl
  have k0 : Kept w (w.alloc (.cells #[] 49)) := (Same.refl _ w).alloc _
  cases oa with
  | none =>
    obtain ⟨h0, rfl⟩ := hnil rfl
    obtain rfl : l = [] := List.eq_nil_of_length_eq_zero h0
    exact ⟨_, _, run_append_owned_none (P := Tryd.prog) (w := w.alloc (.cells #[] 49)) w.heap.size 23 ty 49 i0 4 Tryd.underlying23 hi0 _ 0 _ hown, hown, k0⟩
  | some ad =>
    obtain ⟨v', w', hr, r1, r2, _, _⟩ := run_append_own_at (P := Tryd.prog) (w := w.alloc (.cells #[] 49)) w.heap.size 23 ty 49 i0 _ 4 48 Tryd.underlying23 hi0 hz0 hz1 hz2 rfl (by decide) _ 0 _ hown ad l.length c (opc l) (length_opc l)
      (fun j u hu => by
        have hj := (List.getElem?_eq_some_iff.1 hu).1
        rw [length_opc] at hj
        obtain ⟨o, ho⟩ : ∃ o, l[j / 4]? = some o := ⟨_, List.getElem?_eq_getElem (by omega)⟩
        obtain ⟨b', off', e, hb', c0, c1, c2, c3⟩ := (OpsAt.on hl k0) _ _ ho
        cases e
        rw [Addr.add_lit]
        obtain ⟨g0, g1, g2, g3⟩ := opc_get ho
        have h4 : j % 4 = 0 ∨ j % 4 = 1 ∨ j % 4 = 2 ∨ j % 4 = 3 := by omega
        rcases h4 with h4 | h4 | h4 | h4
        · rw [show j = j / 4 * 4 by omega] at hu ⊢
          rw [g0] at hu
          cases hu
          simpa [Nat.add_assoc] using c0
        · rw [show j = j / 4 * 4 + 1 by omega] at hu ⊢
          rw [g1] at hu
          cases hu
          simpa [Nat.add_assoc] using c1
        · rw [show j = j / 4 * 4 + 2 by omega] at hu ⊢
          rw [g2] at hu
          cases hu
          simpa [Nat.add_assoc] using c2
        · rw [show j = j / 4 * 4 + 3 by omega] at hu ⊢
          rw [g3] at hu
          cases hu
          simpa [Nat.add_assoc] using c3) (opc_one _) (by unfold maxLen; omega) (by omega) (by simp [World.size_alloc])
    rw [Nat.zero_add, List.nil_append] at r1
    refine ⟨v', w', hr, r1, k0.trans (Same.of_grown r2 (fun k e => e)) (fun i hi e => ?_)⟩
    simp only [Value.ownBlock, Option.some.injEq] at e
    omega
set_option maxRecDepth 100000 in
set_option maxHeartbeats 1600000 in
theorem copy_any (w : World) (t : TxM) (a : Option Addr) (c : Nat) (h : ArgT w t a c) : Calls Tryd.prog 23 #[txV t (.slice a t.ops.length c)] w fun e w' => ∃ a' c', e = .returned (txV t (.slice a' t.ops.length c')) ∧ OwnO w.heap.size w' (.slice a' t.ops.length c') t.ops ∧ Kept w w' := by
  have HR : Hid (∀ W, Kept w W → _) := fun W (k : Kept w W) => app_ops_lit (c := c) (h.on k).ops h.nil (by have := h.le; omega)
  obtain ⟨n, en⟩ : ∃ n, n = t.ops.length := ⟨_, rfl⟩
  have HR2 : Hid _ := HR.out ((w.alloc (.cells #[.int .i64 t.f0, .int .i64 t.f1, .int .i64 t.f2, .int .i64 t.f3, .int .i64 t.f4, .int .i64 t.f5, .int .i64 t.f6, .slice a n c] 25 (0, 0))).alloc (.cells #[.int .i64 0, .int .i64 0, .int .i64 0, .int .i64 0, .int .i64 0, .int .i64 0, .int .i64 0, .slice none 0 0] 25 (0, 0))) (((Same.refl _ w).alloc _).alloc _)
  have EN : Hid _ := en
  rw [World.size_alloc, World.size_alloc, ← en] at HR2
  unfold txV
  rw [← en]
  clear h en HR
  go_enter Tryd.func23, Tryd.ntmps23
  go_wp2_with (at_builtin; refine wpList_app rfl (.tmp 3) (.tmp 5) 23 23 rfl _ _ rfl rfl _ HR2.out ?_; rintro v2 w2 ⟨o2, k2⟩; obtain ⟨b1, b2⟩ := Same.two k2 (fun h => h) (fun h => h); obtain ⟨⟨c0, c1, c2, c3, c4, c5, c6, c7⟩, f0, f1, f2, f3, f4, f5, f6, f7⟩ := tx_obj b1; obtain ⟨⟨d0, d1, d2, d3, d4, d5, d6, d7⟩, g0, g1, g2, g3, g4, g5, g6, g7⟩ := tx_obj b2; obtain ⟨a2, p2, e2, -⟩ := OwnO.ops o2; rw [← EN.out] at e2; subst e2; have O2 : Hid _ := o2; have K2 : Hid _ := k2; have B2 : Hid _ := b2; clear o2 k2 b1 b2)
  have s3 : Same (fun k => k = w.heap.size ∨ k = w.heap.size + 1) w2 (put8 (w2.setCell ⟨w.heap.size, 7, none⟩ (.slice a2 n p2)) (w.heap.size + 1) (.int .i64 t.f0) (.int .i64 t.f1) (.int .i64 t.f2) (.int .i64 t.f3) (.int .i64 t.f4) (.int .i64 t.f5) (.int .i64 t.f6) (.slice a2 n p2)) :=
    (Same.setCell (S := fun k => k = w.heap.size ∨ k = w.heap.size + 1) (Same.refl _ w2) _ (.inr (.inl rfl)) _).trans (put8_same _ _ _ _ _ _ _ _ _ _) (fun i hi e => .inr e)
  refine bodyPost_ret (results_c (a := 2) (t := 25) rfl rfl (loadVar_tx (put8_at (w := w2.setCell ⟨w.heap.size, 7, none⟩ (.slice a2 n p2)) ((Same.block_set (fun e => by omega)).symm.trans B2.out) _ _ _ _ _ _ _ _))) rfl ⟨_, _, rfl, ?_, ?_⟩
  · exact OwnO.lower (OwnO.kept O2.out s3 (fun k hk e => by have := (OwnO.block O2.out hk).1; omega)) (by omega)
  · exact ((((Same.refl (fun _ => False) w).alloc _).alloc _).trans' K2.out).trans s3 (fun i hi e => by omega)
end Go.Proofs.YtlldgibpajbabaaDoor
