/- What is proved: a set of edges in a map: what a look-up finds, what a store leaves; a graph in memory; no condition but that numbers are in their bounds. -/
import Derived.Test.YtbhihmkgimdjpaaDoorGhS
import Derived.Maps.OwnOps
import Derived.Maps.OwnSet
import Derived.Maps.Views
import Derived.Maps.Range
import Derived.DeepKeys4
import Derived.WideKeyEntry
import Derived.ProofKit
import Derived.OpenShut
namespace Go.Proofs.YtbhihmkgimdjpaaDoor
open Go.RowKit Go.ChangeShapes Go.WideShapes Go.ChangeAt
open Go.Maps (Keyed)

theorem Tryd.laidG : laidOutB Tryd.prog = true := by kernel_rfl
theorem Tryd.rowE : (33 : TypeId) < Tryd.prog.types.size := of_decide_eq_true (by kernel_rfl)
theorem Tryd.cellsE : Tryd.prog.cellsOf 33 = 3 := by kernel_rfl
theorem Tryd.cellsI : Tryd.prog.cellsOf 3 = 1 := by kernel_rfl
theorem Tryd.deepE : Tryd.prog.keyTypeAt (Tryd.prog.types.size + 1) 33 = true := by kernel_rfl
theorem Tryd.wideE : (match Tryd.prog.underlying 33 with | some (.array _ _) | some (.struct _) => true | _ => false) = true := by rw [Tryd.underlying33]
set_option maxRecDepth 100000 in
theorem Tryd.lawE : WideMaps.KeyLaw Tryd.prog 33 := deep_law_laid Tryd.laidG (m := 3) (by omega) Tryd.rowE (by kernel_rfl) Tryd.wideE
theorem Tryd.keyedE : Keyed Tryd.prog 33 := Keyed.of_law Tryd.lawE
theorem Tryd.formedE {c0 c1 c2 : Value} : (Value.agg #[c0, c1, c2]).formed Tryd.prog 33 = true := by simp [Value.formed, Tryd.underlying33, Tryd.cellsE]
theorem Tryd.zeroU (w : World) : (zeroValue 70).run Tryd.prog w = .ok (.agg #[]) w := by kernel_rfl
/-- A number that a word holds. -/
def I64 (n : Int) : Prop := (Lit.int .i64 n).wf = true
theorem I64.mk {n : Int} (h1 : -9223372036854775808 ≤ n) (h2 : n ≤ 9223372036854775807) : I64 n := by
  show (decide _ && decide _) = true
  simp only [Bool.and_eq_true, decide_eq_true_eq]
  exact ⟨h1, h2⟩
theorem I64.bounds {n : Int} (h : I64 n) : -9223372036854775808 ≤ n ∧ n ≤ 9223372036854775807 := by
  have h : (decide (-9223372036854775808 ≤ n) && decide (n ≤ 9223372036854775807)) = true := h
  simpa using h
/-- An edge whose numbers fit. -/
structure Eok (e : Eg) : Prop where
  f : I64 e.f
  t : I64 e.t
  l : I64 e.l
theorem EFit.eok {n : Nat} (hn : n ≤ 1024) {e : Eg} (h : EFit n e) : Eok e := by
  obtain ⟨a, b, c, d, f, g⟩ := h
  exact ⟨I64.mk (by omega) (by omega), I64.mk (by omega) (by omega), I64.mk (by omega) (by omega)⟩
set_option maxRecDepth 100000 in
theorem keyE {e : Eg} (h : Eok e) : ∃ kl, keyOf Tryd.prog 33 (egV e) = some kl := by
  have k : DataW.Trod (H := Unit) (fun _ => ()) Tryd.prog default 0 (fun _ => true) true 33 (egV e) (.agg [.lit (.int .i64 e.f), .lit (.int .i64 e.t), .lit (.int .i64 e.l)]) [] := by
    refine ⟨2, ?_⟩
    simp [DataW.trod, Tryd.underlying33, Value.cells, Tryd.underlying3, Tryd.cellsI, show (Lit.int .i64 e.f).wf = true from h.f, show (Lit.int .i64 e.t).wf = true from h.t, show (Lit.int .i64 e.l).wf = true from h.l]
    exact Tryd.cellsE.symm
  exact ⟨_, (keyOf_asKey Tryd.deepE Tryd.wideE Tryd.formedE k).1⟩
theorem key_inj {a b : Eg} {kl : Lit} (ha : keyOf Tryd.prog 33 (egV a) = some kl) (hb : keyOf Tryd.prog 33 (egV b) = some kl) : a = b := by
  have := Tryd.lawE.inj ha hb
  obtain ⟨f, t, l⟩ := a
  obtain ⟨f', t', l'⟩ := b
  simp only [egV, Value.agg.injEq] at this
  simp only [Array.mk.injEq, List.cons.injEq, Value.int.injEq, true_and, and_true] at this
  obtain ⟨rfl, rfl, rfl⟩ := this
  rfl
theorem tight {H : Type} {P : Program} {k : TypeId} {R : Value → Option (DataW H × List MemPlace)} {w : World} {b n : Nat} {D : DataW H} (h : w.ownsMap P k R b n D) : w.ownsMap P k R b (Go.Maps.size D) D := by
  obtain ⟨es, clock, hb, F, _, rfl⟩ := h
  exact ⟨es, clock, hb, F, by simp [Go.Maps.size, length_sorted], rfl⟩
theorem owns_same {H : Type} {P : Program} {k : TypeId} {R : Value → Option (DataW H × List MemPlace)} {w w' : World} {b n : Nat} {D : DataW H} (h : w.ownsMap P k R b n D) (hb : w'.heap[b]? = w.heap[b]?) : w'.ownsMap P k R b n D := by
  obtain ⟨es, clock, e, r⟩ := h
  exact ⟨es, clock, hb.trans e, r⟩
theorem same_turned {w w' : World} {b : Nat} (h : w.mapTurned w' b) : Same (fun k => k = b) w w' := Same.of_grown h.grown fun k e => by cases e; rfl
/-- What a map's datum holds: just these edges. -/
structure Kd (D : DataW Value) (E : List Eg) : Prop where
  size : Go.Maps.size D = E.length
  nodup : E.Nodup
  has : ∀ e kl, keyOf Tryd.prog 33 (egV e) = some kl → Go.Maps.has D kl = decide (e ∈ E)
/-- A set of edges in memory. -/
def Em (w : World) (b : Nat) (E : List Eg) : Prop := ∃ D, w.ownsMap (H := Value) Tryd.prog 33 unitElem b (Go.Maps.size D) D ∧ Kd D E
theorem Em.kept {S : Nat → Prop} {w w' : World} {b : Nat} {E : List Eg} (h : Em w b E) (hs : Same S w w') (hn : ¬ S b) : Em w' b E := by
  obtain ⟨D, h1, h2⟩ := h
  exact ⟨D, owns_same h1 (hs.block _ h1.lt hn), h2⟩
theorem Em.on' {w w' : World} {b : Nat} {E : List Eg} (h : Em w b E) (hs : Kept w w') : Em w' b E := h.kept hs (fun e => e)
theorem Em.lt {w : World} {b : Nat} {E : List Eg} (h : Em w b E) : b < w.heap.size := by
  obtain ⟨D, h1, h2⟩ := h
  exact h1.lt
theorem Em.obj {w : World} {b : Nat} {E : List Eg} (h : Em w b E) : ∃ es c, w.heap[b]? = some (.map es c) := by
  obtain ⟨D, ⟨es, clock, hb, _⟩, h2⟩ := h
  exact ⟨es, clock, hb⟩
theorem Em.made (w : World) : Em (w.alloc (.map #[] 0)) w.heap.size [] := ⟨.map [], World.ownsMap_made w Tryd.prog 33 unitElem, rfl, List.nodup_nil, fun _ _ _ => rfl⟩
theorem Em.look {w : World} {b : Nat} {E : List Eg} (h : Em w b E) {e : Eg} (he : Eok e) : (Instr.lookup 58 (.map (some b)) (egV e) true).run Tryd.prog w = .ok (.tuple #[.agg #[], .bool (decide (e ∈ E))]) w := by
  obtain ⟨D, h1, h2⟩ := h
  obtain ⟨kl, hk⟩ := keyE he
  obtain ⟨v, ps, hrun, hv⟩ := h1.look_ok Tryd.keyedE Tryd.underlying58 (Tryd.zeroU w) (zd := .agg []) (zp := []) rfl hk
  rw [h2.has e kl hk] at hrun
  have := (unitElem_inv hv).1
  rw [this] at hrun
  exact hrun
theorem Em.len {w : World} {b : Nat} {E : List Eg} (h : Em w b E) (ty : TypeId) : (Builtin.len_ #[58] ty #[.map (some b)]).run Tryd.prog w = .ok (.int .i64 (E.length : Nat)) w := by
  obtain ⟨D, h1, h2⟩ := h
  rw [← h2.size]
  exact h1.len Tryd.underlying58 ty
theorem Em.store {w : World} {b : Nat} {E : List Eg} (h : Em w b E) {e : Eg} (he : Eok e) (hn : e ∉ E) (hl : E.length ≤ 65536) : ∃ w', (Instr.mapUpdate 58 (.map (some b)) (egV e) (.agg #[])).run Tryd.prog w = .ok () w' ∧ Em w' b (E ++ [e]) ∧ Same (fun k => k = b) w w' := by
  obtain ⟨D, h1, h2⟩ := h
  obtain ⟨kl, hk⟩ := keyE he
  obtain ⟨w', hrun, r1, r2⟩ := h1.store Tryd.keyedE Tryd.underlying58 (by rw [h2.size]; unfold maxLen; omega) hk (val := .agg #[]) (d := .agg []) (ps := []) rfl
  have hh : Go.Maps.has D kl = false := by rw [h2.has e kl hk]; simpa using hn
  refine ⟨w', hrun, ⟨_, tight r1, ?_, ?_, fun x kx hx => ?_⟩, same_turned r2⟩
  · rw [Go.Maps.size_put (h1.tidy Tryd.keyedE), hh, h2.size, List.length_append]
    rfl
  · rw [List.nodup_append]
    refine ⟨h2.nodup, by simp, fun a ha b hb e' => ?_⟩
    simp only [List.mem_singleton] at hb
    subst hb
    exact hn (e' ▸ ha)
  · by_cases e' : kx = kl
    · subst e'
      obtain rfl := key_inj hx hk
      rw [Go.Maps.has_put_same h1.isMap (Tryd.keyedE.key hk)]
      simp
    · rw [Go.Maps.has_put_other e', h2.has x kx hx]
      have : x ≠ e := fun e2 => by subst e2; rw [hx] at hk; exact e' (by simpa using hk)
      simp [this]
/-- A graph in memory. -/
structure Gp (w : World) (gb n : Nat) (E : List Eg) : Prop where
  ex : ∃ mb, w.heap[gb]? = some (.cells #[.int .i64 n, .map (some mb)] 60 (0, 0)) ∧ Em w mb E
  nle : n ≤ 1024
  fit : ∀ e ∈ E, EFit n e
  len : E.length ≤ 65536
theorem Gp.kept {S : Nat → Prop} {w w' : World} {gb n : Nat} {E : List Eg} (h : Gp w gb n E) (hs : Same S w w') (hn : ∀ b, b < w.heap.size → (b = gb ∨ ∃ es c, w.heap[b]? = some (.map es c)) → ¬ S b) : Gp w' gb n E := by
  obtain ⟨⟨mb, h1, h2⟩, h3, h4, h5⟩ := h
  exact ⟨⟨mb, (hs.block gb (lt_of_heap h1) (hn gb (lt_of_heap h1) (.inl rfl))).trans h1, h2.kept hs (hn mb h2.lt (.inr h2.obj))⟩, h3, h4, h5⟩
theorem Gp.on {w w' : World} {gb n : Nat} {E : List Eg} (h : Gp w gb n E) (hs : Kept w w') : Gp w' gb n E := h.kept hs fun _ _ _ e => e
theorem Gp.lt {w : World} {gb n : Nat} {E : List Eg} (h : Gp w gb n E) : gb < w.heap.size := by
  obtain ⟨⟨mb, h1, h2⟩, h3⟩ := h
  exact lt_of_heap h1
theorem Gp.nodup {w : World} {gb n : Nat} {E : List Eg} (h : Gp w gb n E) : E.Nodup := by
  obtain ⟨⟨mb, h1, ⟨D, h2, h6⟩⟩, h3⟩ := h
  exact h6.nodup
end Go.Proofs.YtbhihmkgimdjpaaDoor
