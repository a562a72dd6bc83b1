/- What is proved: the map from a block of a region to how often it was read: what a look-up finds, and what 'one more' leaves; keys are pairs of ints. -/
import Derived.Test.YtpjkmficpedmcaaDBase
import Derived.Maps.OwnOps
import Derived.Maps.Views
import Derived.DeepKeys4
import Derived.WideKeyEntry
import Derived.ProofKit
import Derived.OpenShut
namespace Go.Proofs.Ytpjkmficpedmcaa
open Go.RowKit Go.ChangeShapes Go.WideShapes Go.ChangeAt
open Go.Maps (Keyed)

theorem Try.laid3 : laidOutB Try.prog = true := by kernel_rfl
theorem Try.rowP : (122 : TypeId) < Try.prog.types.size := of_decide_eq_true (by kernel_rfl)
theorem Try.cellsP : Try.prog.cellsOf 122 = 2 := by kernel_rfl
theorem Try.deepP : Try.prog.keyTypeAt (Try.prog.types.size + 1) 122 = true := by kernel_rfl
theorem Try.wideP : (match Try.prog.underlying 122 with | some (.array _ _) | some (.struct _) => true | _ => false) = true := by rw [Try.underlying122]
set_option maxRecDepth 100000 in
theorem Try.lawP : WideMaps.KeyLaw Try.prog 122 := deep_law_laid Try.laid3 (m := 2) (by omega) Try.rowP (by kernel_rfl) Try.wideP
theorem Try.keyedP : Keyed Try.prog 122 := Keyed.of_law Try.lawP
theorem Try.formedP {c0 c1 : Value} : (Value.agg #[c0, c1]).formed Try.prog 122 = true := by simp [Value.formed, Try.underlying122, Try.cellsP]
theorem Try.zeroI (w : World) : (zeroValue 3).run Try.prog w = .ok (.int .i64 0) w := by kernel_rfl

/-- An int. -/
def I64 (n : Int) : Prop := (Lit.int .i64 n).wf = true
theorem I64.mk {n : Int} (h1 : -9223372036854775808 ≤ n) (h2 : n ≤ 9223372036854775807) : I64 n := by
  show (decide _ && decide _) = true
  simp only [Bool.and_eq_true, decide_eq_true_eq]
  exact ⟨h1, h2⟩

abbrev pkey (r b : Int) : Value := .agg #[.int .i64 r, .int .i64 b]
set_option maxRecDepth 100000 in
theorem key_some {r b : Int} (hr : I64 r) (hb : I64 b) : ∃ kl, keyOf Try.prog 122 (pkey r b) = some kl := by
  have ci : Try.prog.cellsOf 3 = 1 := by kernel_rfl
  have h : DataW.Trod (H := Unit) (fun _ => ()) Try.prog default 0 (fun _ => true) true 122 (pkey r b) (.agg [.lit (.int .i64 r), .lit (.int .i64 b)]) [] := by
    refine ⟨2, ?_⟩
    simp [DataW.trod, Try.underlying122, Value.cells, Try.underlying3, ci, show (Lit.int .i64 r).wf = true from hr, show (Lit.int .i64 b).wf = true from hb]
    exact Try.cellsP.symm
  exact ⟨_, (keyOf_asKey Try.deepP Try.wideP Try.formedP h).1⟩

/-- The map in block mb: at most n entries; R r b at the key of region r, block b. -/
def MapH (w : World) (mb n : Nat) (R : Int → Int → Nat) : Prop :=
  ∃ D : DataW Unit, w.ownsMap Try.prog 122 (plainElem Try.prog 3) mb n D ∧ ∀ r b kl, keyOf Try.prog 122 (pkey r b) = some kl → D.atKey kl (.lit (.int .i64 0)) = .lit (.int .i64 (R r b))

/-- One read more of region r, block b. -/
def bump (R : Int → Int → Nat) (r b : Int) : Int → Int → Nat := fun r' b' => if r' = r ∧ b' = b then R r b + 1 else R r' b'
theorem bump_same (R : Int → Int → Nat) (r b : Int) : bump R r b r b = R r b + 1 := by simp [bump]
theorem bump_other (R : Int → Int → Nat) (r b : Int) {r' b' : Int} (h : ¬ (r' = r ∧ b' = b)) : bump R r b r' b' = R r' b' := if_neg h

theorem owns_congr {w w' : World} {mb n : Nat} {D : DataW Unit} (h : w.ownsMap Try.prog 122 (plainElem Try.prog 3) mb n D) (hh : w'.heap[mb]? = w.heap[mb]?) : w'.ownsMap Try.prog 122 (plainElem Try.prog 3) mb n D := by
  obtain ⟨es, clock, hb, F, hs, hD⟩ := h
  exact ⟨es, clock, hh.trans hb, F, hs, hD⟩
theorem MapH.congr {w w' : World} {mb n : Nat} {R : Int → Int → Nat} (h : MapH w mb n R) (hh : w'.heap[mb]? = w.heap[mb]?) : MapH w' mb n R := by
  obtain ⟨D, ho, hk⟩ := h
  exact ⟨D, owns_congr ho hh, hk⟩
theorem MapH.lt {w : World} {mb n : Nat} {R : Int → Int → Nat} (h : MapH w mb n R) : mb < w.heap.size := by
  obtain ⟨D, ho, _⟩ := h
  exact ho.lt
theorem MapH.is {w : World} {mb n : Nat} {R : Int → Int → Nat} (h : MapH w mb n R) : ∃ es clock, w.heap[mb]? = some (.map es clock) := by
  obtain ⟨D, ⟨es, clock, hb, _⟩, _⟩ := h
  exact ⟨es, clock, hb⟩
theorem MapH.kept {S : Nat → Prop} {w w' : World} {mb n : Nat} {R : Int → Int → Nat} (h : MapH w mb n R) (hs : Same S w w') (hd : ¬ S mb) : MapH w' mb n R := h.congr (hs.block _ h.lt hd)
theorem MapH.made (w : World) : MapH (w.alloc (.map #[] 0)) w.heap.size 0 (fun _ _ => 0) := ⟨_, World.ownsMap_made w _ _ _, fun _ _ _ _ => rfl⟩
theorem MapH.mono {w : World} {mb n n' : Nat} {R : Int → Int → Nat} (h : MapH w mb n R) (hn : n ≤ n') : MapH w mb n' R := by
  obtain ⟨D, ho, hk⟩ := h
  exact ⟨D, ho.mono hn, hk⟩

theorem MapH.look {w : World} {mb n : Nat} {R : Int → Int → Nat} (h : MapH w mb n R) {r b : Int} (hr : I64 r) (hb : I64 b) : (Instr.lookup 56 (.map (some mb)) (pkey r b) false).run Try.prog w = .ok (.int .i64 (R r b)) w := by
  obtain ⟨D, ho, hk⟩ := h
  obtain ⟨kl, hkl⟩ := key_some hr hb
  obtain ⟨c, hrun, hat, _⟩ := ho.lookup_int Try.keyedP Try.underlying56 Try.underlying3 (Try.zeroI w) hkl
  rw [hrun]
  have := (hk r b kl hkl).symm.trans hat
  simp only [DataW.lit.injEq, Lit.int.injEq, true_and] at this
  rw [this]

open Go.ChangeMaps Go.WideElems in
theorem MapH.bump {w : World} {mb n : Nat} {R : Int → Int → Nat} (h : MapH w mb n R) (hn : n < maxLen) {r b : Int} (hr : I64 r) (hb : I64 b) (hR : R r b < 9223372036854775807) :
    ∃ (w1 : World) (v0 : Value) (st : Nat), (Instr.mapEntry 56 (.map (some mb)) (pkey r b)).run Try.prog w = .ok (.tuple #[v0, goInt st]) w1 ∧ MapH w1 mb (n + 1) R ∧ Same (fun k => k = mb) w w1 ∧
      ∀ w2 : World, w2.heap[mb]? = w1.heap[mb]? → ∃ w3, (Instr.entryStore 56 (.map (some mb)) (goInt st) (.int .i64 ((R r b : Int) + 1))).run Try.prog w2 = .ok () w3 ∧ MapH w3 mb (n + 1) (bump R r b) ∧ Same (fun k => k = mb) w2 w3 := by
  have hl0 := h.look hr hb
  obtain ⟨D, ho, hk⟩ := h
  obtain ⟨kl, hkl⟩ := key_some hr hb
  have hother : ∀ {r' b' : Int} {kl' : Lit}, keyOf Try.prog 122 (pkey r' b') = some kl' → kl' = kl → r' = r ∧ b' = b := by
    intro r' b' kl' h' e
    subst e
    have := Try.lawP.inj h' hkl
    simpa [pkey] using this
  have hD : Go.Maps.IsMap D := by obtain ⟨_, _, _, _, _, rfl⟩ := id ho; exact ⟨_, rfl⟩
  have hkey : WideAt.IsKeyLit kl := Try.keyedP.key hkl
  have ho' := ho
  obtain ⟨es, clock, hes, F, hs, hDe⟩ := ho'
  have hput : ∀ (v : Int), I64 v → ∀ w' : World, (Instr.mapUpdate 56 (.map (some mb)) (pkey r b) (.int .i64 v)).run Try.prog w = .ok () w' → w'.ownsMap Try.prog 122 (plainElem Try.prog 3) mb (n + 1) (D.put kl (.lit (.int .i64 v))) := by
    intro v hv w' hrun
    obtain ⟨w'', hu, h1, _⟩ := ho.update Try.keyedP Try.underlying56 hn hkl (plainElem_int Try.underlying3 hv)
    rw [hrun] at hu
    injection hu with _ e
    subst e
    exact h1
  have hset : ∀ (w0 : World) (o : Obj), (∃ e c, w0.heap[mb]? = some (.map e c)) → Same (fun k => k = mb) w0 (setBlock w0 mb o) := by
    rintro w0 o ⟨e, c, hw⟩
    exact ⟨rfl, rfl, rfl, by simp [setBlock], fun k _ hk => heap_setBlock_other hw o hk⟩
  obtain ⟨v0, st, es1, clock1, hrun, hv0, hst⟩ := entry_then_store (R := plainElem (H := Unit) Try.prog 3) Try.lawP Try.underlying56 Try.zeroI hes F hkl
  have h1b := heap_setBlock_same hes (.map es1 clock1)
  refine ⟨_, v0, st, hrun, ?_, hset _ _ ⟨_, _, hes⟩, fun w2 hw2 => ?_⟩
  · rcases Try.lawP.find w hkl es.toList F.keys with ⟨h1, h2⟩ | ⟨j, e0, h1, h2, h3⟩
    · have hr1 : (Instr.mapEntry 56 (.map (some mb)) (pkey r b)).run Try.prog w = .ok (.tuple #[.int .i64 0, goInt clock]) (setBlock w mb (.map (es.push ⟨pkey r b, .int .i64 0, clock⟩) (clock + 1))) := by
        simp [Instr.mapEntry, run_underlying Try.underlying56, MapKept.run_getObj_map hes, Try.lawP.check w false hkl, h1, MapKept.run_setObj_map _ hes, Result.andThen, setBlock]
      have hu : (Instr.mapUpdate 56 (.map (some mb)) (pkey r b) (.int .i64 0)).run Try.prog w = .ok () (setBlock w mb (.map (es.push ⟨pkey r b, .int .i64 0, clock⟩) (clock + 1))) := by
        simp [Instr.mapUpdate, run_underlying Try.underlying56, MapKept.run_getObj_map hes, Try.lawP.check w false hkl, h1, MapKept.run_setObj_map _ hes, Result.andThen, setBlock]
      rw [hrun] at hr1
      injection hr1 with _ hw
      rw [hw]
      have hown := hput 0 (by rfl) _ hu
      refine ⟨_, hown, fun r' b' kl' h' => ?_⟩
      by_cases e : kl' = kl
      · obtain ⟨rfl, rfl⟩ := hother h' e
        subst e
        have hl1 : (Instr.lookup 56 (.map (some mb)) (pkey r' b') false).run Try.prog w = .ok (.int .i64 0) w := by
          simp [Instr.lookup, run_underlying Try.underlying56, MapKept.run_getObj_map hes, Try.lawP.check w _ hkl, h1, Result.andThen]
        rw [hl0] at hl1
        have e0 : (R r' b' : Int) = 0 := by simpa using hl1
        rw [Go.Maps.atKey_put_same hD hkey, e0]
      · rw [Go.Maps.atKey_put_other e]
        exact hk r' b' kl' h'
    · have hj : es[j]? = some e0 := by simpa using h2
      have hsame : es.modify j (fun e => { e with key := pkey r b }) = es := by
        apply Array.ext'
        rw [Array.toList_modify, modify_eq_set _ _ _ _ h2]
        have : ({ e0 with key := pkey r b } : MapEntry) = e0 := by rw [← h3]
        rw [this]
        exact set_self _ _ _ h2
      have hr1 : (Instr.mapEntry 56 (.map (some mb)) (pkey r b)).run Try.prog w = .ok (.tuple #[e0.val, goInt e0.born]) (setBlock w mb (.map es clock)) := by
        simp [Instr.mapEntry, run_underlying Try.underlying56, MapKept.run_getObj_map hes, Try.lawP.check w false hkl, h1, hj, h3, Try.lawP.stays w hkl, hsame, MapKept.run_setObj_map _ hes, Result.andThen, setBlock]
      rw [hrun] at hr1
      injection hr1 with _ hw
      rw [hw]
      exact MapH.mono (MapH.congr (w := w) ⟨D, ho, hk⟩ ((heap_setBlock_same hes _).trans hes.symm)) (Nat.le_succ _)
  · rw [h1b] at hw2
    obtain ⟨es', clock', hr2, hu⟩ := hst w2 (.int .i64 ((R r b : Int) + 1)) hw2
    refine ⟨_, hr2, ⟨_, owns_congr (hput ((R r b : Int) + 1) (I64.mk (by omega) (by omega)) _ hu) ((heap_setBlock_same hw2 _).trans (heap_setBlock_same hes _).symm), fun r' b' kl' h' => ?_⟩, hset _ _ ⟨_, _, hw2⟩⟩
    by_cases e : kl' = kl
    · obtain ⟨rfl, rfl⟩ := hother h' e
      subst e
      rw [Go.Maps.atKey_put_same hD hkey, bump_same]
      simp
    · rw [Go.Maps.atKey_put_other e, bump_other]
      · exact hk r' b' kl' h'
      · rintro ⟨rfl, rfl⟩
        rw [h'] at hkl
        exact e (by simpa using hkl)
end Go.Proofs.Ytpjkmficpedmcaa
