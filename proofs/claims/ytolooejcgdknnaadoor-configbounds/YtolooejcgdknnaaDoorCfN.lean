/- What is proved: config's settings, numbersOf, configOf, usualNumbers, Usual; no condition. -/
import Derived.Test.YtolooejcgdknnaaDoorNoCu
import Derived.Deep.MidRow
import Derived.Deep.WholeRow
import Derived.Handy
namespace Go.Proofs.YtolooejcgdknnaaDoor
open Go.RowKit

theorem wpList_val {P : Program} {ops : Array Oper} {rest : List Oper} {o : Oper} {a : Act} {w : World} {Q : Exit → Act → World → Prop} (v : Value) (hg : o.guard = none) (h : (execOp a.eval o).run P w = .ok (.value v) w) (k : wpList P ops Q rest (a.put o.dst v) w) : wpList P ops Q (o :: rest) a w :=
  wpList_plain hg fun K hK => by
    unfold Oper.wp
    rw [h]
    exact hK _ _ k
theorem wpList_store_new {P : Program} {ops : Array Oper} {rest : List Oper} {o : Oper} {a : Act} {w : World} {Q : Exit → Act → World → Prop} (hg : o.guard = none) (ty : TypeId) (x y : Operand) (ho : o.op = .store ty x y) (z c : Array Value) (hx : a.eval x = .pointer (some ⟨w.heap.size, 0, none⟩)) (hy : a.eval y = .agg c)
    (hi : (P.info? ty).map (·.size) = some c.size) (hz : z.size = c.size) (h1 : c.all (·.oneCell') = true) (k : wpList P ops Q rest (a.put o.dst undef) (w.alloc (.cells c ty))) : wpList P ops Q (o :: rest) a (w.alloc (.cells z ty)) :=
  wpList_plain hg fun K hK => by
    unfold Oper.wp execOp
    rw [ho]
    simp only [hx, hy, Sem.run_bind, run_storeAt_new w ty z c hi hz h1, Result.andThen_ok, Sem.run_pure]
    exact hK _ _ k
theorem results_cN {fn : Func} {a t : Nat} {P : Program} {w : World} {tmps : Array Value} {ad : Addr} {v : Value} (h : fn.results = #[.cell a t]) (ha : tmps.getD a undef = .pointer (some ad)) (hv : (loadVar t ad).run P w = .ok v w) : (results fn tmps).run P w = .ok v w := by
  have ha' : tmps[a]?.getD undef = .pointer (some ad) := by simpa using ha
  simp [results, h, ha', asAddr, hv]
theorem results_ctN {fn : Func} {a t u : Nat} {P : Program} {w : World} {tmps : Array Value} {ad : Addr} {v : Value} (h : fn.results = #[.cell a t, .tmp u]) (ha : tmps.getD a undef = .pointer (some ad)) (hv : (loadVar t ad).run P w = .ok v w) : (results fn tmps).run P w = .ok (.tuple #[v, tmps.getD u undef]) w := by
  have ha' : tmps[a]?.getD undef = .pointer (some ad) := by simpa using ha
  simp [results, h, ha', asAddr, hv]
theorem load_new5 (w : World) (t : TypeId) (c : Array Value) (n : Nat) (e : TypeId) (hu : Tryd.prog.underlying t = some (.array n e)) (hi : (Tryd.prog.info? t).map (·.size) = some c.size) : (loadVar t ⟨w.heap.size, 0, none⟩).run Tryd.prog (w.alloc (.cells c t)) = .ok (.agg c) (w.alloc (.cells c t)) := run_loadVar_new w t c n e hu hi

set_option maxRecDepth 100000 in
theorem settings_any (w : World) : Calls Tryd.prog 18 #[] w fun e w' => e = .returned (.agg #[.string ⟨#[98, 117, 100, 103, 101, 116]⟩, .int .i64 1200, .int .i64 16777216, .int .i64 4096, .int .i64 100, .string ⟨#[102, 97, 110]⟩, .int .i64 2, .int .i64 64, .int .i64 8, .int .i64 110, .string ⟨#[115, 116, 97, 116, 101]⟩, .int .i64 0, .int .i64 1048576, .int .i64 1048576, .int .i64 160, .string ⟨#[101, 112, 115]⟩, .int .i64 0, .int .i64 1099511627776, .int .i64 0, .int .i64 171, .string ⟨#[108, 105, 109, 105, 116]⟩, .int .i64 0, .int .i64 10000, .int .i64 100, .int .i64 180]) ∧ Kept w w' := by
  obtain ⟨X, eX⟩ : ∃ X : Array Value, X = #[.string ⟨#[98, 117, 100, 103, 101, 116]⟩, .int .i64 1200, .int .i64 16777216, .int .i64 4096, .int .i64 100, .string ⟨#[102, 97, 110]⟩, .int .i64 2, .int .i64 64, .int .i64 8, .int .i64 110, .string ⟨#[115, 116, 97, 116, 101]⟩, .int .i64 0, .int .i64 1048576, .int .i64 1048576, .int .i64 160, .string ⟨#[101, 112, 115]⟩, .int .i64 0, .int .i64 1099511627776, .int .i64 0, .int .i64 171, .string ⟨#[108, 105, 109, 105, 116]⟩, .int .i64 0, .int .i64 10000, .int .i64 100, .int .i64 180] := ⟨_, rfl⟩
  rw [← eX]
  have hI : (Tryd.prog.info? 47).map (·.size) = some X.size := by rw [eX]; kernel_rfl
  have hO : X.all (·.oneCell') = true := by rw [eX]; kernel_rfl
  go_enter Tryd.func18, Tryd.ntmps18
  go_upto_region 1 with fail
  refine wp_region_lit ?_
  refine wpList_val (.agg #[.string ⟨#[98, 117, 100, 103, 101, 116]⟩, .int .i64 1200, .int .i64 16777216, .int .i64 4096, .int .i64 100]) rfl (by kernel_rfl) ?_
  refine wpList_val (.agg #[.string ⟨#[102, 97, 110]⟩, .int .i64 2, .int .i64 64, .int .i64 8, .int .i64 110]) rfl (by kernel_rfl) ?_
  refine wpList_val (.agg #[.string ⟨#[115, 116, 97, 116, 101]⟩, .int .i64 0, .int .i64 1048576, .int .i64 1048576, .int .i64 160]) rfl (by kernel_rfl) ?_
  refine wpList_val (.agg #[.string ⟨#[101, 112, 115]⟩, .int .i64 0, .int .i64 1099511627776, .int .i64 0, .int .i64 171]) rfl (by kernel_rfl) ?_
  refine wpList_val (.agg #[.string ⟨#[108, 105, 109, 105, 116]⟩, .int .i64 0, .int .i64 10000, .int .i64 100, .int .i64 180]) rfl (by kernel_rfl) ?_
  refine wpList_val (.agg X) rfl (by rw [eX]; kernel_rfl) ?_
  refine wpList_store_new rfl 47 (.tmp 0) (.tmp 6) rfl _ X rfl rfl hI (by rw [eX]; rfl) hO ?_
  clear eX
  go_wp2_with fail
  refine bodyPost_ret (v := .agg X) (results_cN rfl rfl (run_loadVar_new _ _ _ _ _ Tryd.underlying47 hI)) rfl ⟨rfl, (Same.refl _ _).alloc _⟩
theorem numbersOf_any (a b c d e : Int) (w : World) : Calls Tryd.prog 17 #[.agg #[.int .i64 a, .int .i64 b, .int .i64 c, .int .i64 d, .int .i64 e]] w fun r w' => r = .returned (.agg #[.int .i64 a, .int .i64 b, .int .i64 c, .int .i64 d, .int .i64 e]) ∧ Kept w w' := by
  go_enter Tryd.func17, Tryd.ntmps17
  go_wp2_with fail
  refine bodyPost_ret (v := .agg #[.int .i64 a, .int .i64 b, .int .i64 c, .int .i64 d, .int .i64 e]) (results_cN rfl rfl ?_) rfl ⟨rfl, ((Same.refl _ _).alloc _).alloc _⟩
  go_simp
theorem configOf_any (a b c d e : Int) (w : World) : Calls Tryd.prog 23 #[.agg #[.int .i64 a, .int .i64 b, .int .i64 c, .int .i64 d, .int .i64 e]] w fun r w' => r = .returned (.agg #[.int .i64 a, .int .i64 b, .int .i64 c, .int .i64 d, .int .i64 e]) ∧ Kept w w' := by
  go_enter Tryd.func23, Tryd.ntmps23
  go_wp2_with fail
  refine bodyPost_ret (v := .agg #[.int .i64 a, .int .i64 b, .int .i64 c, .int .i64 d, .int .i64 e]) (results_cN rfl rfl ?_) rfl ⟨rfl, ((Same.refl _ _).alloc _).alloc _⟩
  go_simp
/-- The settings, one by one. -/
theorem stg_idx (w : World) (X : Value) (hX : X = .agg #[.string ⟨#[98, 117, 100, 103, 101, 116]⟩, .int .i64 1200, .int .i64 16777216, .int .i64 4096, .int .i64 100, .string ⟨#[102, 97, 110]⟩, .int .i64 2, .int .i64 64, .int .i64 8, .int .i64 110, .string ⟨#[115, 116, 97, 116, 101]⟩, .int .i64 0, .int .i64 1048576, .int .i64 1048576, .int .i64 160, .string ⟨#[101, 112, 115]⟩, .int .i64 0, .int .i64 1099511627776, .int .i64 0, .int .i64 171, .string ⟨#[108, 105, 109, 105, 116]⟩, .int .i64 0, .int .i64 10000, .int .i64 100, .int .i64 180]) :
    (Instr.index 47 X (.int .i64 0)).run Tryd.prog w = .ok (.agg #[.string ⟨#[98, 117, 100, 103, 101, 116]⟩, .int .i64 1200, .int .i64 16777216, .int .i64 4096, .int .i64 100]) w ∧
    (Instr.index 47 X (.int .i64 1)).run Tryd.prog w = .ok (.agg #[.string ⟨#[102, 97, 110]⟩, .int .i64 2, .int .i64 64, .int .i64 8, .int .i64 110]) w ∧
    (Instr.index 47 X (.int .i64 2)).run Tryd.prog w = .ok (.agg #[.string ⟨#[115, 116, 97, 116, 101]⟩, .int .i64 0, .int .i64 1048576, .int .i64 1048576, .int .i64 160]) w ∧
    (Instr.index 47 X (.int .i64 3)).run Tryd.prog w = .ok (.agg #[.string ⟨#[101, 112, 115]⟩, .int .i64 0, .int .i64 1099511627776, .int .i64 0, .int .i64 171]) w ∧
    (Instr.index 47 X (.int .i64 4)).run Tryd.prog w = .ok (.agg #[.string ⟨#[108, 105, 109, 105, 116]⟩, .int .i64 0, .int .i64 10000, .int .i64 100, .int .i64 180]) w := by
  subst hX
  exact ⟨by kernel_rfl, by kernel_rfl, by kernel_rfl, by kernel_rfl, by kernel_rfl⟩
/-- The settings as a value that is not looked into. -/
def StgV (X : Value) : Prop := X = .agg #[.string ⟨#[98, 117, 100, 103, 101, 116]⟩, .int .i64 1200, .int .i64 16777216, .int .i64 4096, .int .i64 100, .string ⟨#[102, 97, 110]⟩, .int .i64 2, .int .i64 64, .int .i64 8, .int .i64 110, .string ⟨#[115, 116, 97, 116, 101]⟩, .int .i64 0, .int .i64 1048576, .int .i64 1048576, .int .i64 160, .string ⟨#[101, 112, 115]⟩, .int .i64 0, .int .i64 1099511627776, .int .i64 0, .int .i64 171, .string ⟨#[108, 105, 109, 105, 116]⟩, .int .i64 0, .int .i64 10000, .int .i64 100, .int .i64 180]
theorem settings_o (w : World) : Calls Tryd.prog 18 #[] w fun e w' => ∃ X, e = .returned X ∧ StgV X ∧ Kept w w' := Calls.mono (settings_any w) fun _ _ ⟨h1, h2⟩ => ⟨_, h1, rfl, h2⟩

def us : Nat → Array Value
  | 0 => #[.int .i64 0, .int .i64 0, .int .i64 0, .int .i64 0, .int .i64 0]
  | 1 => #[.int .i64 4096, .int .i64 0, .int .i64 0, .int .i64 0, .int .i64 0]
  | 2 => #[.int .i64 4096, .int .i64 8, .int .i64 0, .int .i64 0, .int .i64 0]
  | 3 => #[.int .i64 4096, .int .i64 8, .int .i64 1048576, .int .i64 0, .int .i64 0]
  | 4 => #[.int .i64 4096, .int .i64 8, .int .i64 1048576, .int .i64 0, .int .i64 0]
  | _ => #[.int .i64 4096, .int .i64 8, .int .i64 1048576, .int .i64 0, .int .i64 100]
set_option maxRecDepth 100000 in
set_option maxHeartbeats 1600000 in
theorem usualNumbers_any (w : World) : Calls Tryd.prog 25 #[] w fun r w' => r = .returned (.agg #[.int .i64 4096, .int .i64 8, .int .i64 1048576, .int .i64 0, .int .i64 100]) ∧ Kept w w' := by
  have HS : Hid (∀ w, _) := settings_o
  go_enter Tryd.func25, Tryd.ntmps25
  go_wp2_with fail
  refine Calls.mono (HS.out _) ?_
  rintro e w1 ⟨X, rfl, hX, k1⟩
  have HX : Hid (StgV X) := hX
  have H0 : Hid (w1.heap[w.heap.size]? = some (.cells (us 0) 43 (0, 0)) ∧ w1.heap[w.heap.size + 1]? = some (.cells (us 0) 43 (0, 0)) ∧ Kept w w1) := by
    refine ⟨(k1.block _ (by simp; omega) (fun e => e)).trans ?_, (k1.block _ (by simp) (fun e => e)).trans ?_, ((Same.refl _ w).alloc _).alloc _ |>.trans' k1⟩
    · rw [heap_old _ _ (by simp)]; exact heap_new _ _
    · have := heap_new (w.alloc (.cells (us 0) 43)) (.cells (us 0) 43)
      rw [World.size_alloc] at this
      exact this
  clear k1 hX
  go_wp2_with fail
  go_loopw [5] (fun i wr => ∃ k : Nat, i = .int .i64 (k : Int) ∧ k ≤ 5 ∧ wr.heap[w.heap.size]? = some (.cells (us 0) 43 (0, 0)) ∧ wr.heap[w.heap.size + 1]? = some (.cells (us k) 43 (0, 0)) ∧ Kept w wr) (fun i _ => 5 - (intOf i).toNat)
  case atStart => exact ⟨0, rfl, by omega, H0.out⟩
  case round =>
    obtain ⟨k, rfl, hk, h1, h2, h3⟩ := hrel
    rename World => W
    have H1 : Hid (W.heap[w.heap.size]? = some (.cells (us 0) 43 (0, 0)) ∧ Kept w W) := ⟨h1, h3⟩
    have H2 : Hid (W.heap[w.heap.size + 1]? = some (.cells (us k) 43 (0, 0))) := h2
    have hb := lt_of_heap h2
    have hc : k = 0 ∨ k = 1 ∨ k = 2 ∨ k = 3 ∨ k = 4 ∨ k = 5 := by omega
    rcases hc with rfl | rfl | rfl | rfl | rfl | rfl
    · have hx := (stg_idx W X HX.out).1
      have c0 : W.cell? ⟨w.heap.size + 1, 0, none⟩ = some (.int .i64 0) := cell_of h2 0
      have f0 := frozen_of h2 0
      have ST : Hid _ := setCell_at h2 0 (.int .i64 4096)
      have SS : Hid (Same (fun k => k = w.heap.size + 1) W (W.setCell ⟨w.heap.size + 1, 0, none⟩ (.int .i64 4096))) := Same.setCell (Same.refl (fun k => k = w.heap.size + 1) W) _ (.inr rfl) _
      clear h1 h2 h3
      go_wp2_with fail
      go_roundw
      case rel =>
        have hz := lt_of_heap H1.out.1
        refine ⟨1, rfl, by omega, ?_, ?_, ?_⟩
        · rw [heap_old _ _ (Nat.lt_of_lt_of_le hz SS.out.size)]
          exact (SS.out.block _ hz (by omega)).trans H1.out.1
        · rw [heap_old _ _ (Nat.lt_of_lt_of_le hb SS.out.size)]
          exact ST.out
        · exact (Same.trans H1.out.2 SS.out (fun i hi e => by omega)).alloc _
      case measure => simp [intOf]
    · have hx := (stg_idx W X HX.out).2.1
      have c0 : W.cell? ⟨w.heap.size + 1, 1, none⟩ = some (.int .i64 0) := cell_of h2 1
      have f0 := frozen_of h2 1
      have ST : Hid _ := setCell_at h2 1 (.int .i64 8)
      have SS : Hid (Same (fun k => k = w.heap.size + 1) W (W.setCell ⟨w.heap.size + 1, 1, none⟩ (.int .i64 8))) := Same.setCell (Same.refl (fun k => k = w.heap.size + 1) W) _ (.inr rfl) _
      clear h1 h2 h3
      go_wp2_with fail
      go_roundw
      case rel =>
        have hz := lt_of_heap H1.out.1
        refine ⟨2, rfl, by omega, ?_, ?_, ?_⟩
        · rw [heap_old _ _ (Nat.lt_of_lt_of_le hz SS.out.size)]
          exact (SS.out.block _ hz (by omega)).trans H1.out.1
        · rw [heap_old _ _ (Nat.lt_of_lt_of_le hb SS.out.size)]
          exact ST.out
        · exact (Same.trans H1.out.2 SS.out (fun i hi e => by omega)).alloc _
      case measure => simp [intOf]
    · have hx := (stg_idx W X HX.out).2.2.1
      have c0 : W.cell? ⟨w.heap.size + 1, 2, none⟩ = some (.int .i64 0) := cell_of h2 2
      have f0 := frozen_of h2 2
      have ST : Hid _ := setCell_at h2 2 (.int .i64 1048576)
      have SS : Hid (Same (fun k => k = w.heap.size + 1) W (W.setCell ⟨w.heap.size + 1, 2, none⟩ (.int .i64 1048576))) := Same.setCell (Same.refl (fun k => k = w.heap.size + 1) W) _ (.inr rfl) _
      clear h1 h2 h3
      go_wp2_with fail
      go_roundw
      case rel =>
        have hz := lt_of_heap H1.out.1
        refine ⟨3, rfl, by omega, ?_, ?_, ?_⟩
        · rw [heap_old _ _ (Nat.lt_of_lt_of_le hz SS.out.size)]
          exact (SS.out.block _ hz (by omega)).trans H1.out.1
        · rw [heap_old _ _ (Nat.lt_of_lt_of_le hb SS.out.size)]
          exact ST.out
        · exact (Same.trans H1.out.2 SS.out (fun i hi e => by omega)).alloc _
      case measure => simp [intOf]
    · have hx := (stg_idx W X HX.out).2.2.2.1
      have c0 : W.cell? ⟨w.heap.size + 1, 3, none⟩ = some (.int .i64 0) := cell_of h2 3
      have f0 := frozen_of h2 3
      have ST : Hid _ := setCell_at h2 3 (.int .i64 0)
      have SS : Hid (Same (fun k => k = w.heap.size + 1) W (W.setCell ⟨w.heap.size + 1, 3, none⟩ (.int .i64 0))) := Same.setCell (Same.refl (fun k => k = w.heap.size + 1) W) _ (.inr rfl) _
      clear h1 h2 h3
      go_wp2_with fail
      go_roundw
      case rel =>
        have hz := lt_of_heap H1.out.1
        refine ⟨4, rfl, by omega, ?_, ?_, ?_⟩
        · rw [heap_old _ _ (Nat.lt_of_lt_of_le hz SS.out.size)]
          exact (SS.out.block _ hz (by omega)).trans H1.out.1
        · rw [heap_old _ _ (Nat.lt_of_lt_of_le hb SS.out.size)]
          exact ST.out
        · exact (Same.trans H1.out.2 SS.out (fun i hi e => by omega)).alloc _
      case measure => simp [intOf]
    · have hx := (stg_idx W X HX.out).2.2.2.2
      have c0 : W.cell? ⟨w.heap.size + 1, 4, none⟩ = some (.int .i64 0) := cell_of h2 4
      have f0 := frozen_of h2 4
      have ST : Hid _ := setCell_at h2 4 (.int .i64 100)
      have SS : Hid (Same (fun k => k = w.heap.size + 1) W (W.setCell ⟨w.heap.size + 1, 4, none⟩ (.int .i64 100))) := Same.setCell (Same.refl (fun k => k = w.heap.size + 1) W) _ (.inr rfl) _
      clear h1 h2 h3
      go_wp2_with fail
      go_roundw
      case rel =>
        have hz := lt_of_heap H1.out.1
        refine ⟨5, rfl, by omega, ?_, ?_, ?_⟩
        · rw [heap_old _ _ (Nat.lt_of_lt_of_le hz SS.out.size)]
          exact (SS.out.block _ hz (by omega)).trans H1.out.1
        · rw [heap_old _ _ (Nat.lt_of_lt_of_le hb SS.out.size)]
          exact ST.out
        · exact (Same.trans H1.out.2 SS.out (fun i hi e => by omega)).alloc _
      case measure => simp [intOf]
    · have hz := lt_of_heap h1
      have c0 : W.cell? ⟨w.heap.size + 1, 0, none⟩ = some (.int .i64 4096) := cell_of h2 0
      have c1 : W.cell? ⟨w.heap.size + 1, 1, none⟩ = some (.int .i64 8) := cell_of h2 1
      have c2 : W.cell? ⟨w.heap.size + 1, 2, none⟩ = some (.int .i64 1048576) := cell_of h2 2
      have c3 : W.cell? ⟨w.heap.size + 1, 3, none⟩ = some (.int .i64 0) := cell_of h2 3
      have c4 : W.cell? ⟨w.heap.size + 1, 4, none⟩ = some (.int .i64 100) := cell_of h2 4
      have d0 : W.cell? ⟨w.heap.size, 0, none⟩ = some (.int .i64 0) := cell_of h1 0
      have d1 : W.cell? ⟨w.heap.size, 1, none⟩ = some (.int .i64 0) := cell_of h1 1
      have d2 : W.cell? ⟨w.heap.size, 2, none⟩ = some (.int .i64 0) := cell_of h1 2
      have d3 : W.cell? ⟨w.heap.size, 3, none⟩ = some (.int .i64 0) := cell_of h1 3
      have d4 : W.cell? ⟨w.heap.size, 4, none⟩ = some (.int .i64 0) := cell_of h1 4
      have f0 := frozen_of h1 0
      have f1 := frozen_of h1 1
      have f2 := frozen_of h1 2
      have f3 := frozen_of h1 3
      have f4 := frozen_of h1 4
      clear h1 h2 h3 H2
      go_wp2_with fail
      refine bodyPost_ret (v := .agg #[.int .i64 4096, .int .i64 8, .int .i64 1048576, .int .i64 0, .int .i64 100]) (results_cN rfl rfl ?_) rfl ⟨rfl, ?_⟩
      · go_simp
      · exact ((((H1.out.2.setCell _ (.inl (Nat.le_refl _)) _).setCell _ (.inl (Nat.le_refl _)) _).setCell _ (.inl (Nat.le_refl _)) _).setCell _ (.inl (Nat.le_refl _)) _).setCell _ (.inl (Nat.le_refl _)) _
end Go.Proofs.YtolooejcgdknnaaDoor
