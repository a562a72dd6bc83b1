/- What is proved: the asking step of a script: the stop tells what the document's own tree holds of it; nothing turns but the lock. -/
import Derived.Test.YtkkkndbfokjikabStepA
namespace Go.Proofs.Ytkkkndbfokjikab
open Go.Conc Go.RowKit

set_option maxRecDepth 100000 in
set_option maxHeartbeats 1600000 in
theorem step_told {w : World} {T : Tr} {lg lcap rb rg rcap : Nat} (G : GH w T lg lcap rb rg rcap) (i : Nat) (N : Int) (hi : i < T.n) :
    Calls Try.prog 7 #[.slice (some ⟨lg, 0, none⟩) T.n lcap, .pointer (some ⟨rb, 0, none⟩), .agg #[.int .i64 4, .int .i64 i, .int .i64 N]] w (SP w T lg rb rg) := by
  have hnot : ∀ (x : Bool) (w : World), (Op.unary .not (.bool x)).run Try.prog w = .ok (.bool (!x)) w := fun _ _ => rfl
  obtain ⟨G1, S1⟩ := G.box (.cells #[.int .i64 4, .int .i64 i, .int .i64 N] 37)
  have HH : Hid _ := rhas_yes G1.r i hi
  have hin : (i : Int) < (T.n : Int) := by omega
  have tin : decide ((T.n : Int) ≤ (i : Int)) = false := by simp only [decide_eq_false_iff_not]; omega
  have hat := G1.at hi
  have hk : ∀ w2, TS T (w.alloc (.cells #[.int .i64 4, .int .i64 i, .int .i64 N] 37)) w2 → w2.cell? ⟨rb, 0, none⟩ = some (.slice (some ⟨rg, 0, none⟩) T.n rcap) ∧ w2.cell? ⟨w.heap.size, 1, none⟩ = some (.int .i64 i) ∧ w2.cell? ⟨rg, i * 3, none⟩ = some (.int .i64 (pz (T.par i))) ∧ w2.cell? ⟨rg, i * 3 + 1, none⟩ = some (.int .i64 (T.left i)) ∧ w2.cell? ⟨rg, i * 3 + 2, none⟩ = some (.int .i64 (T.cause i)) := by
    intro w2 t
    have r2 := G1.ref t.2
    have hb := G.copy t.2 fun k hk => .inl hk
    exact ⟨r2.rcell.1, (cell_of hb 1).trans rfl, (r2.cells hi).1, (r2.cells hi).2.1, (r2.cells hi).2.2.1⟩
  have HG : Hid _ := G1
  have HS : Hid _ := S1
  have HC : Hid (∀ w', TS T (w.alloc (.cells #[.int .i64 4, .int .i64 i, .int .i64 N] 37)) w' → Calls Try.prog 8 #[.pointer (some ⟨T.blk i, 0, none⟩), .agg #[.int .i64 (pz (T.par i)), .int .i64 (T.left i), .int .i64 (T.cause i)]] w' fun e w2 => e = .returned (.bool true) ∧ TS T (w.alloc (.cells #[.int .i64 4, .int .i64 i, .int .i64 N] 37)) w2 ∧ w2.cell? ⟨rb, 0, none⟩ = some (.slice (some ⟨rg, 0, none⟩) T.n rcap) ∧ w2.cell? ⟨w.heap.size, 1, none⟩ = some (.int .i64 i) ∧ w2.cell? ⟨rg, i * 3, none⟩ = some (.int .i64 (pz (T.par i))) ∧ w2.cell? ⟨rg, i * 3 + 1, none⟩ = some (.int .i64 (T.left i)) ∧ w2.cell? ⟨rg, i * 3 + 2, none⟩ = some (.int .i64 (T.cause i))) :=
    fun w' t => (told_true w' t.1 i hi (pz (T.par i))).mono fun e w2 ⟨he, h2, s2⟩ => ⟨he, ⟨h2, t.2.trans' s2⟩, hk w2 ⟨h2, t.2.trans' s2⟩⟩
  have t0 : TS T (w.alloc (.cells #[.int .i64 4, .int .i64 i, .int .i64 N] 37)) (w.alloc (.cells #[.int .i64 4, .int .i64 i, .int .i64 N] 37)).drew := TS.drew ⟨G1.h, Same.refl _ _⟩
  obtain ⟨q0, q1, q2, q3, q4⟩ := hk (w.alloc (.cells #[.int .i64 4, .int .i64 i, .int .i64 N] 37)) ⟨G1.h, Same.refl _ _⟩
  clear hk
  clear G G1 S1
  go_enter Try.func7, Try.ntmps7
  go_wp2_with (go_at_call 14; refine Calls.mono HH.out ?_; rintro e w1 ⟨rfl, hw1⟩; subst w1)
  go_region_held3 (fun w' => TS T (w.alloc (.cells #[.int .i64 4, .int .i64 i, .int .i64 N] 37)) w' ∧ w'.cell? ⟨rb, 0, none⟩ = some (.slice (some ⟨rg, 0, none⟩) T.n rcap) ∧ w'.cell? ⟨w.heap.size, 1, none⟩ = some (.int .i64 i) ∧ w'.cell? ⟨rg, i * 3, none⟩ = some (.int .i64 (pz (T.par i))) ∧ w'.cell? ⟨rg, i * 3 + 1, none⟩ = some (.int .i64 (T.left i)) ∧ w'.cell? ⟨rg, i * 3 + 2, none⟩ = some (.int .i64 (T.cause i)))
    (first | (refine ⟨?_, ?_, ?_, ?_, ?_, ?_⟩ <;> assumption) | (refine ⟨by assumption, ?_, ?_, ?_, ?_, ?_⟩ <;> go_keep))
    (first | (go_at_call 8; refine Calls.mono (HC.out _ (by assumption)) ?_; rintro e w2 ⟨rfl, k1, k2, k3, k4, k5, k6⟩))
  all_goals
    go_wp2_with fail
    go_ret2
    obtain ⟨y1, y2⟩ := HG.out.both (L := T.left) (C := T.cause) k1.1 k1.2 (HG.out.ref k1.2) (Same.refl _ _) HG.out.rng HG.out.cl
    exact ⟨T, lg, lcap, rg, rcap, rfl, y1, fun k hk => .inl hk, HS.out.trans' y2⟩
end Go.Proofs.Ytkkkndbfokjikab
