/- What is proved: compareNumbered tells how two violations with their numbers stand to one another, for every two; no condition. -/
import Derived.Test.YtnfkjblhnpnaeaaVCmp
namespace Go.Proofs.Ytnfkjblhnpnaeaa
open Go.RowKit

set_option maxRecDepth 100000 in
set_option maxHeartbeats 3200000 in
theorem cmpN18 (a b : Nb) (w : World) : Calls Try.prog 27 #[nbV a, nbV b] w fun e w' => e = .returned (.int .i64 (compN a b)) ∧ Grw w w' := by
  have HC : Hid (∀ x y W, _) := cmpC_any
  have HO : Hid (∀ (W : World) (g : Nat) (a b : Int) (ty : TypeId), W.heap[g]? = _ → _) := or_two
  have HV : Hid (∀ W, _) := fun W => compare18 a.v b.v W
  have HB1 : Hid (∀ W, Kept ((w.alloc (nbO a)).alloc (nbO b)) W → W.heap[w.heap.size]? = some (nbO a)) := fun W k => (k.block _ (by simp only [World.size_alloc]; omega) (fun e => e)).trans ((heap_old _ (nbO b) (by rw [World.size_alloc]; exact Nat.lt_succ_self _)).trans (heap_new w (nbO a)))
  have HB2 : Hid (∀ W, Kept ((w.alloc (nbO a)).alloc (nbO b)) W → W.heap[w.heap.size + 1]? = some (nbO b)) := fun W k => (k.block _ (by simp only [World.size_alloc]; omega) (fun e => e)).trans (by have q2 := heap_new (w.alloc (nbO a)) (nbO b); rwa [World.size_alloc] at q2)
  have HG : Hid (Grw w ((w.alloc (nbO a)).alloc (nbO b))) := ((Grw.refl w).alloc _).alloc _
  unfold compN
  generalize compV a.v b.v = cv at HV ⊢
  obtain ⟨⟨akd, atm, atx, aop, awi, akey, awa, aex, ago, aob, afr, att⟩, an⟩ := a
  obtain ⟨⟨bkd, btm, btx, bop, bwi, bkey, bwa, bex, bgo, bob, bfr, btt⟩, bn⟩ := b
  unfold nbV
  unfold vlV at HV
  simp only at HV HB1 HB2 HG ⊢
  go_enter Try.func27, Try.ntmps27
  go_upto_region 1 with fail
  generalize (w.alloc _).alloc _ = W at HB1 HB2 HG ⊢
  generalize w.heap.size = h at HB1 HB2 ⊢
  have HBX : Hid (∀ w3, Grw W w3 → Grw w w3 ∧ w3.cell? ⟨h, 0, none⟩ = some (.int .i64 akd) ∧ w3.cell? ⟨h, 1, none⟩ = some (.int .i64 atm) ∧ w3.cell? ⟨h, 2, none⟩ = some (.int .i64 atx) ∧ w3.cell? ⟨h, 3, none⟩ = some (.int .i64 aop) ∧ w3.cell? ⟨h, 4, none⟩ = some (.int .i64 awi) ∧ w3.cell? ⟨h, 5, none⟩ = some (.string akey) ∧ w3.cell? ⟨h, 6, none⟩ = some (.bool awa) ∧ w3.cell? ⟨h, 7, none⟩ = some (.string aex) ∧ w3.cell? ⟨h, 8, none⟩ = some (.bool ago) ∧ w3.cell? ⟨h, 9, none⟩ = some (.string aob) ∧ w3.cell? ⟨h, 10, none⟩ = some (.int .i64 afr) ∧ w3.cell? ⟨h, 11, none⟩ = some (.int .i64 att) ∧ w3.cell? ⟨h, 12, none⟩ = some (.int .i64 an) ∧ w3.cell? ⟨h + 1, 0, none⟩ = some (.int .i64 bkd) ∧ w3.cell? ⟨h + 1, 1, none⟩ = some (.int .i64 btm) ∧ w3.cell? ⟨h + 1, 2, none⟩ = some (.int .i64 btx) ∧ w3.cell? ⟨h + 1, 3, none⟩ = some (.int .i64 bop) ∧ w3.cell? ⟨h + 1, 4, none⟩ = some (.int .i64 bwi) ∧ w3.cell? ⟨h + 1, 5, none⟩ = some (.string bkey) ∧ w3.cell? ⟨h + 1, 6, none⟩ = some (.bool bwa) ∧ w3.cell? ⟨h + 1, 7, none⟩ = some (.string bex) ∧ w3.cell? ⟨h + 1, 8, none⟩ = some (.bool bgo) ∧ w3.cell? ⟨h + 1, 9, none⟩ = some (.string bob) ∧ w3.cell? ⟨h + 1, 10, none⟩ = some (.int .i64 bfr) ∧ w3.cell? ⟨h + 1, 11, none⟩ = some (.int .i64 btt) ∧ w3.cell? ⟨h + 1, 12, none⟩ = some (.int .i64 bn)) := fun w3 k3 => by
    obtain ⟨c0, c1, c2, c3, c4, c5, c6, c7, c8, c9, c10, c11, c12⟩ := nb_cells (HB1.out w3 k3.kept)
    obtain ⟨d0, d1, d2, d3, d4, d5, d6, d7, d8, d9, d10, d11, d12⟩ := nb_cells (HB2.out w3 k3.kept)
    exact ⟨HG.out.trans k3, c0, c1, c2, c3, c4, c5, c6, c7, c8, c9, c10, c11, c12, d0, d1, d2, d3, d4, d5, d6, d7, d8, d9, d10, d11, d12⟩
  obtain ⟨k, c0, c1, c2, c3, c4, c5, c6, c7, c8, c9, c10, c11, c12, d0, d1, d2, d3, d4, d5, d6, d7, d8, d9, d10, d11, d12⟩ := HBX.out W (Grw.refl W)
  clear k HB1 HB2
  go_region_held3 (fun w' => Grw w w' ∧ w'.cell? ⟨h, 0, none⟩ = some (.int .i64 akd) ∧ w'.cell? ⟨h, 1, none⟩ = some (.int .i64 atm) ∧ w'.cell? ⟨h, 2, none⟩ = some (.int .i64 atx) ∧ w'.cell? ⟨h, 3, none⟩ = some (.int .i64 aop) ∧ w'.cell? ⟨h, 4, none⟩ = some (.int .i64 awi) ∧ w'.cell? ⟨h, 5, none⟩ = some (.string akey) ∧ w'.cell? ⟨h, 6, none⟩ = some (.bool awa) ∧ w'.cell? ⟨h, 7, none⟩ = some (.string aex) ∧ w'.cell? ⟨h, 8, none⟩ = some (.bool ago) ∧ w'.cell? ⟨h, 9, none⟩ = some (.string aob) ∧ w'.cell? ⟨h, 10, none⟩ = some (.int .i64 afr) ∧ w'.cell? ⟨h, 11, none⟩ = some (.int .i64 att) ∧ w'.cell? ⟨h, 12, none⟩ = some (.int .i64 an) ∧ w'.cell? ⟨h + 1, 0, none⟩ = some (.int .i64 bkd) ∧ w'.cell? ⟨h + 1, 1, none⟩ = some (.int .i64 btm) ∧ w'.cell? ⟨h + 1, 2, none⟩ = some (.int .i64 btx) ∧ w'.cell? ⟨h + 1, 3, none⟩ = some (.int .i64 bop) ∧ w'.cell? ⟨h + 1, 4, none⟩ = some (.int .i64 bwi) ∧ w'.cell? ⟨h + 1, 5, none⟩ = some (.string bkey) ∧ w'.cell? ⟨h + 1, 6, none⟩ = some (.bool bwa) ∧ w'.cell? ⟨h + 1, 7, none⟩ = some (.string bex) ∧ w'.cell? ⟨h + 1, 8, none⟩ = some (.bool bgo) ∧ w'.cell? ⟨h + 1, 9, none⟩ = some (.string bob) ∧ w'.cell? ⟨h + 1, 10, none⟩ = some (.int .i64 bfr) ∧ w'.cell? ⟨h + 1, 11, none⟩ = some (.int .i64 btt) ∧ w'.cell? ⟨h + 1, 12, none⟩ = some (.int .i64 bn))
    (exact HBX.out _ (by (repeat (first | exact Grw.refl _ | assumption | (refine Grw.trans ?_ (by assumption)) | apply Grw.alloc | apply Grw.drew | apply Grw.drewN)); done))
    (first
    | (go_at_call 17; refine Calls.mono (HV.out _) ?_; rintro r w1 ⟨rfl, g1⟩)
    | (go_at_call 29; refine Calls.mono (HC.out _ _ _) ?_; rintro r w1 ⟨rfl, rfl⟩)
    | (go_at_call 28; refine Calls.mono (HO.out _ _ _ _ 3 (by exact heap_new _ _)) ?_; rintro r w1 ⟨rfl, rfl⟩))
  all_goals (go_wp2_with fail)
  all_goals (go_ret; exact ⟨rfl, Grw.trans HG.out (by (repeat (first | exact Grw.refl _ | (refine Grw.trans ?_ (by assumption)) | apply Grw.alloc | apply Grw.drew | apply Grw.drewN)); done)⟩)
end Go.Proofs.Ytnfkjblhnpnaeaa
