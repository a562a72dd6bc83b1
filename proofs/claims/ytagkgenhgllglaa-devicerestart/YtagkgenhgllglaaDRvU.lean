/- What is proved: Restart answers as New over the device's own sizes and input, the given image and no faults; the device lies in memory. -/
import Derived.Test.YtagkgenhgllglaaDOpen
namespace Go.Proofs.Ytagkgenhgllglaa
open Go.RowKit

theorem chk_image {B S : Int} {n k : Nat} {F : List Fl} (h : chk B S n k F = 0) (ns : Nat) : chk B S n ns [] = if B * S < ns then 32 else 0 := by
  unfold chk at h ⊢
  split at h
  · exact absurd h (by decide)
  · split at h
    · exact absurd h (by decide)
    · rename_i h1 h2
      rw [if_neg h1, if_neg h2]
      simp

set_option maxRecDepth 100000 in
set_option maxHeartbeats 800000 in
theorem restart_no {w : World} {m : M} {p : Pl} (h : Dv w m p) (a : Option Addr) (ns c : Nat) (hns : ns ≤ 140737488355328) (hc : chk m.B m.S m.inp.length ns [] = 32) :
    Calls Try.prog 9 #[.pointer (some ⟨p.db, 0, none⟩), .slice a ns c] w fun e w' => e = .returned (.tuple #[.pointer none, .int .i64 32]) ∧ Kept w w' := by
  have HX : Hid (∀ W1, Kept w W1 → Kept w W1 ∧ W1.cell? ⟨p.db, 0, none⟩ = some (.int .i64 m.B) ∧ W1.cell? ⟨p.db, 1, none⟩ = some (.int .i64 m.S) ∧ W1.cell? ⟨p.db, 2, none⟩ = some (.slice p.ia m.inp.length p.icap)) := fun W1 k => by
    obtain ⟨c1, c2, c3, -⟩ := (h.kept0 k).cells
    exact ⟨k, c1, c2, c3⟩
  have HN : Hid (∀ W1, Calls Try.prog 12 #[.agg #[.int .i64 m.B, .int .i64 m.S], .slice p.ia m.inp.length p.icap, .slice a ns c, .slice none 0 0] W1 fun e w' => e = .returned (.tuple #[.pointer none, .int .i64 32]) ∧ Kept W1 w') := fun W1 => by
    have := new_no m.B m.S p.ia a none m.inp.length p.icap ns c 0 [] W1 (FaultsAt.nil _ _) (by decide) (by have := h.good.inp; omega) (by omega) (by rw [hc]; decide)
    rw [hc] at this
    exact this
  clear h hc hns
  go_enter Try.func9, Try.ntmps9
  go_upto_region 1 with fail
  go_region_held3 (fun w' => Kept w w' ∧ w'.cell? ⟨p.db, 0, none⟩ = some (.int .i64 m.B) ∧ w'.cell? ⟨p.db, 1, none⟩ = some (.int .i64 m.S) ∧ w'.cell? ⟨p.db, 2, none⟩ = some (.slice p.ia m.inp.length p.icap))
    (exact HX.out _ (by (repeat (first | exact Same.refl _ _ | apply Same.alloc | apply Same.drew | refine Same.trans' ?_ kn)); done))
    (first | (go_at_call 12; refine Calls.mono (HN.out _) ?_; rintro e w6 ⟨rfl, kn⟩))
  all_goals
    go_wp2_with fail
    go_ret2
    exact ⟨rfl, (by (repeat (first | exact Same.refl _ _ | apply Same.alloc | apply Same.drew | refine Same.trans' ?_ kn)); done)⟩

set_option maxRecDepth 100000 in
set_option maxHeartbeats 800000 in
theorem restart_yes {w : World} {m : M} {p : Pl} (h : Dv w m p) (a : Option Addr) (c : Nat) (ls : List Int) (hls : BytesAt w a ls) (hc : chk m.B m.S m.inp.length ls.length [] = 0) :
    Calls Try.prog 9 #[.pointer (some ⟨p.db, 0, none⟩), .slice a ls.length c] w fun e w' => ∃ q, e = .returned (.tuple #[.pointer (some ⟨q.db, 0, none⟩), .int .i64 0]) ∧ Dv w' (M.made m.B m.S m.inp ls []) q ∧ (∀ k, Foot (M.made m.B m.S m.inp ls []) q k → w.heap.size ≤ k) ∧ Kept w w' := by
  have HX : Hid (∀ W1, Kept w W1 → Kept w W1 ∧ W1.cell? ⟨p.db, 0, none⟩ = some (.int .i64 m.B) ∧ W1.cell? ⟨p.db, 1, none⟩ = some (.int .i64 m.S) ∧ W1.cell? ⟨p.db, 2, none⟩ = some (.slice p.ia m.inp.length p.icap)) := fun W1 k => by
    obtain ⟨c1, c2, c3, -⟩ := (h.kept0 k).cells
    exact ⟨k, c1, c2, c3⟩
  have HN : Hid (∀ W1, Kept w W1 → Calls Try.prog 12 #[.agg #[.int .i64 m.B, .int .i64 m.S], .slice p.ia m.inp.length p.icap, .slice a ls.length c, .slice none 0 0] W1 fun e w' => ∃ q, e = .returned (.tuple #[.pointer (some ⟨q.db, 0, none⟩), .int .i64 0]) ∧ Dv w' (M.made m.B m.S m.inp ls []) q ∧ (∀ k, Foot (M.made m.B m.S m.inp ls []) q k → W1.heap.size ≤ k) ∧ Kept W1 w') := fun W1 k =>
    new_yes m.B m.S p.ia a none p.icap c 0 m.inp ls [] W1 (h.kept0 k).inp (hls.kept k (fun _ _ h => h)) (FaultsAt.nil _ _) h.inil (fun _ => ⟨rfl, rfl⟩) hc
  clear h hc hls
  go_enter Try.func9, Try.ntmps9
  go_upto_region 1 with fail
  go_region_held3 (fun w' => Kept w w' ∧ w'.cell? ⟨p.db, 0, none⟩ = some (.int .i64 m.B) ∧ w'.cell? ⟨p.db, 1, none⟩ = some (.int .i64 m.S) ∧ w'.cell? ⟨p.db, 2, none⟩ = some (.slice p.ia m.inp.length p.icap))
    (exact HX.out _ (by (repeat (first | exact Same.refl _ _ | apply Same.alloc | apply Same.drew | refine Same.trans' ?_ kn)); done))
    (first | (go_at_call 12; refine Calls.mono (HN.out _ (by (repeat (first | exact Same.refl _ _ | apply Same.alloc | apply Same.drew | refine Same.trans' ?_ kn)); done)) ?_; rintro e w6 ⟨q, rfl, dn, fn, kn⟩))
  all_goals
    go_wp2_with fail
    go_ret2
    exact ⟨q, rfl, Dv.kept0 dn (by (repeat (first | exact Same.refl _ _ | apply Same.alloc | apply Same.drew | refine Same.trans' ?_ kn)); done), fun k hk => Nat.le_trans (Same.size (S := fun _ => False) (by (repeat (first | exact Same.refl _ _ | apply Same.alloc | apply Same.drew | refine Same.trans' ?_ kn)); done)) (fn k hk), (by (repeat (first | exact Same.refl _ _ | apply Same.alloc | apply Same.drew | refine Same.trans' ?_ kn)); done)⟩
end Go.Proofs.Ytagkgenhgllglaa
