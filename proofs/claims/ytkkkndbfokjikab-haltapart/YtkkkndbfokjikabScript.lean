/- What is proved: small laws on a script in memory, and on the group behind the two News; no condition but that the number of beats is lawful. -/
import Derived.Test.YtkkkndbfokjikabStepC
namespace Go.Proofs.Ytkkkndbfokjikab
open Go.Conc Go.RowKit

/-- The script's cells. -/
def Script (w : World) (sa : Option Addr) (len : Nat) (K A N : Nat → Int) : Prop :=
  ∀ i, i < len → ∃ b off, sa = some ⟨b, off, none⟩ ∧ b < w.heap.size ∧ w.cell? ⟨b, off + i * 3, none⟩ = some (.int .i64 (K i)) ∧ w.cell? ⟨b, off + i * 3 + 1, none⟩ = some (.int .i64 (A i)) ∧ w.cell? ⟨b, off + i * 3 + 2, none⟩ = some (.int .i64 (N i))

theorem script_kept {w w' : World} {sa : Option Addr} {len : Nat} {K A N : Nat → Int} (h : Script w sa len K A N) (hb : Below w.heap.size w w') : Script w' sa len K A N := fun i hi => by
  obtain ⟨b, off, rfl, h0, h1, h2, h3⟩ := h i hi
  exact ⟨b, off, rfl, Nat.lt_of_lt_of_le h0 hb.size, (hb.cell h0).trans h1, (hb.cell h0).trans h2, (hb.cell h0).trans h3⟩

/-- The group behind the two News and the list of the one. -/
theorem seed_group {w w1 w3 : World} {b : Int} {sv : Value} (b0 : 0 ≤ b) (b1 : b ≤ 1099511627776) (h1 : Holds 0 w1 (seedTr w.heap.size sv b)) (f1 : ∀ k, Foot (seedTr w.heap.size sv b) k → w.heap.size ≤ k) (s1 : Same (fun _ => False) w w1)
    (r3 : RefH w3 w1.heap.size (w1.heap.size + 1) 1 1 (fun _ => none) (fun _ => b) (fun _ => 0)) (s3 : Same (fun k => k = w1.heap.size) (w1.alloc (.cells #[.slice none 0 0] 31)) w3) :
    GH (w3.alloc (.cells #[.pointer (some ⟨w.heap.size + 2, 0, none⟩)] 24)) (seedTr w.heap.size sv b) w3.heap.size 1 w1.heap.size (w1.heap.size + 1) 1 ∧
      Below w.heap.size w (w3.alloc (.cells #[.pointer (some ⟨w.heap.size + 2, 0, none⟩)] 24)) ∧ (∀ k, FootG (seedTr w.heap.size sv b) w3.heap.size w1.heap.size (w1.heap.size + 1) k → w.heap.size ≤ k) := by
  have z1 := s1.size
  have z3 := s3.size
  simp only [World.size_alloc] at z3
  have hl1 : ∀ k, Foot (seedTr w.heap.size sv b) k → k < w1.heap.size := fun k hk => h1.lt hk
  have h2 := h1.kept ((Same.refl (fun _ => False) w1).alloc (.cells #[.slice none 0 0] 31)) fun _ _ h => h
  have h3 := h2.kept s3 fun k hk e => by have := hl1 k hk; omega
  have h4 := h3.kept ((Same.refl (fun _ => False) w3).alloc (.cells #[.pointer (some ⟨w.heap.size + 2, 0, none⟩)] 24)) fun _ _ h => h
  refine ⟨⟨h4, fun k _ => ⟨b0, b1⟩, fun k p _ hp => (by cases hp), Nat.le_refl _, (by show 1 ≤ 256; omega), fun k k0 hk => (by have hk : k < 1 := hk; omega), row_one w3 _ _, r3.kept ((Same.refl (fun _ => False) w3).alloc _) (fun h => h) (fun h => h), fun e => ?_⟩, ?_, ?_⟩
  · have := hl1 _ (.inr (.inl e)); omega
  · have z := s1.below (B := w.heap.size) (Nat.le_refl _) (fun _ h => h.elim)
    have y := (z.alloc z1 (.cells #[.slice none 0 0] 31)).trans (s3.below (B := w.heap.size) (by simp; omega) fun k hk => by omega)
    exact y.alloc (by omega) _
  · rintro k (hk | rfl | rfl | rfl)
    · exact f1 k hk
    · omega
    · omega
    · omega

end Go.Proofs.Ytkkkndbfokjikab
