/- What is proved: commit finishes a session's active transaction as the document says, and lays its versions into the store; the machine lies in memory. -/
import Derived.Test.YtmghmacgljihcaaKFinW
import Derived.Test.YtmghmacgljihcaaKOvr
namespace Go.Proofs.Ytmghmacgljihcaa
open Go.RowKit

theorem Mi.inst {tg : Nat → Tg} {w w' : World} {mb sb vb : Nat} {lv : Value} {P : Nat → Option Nat} {L : List (TxM × Value)} {M : Mm} (h : Mi tg w mb sb vb lv P L M) {A' : List En} (hi : InsP (fun b => tg b = .sto) w vb A' w') : MiP tg w mb sb vb { M with A := A' } w' := by
  obtain ⟨F', h1, h2, h3⟩ := hi
  have hout : ∀ b, w.heap.size ≤ b → tg b = .out := fun b hb => Classical.byContradiction fun hn => by have := h.lt b hn; omega
  obtain ⟨tg', eT⟩ : ∃ tg', tg' = retag (retag tg (fun b => tg b = .sto) .out) F' .sto := ⟨_, rfl⟩
  have t1 : ∀ b, F' b → tg' b = .sto := fun b hb => by rw [eT, retag_in (X := F') hb]
  have t2 : ∀ b, tg b ≠ .out → tg b ≠ .sto → tg' b = tg b := fun b hb hb2 => by
    rw [eT, retag_no (X := F') (fun e => by
      rcases h2 b e with h9 | h9
      · exact hb2 h9
      · exact hb (hout b h9)), retag_no (X := fun b => tg b = .sto) hb2]
  have t3 : ∀ b, tg' b ≠ .out → tg b ≠ .out ∨ (F' b ∧ w.heap.size ≤ b) := fun b hb => by
    by_cases h0 : F' b
    · rcases h2 b h0 with h9 | h9
      · exact .inl (by rw [h9]; exact fun e => by cases e)
      · exact .inr ⟨h0, h9⟩
    · rw [eT, retag_no (X := F') h0] at hb
      by_cases h9 : tg b = .sto
      · rw [retag_in (X := fun b => tg b = .sto) h9] at hb
        exact absurd rfl hb
      · rw [retag_no (X := fun b => tg b = .sto) h9] at hb
        exact .inl hb
  have t4 : ∀ b, tg' b = .sto ↔ F' b := fun b => by
    refine ⟨fun e => ?_, t1 b⟩
    refine Classical.byContradiction fun h0 => ?_
    rw [eT, retag_no (X := F') h0] at e
    by_cases h9 : tg b = .sto
    · rw [retag_in (X := fun b => tg b = .sto) h9] at e
      cases e
    · rw [retag_no (X := fun b => tg b = .sto) h9] at e
      exact h9 e
  have hno : ∀ b T, tg b = T → T ≠ .sto → ¬ tg b = .sto := fun b T hT h1 e => h1 (hT.symm.trans e)
  refine ⟨tg', lv, P, L, ⟨(h3.block mb (lt_of_heap h.obj) (hno _ _ h.tm fun e => by cases e)).trans h.obj, (t2 mb (by rw [h.tm]; exact fun e => by cases e) (by rw [h.tm]; exact fun e => by cases e)).trans h.tm, ?_, (t2 sb (by rw [h.ts]; exact fun e => by cases e) (by rw [h.ts]; exact fun e => by cases e)).trans h.ts, fun j a ha => ?_, h.non, ?_, row_kept h.lg h3 fun b hb => hno b _ (h.tl b hb) (fun e => by cases e), fun b hb => (t2 b (by rw [h.tl b hb]; exact fun e => by cases e) (by rw [h.tl b hb]; exact fun e => by cases e)).trans (h.tl b hb), fun x hx => ⟨row_kept (h.lo x hx).1 h3 fun b hb => hno b _ ((h.lo x hx).2 b hb) (fun e => by cases e), fun b hb => (t2 b (by rw [(h.lo x hx).2 b hb]; exact fun e => by cases e) (by rw [(h.lo x hx).2 b hb]; exact fun e => by cases e)).trans ((h.lo x hx).2 b hb)⟩, h.ll, fun b hb => ?_⟩, fun b hb => ?_, h3.mono fun b _ hb => by rw [hb]; exact fun e => by cases e⟩
  · obtain ⟨arr, ha, hsa⟩ := h.ses
    exact ⟨arr, (h3.block sb (lt_of_heap ha) (hno _ _ h.ts fun e => by cases e)).trans ha, hsa⟩
  · obtain ⟨g, ov, tv, hp, hx⟩ := h.act j a ha
    refine ⟨g, ov, tv, hp, (hx.kept h3 fun b hb => ?_).re fun b hb => t2 b ?_ ?_⟩
    · rcases hb with hb | hb | hb <;> exact hno b _ hb fun e => by cases e
    · rcases hb with hb | hb | hb <;> rw [hb] <;> exact fun e => by cases e
    · rcases hb with hb | hb | hb <;> rw [hb] <;> exact fun e => by cases e
  · rw [show (fun b => tg' b = .sto) = F' from funext fun b => propext (t4 b)]
    exact h1
  · rcases t3 b hb with h9 | ⟨h9, -⟩
    · exact Nat.lt_of_lt_of_le (h.lt b h9) h3.size
    · exact h1.lt b h9
  · rcases t3 b hb with h9 | ⟨-, h9⟩
    · exact .inl h9
    · exact .inr h9
/-- Two steps one behind the other. -/
theorem MiP.step {tg : Nat → Tg} {w w' w'' : World} {mb sb vb : Nat} {M' M'' : Mm} (h : MiP tg w mb sb vb M' w') (hn : ∀ tg' lv' P' L', Mi tg' w' mb sb vb lv' P' L' M' → MiP tg' w' mb sb vb M'' w'') : MiP tg w mb sb vb M'' w'' := by
  obtain ⟨tg', lv', P', L', h1, h2, h3⟩ := h
  obtain ⟨tg2, lv2, P2, L2, g1, g2, g3⟩ := hn tg' lv' P' L' h1
  refine ⟨tg2, lv2, P2, L2, g1, fun b hb => ?_, h3.trans g3 fun b hb e => ?_⟩
  · rcases g2 b hb with h | h
    · exact h2 b h
    · exact .inr (Nat.le_trans h3.size h)
  · rcases h2 b e with h | h
    · exact h
    · omega
theorem MiP.start {tg : Nat → Tg} {w : World} {mb sb vb : Nat} {lv : Value} {P : Nat → Option Nat} {L : List (TxM × Value)} {M : Mm} (h : Mi tg w mb sb vb lv P L M) : MiP tg w mb sb vb M w := ⟨tg, lv, P, L, h, fun _ hb => .inl hb, Same.refl _ _⟩
/-- The box of an answer. -/
def AnB (w : World) (g : Nat) (a : An) : Prop := w.heap[g]? = some (.cells #[.bool a.found, .string a.value, .int .i64 a.status] 54 (0, 0))
theorem AnB.cells {w : World} {g : Nat} {a : An} (h : AnB w g a) : (w.cell? ⟨g, 0, none⟩ = some (.bool a.found) ∧ w.cell? ⟨g, 1, none⟩ = some (.string a.value) ∧ w.cell? ⟨g, 2, none⟩ = some (.int .i64 a.status)) ∧ g < w.heap.size ∧ w.frozen? ⟨g, 0, none⟩ = false ∧ w.frozen? ⟨g, 1, none⟩ = false ∧ w.frozen? ⟨g, 2, none⟩ = false :=
  ⟨⟨(cell_of h 0).trans rfl, (cell_of h 1).trans rfl, (cell_of h 2).trans rfl⟩, lt_of_heap h, frozen_of h 0, frozen_of h 1, frozen_of h 2⟩
theorem AnB.put {w : World} {g : Nat} {a : An} (h : AnB w g a) (x : An) : AnB (((w.setCell ⟨g, 0, none⟩ (.bool x.found)).setCell ⟨g, 1, none⟩ (.string x.value)).setCell ⟨g, 2, none⟩ (.int .i64 x.status)) g x := by
  simpa [AnB] using setCell_at (setCell_at (setCell_at h 0 (.bool x.found)) 1 (.string x.value)) 2 (.int .i64 x.status)
theorem loadVar_an {w : World} {g : Nat} {a : An} (h : AnB w g a) : (loadVar 54 ⟨g, 0, none⟩).run Try.prog w = .ok (.agg #[.bool a.found, .string a.value, .int .i64 a.status]) w := by
  obtain ⟨⟨c0, c1, c2⟩, -⟩ := AnB.cells h
  clear h
  go_simp
theorem put3_same {S : Nat → Prop} {w W : World} (k : Same S w W) {g : Nat} (hg : w.heap.size ≤ g ∨ S g) (a b c : Value) : Same S w (((W.setCell ⟨g, 0, none⟩ a).setCell ⟨g, 1, none⟩ b).setCell ⟨g, 2, none⟩ c) :=
  Same.setCell (Same.setCell (Same.setCell k ⟨g, 0, none⟩ hg a) ⟨g, 1, none⟩ hg b) ⟨g, 2, none⟩ hg c
/-- The answer is laid into its box. -/
theorem MiP.ret {tg : Nat → Tg} {w W w' : World} {mb sb vb : Nat} {M' : Mm} (hlt : ∀ b, tg b ≠ .out → b < w.heap.size) (k : Same (fun b => tg b ≠ .out) w W) (h : MiP tg W mb sb vb M' w') {g : Nat} (hg : w.heap.size ≤ g) (hg2 : g < W.heap.size) (a b c : Value) : MiP tg w mb sb vb M' (((w'.setCell ⟨g, 0, none⟩ a).setCell ⟨g, 1, none⟩ b).setCell ⟨g, 2, none⟩ c) := by
  obtain ⟨tg', lv', P', L', h1, h2, h3⟩ := h
  have ho : tg g = .out := Classical.byContradiction fun hn => by have := hlt g hn; omega
  have hs := put3_same (S := fun b => b = g) (Same.refl _ w') (.inr rfl) a b c
  refine ⟨tg', lv', P', L', h1.kept hs fun b hb e => ?_, fun b hb => ?_, put3_same (k.trans h3 fun _ _ e => e) (.inl hg) a b c⟩
  · rw [e] at hb
    rcases h2 g hb with h9 | h9
    · exact h9 ho
    · omega
  · rcases h2 b hb with h9 | h9
    · exact .inl h9
    · exact .inr (Nat.le_trans k.size h9)
theorem MiP.box {tg : Nat → Tg} {w W w' : World} {mb sb vb : Nat} {M' : Mm} (hlt : ∀ b, tg b ≠ .out → b < w.heap.size) (h : MiP tg W mb sb vb M' w') {g : Nat} (hg : w.heap.size ≤ g) (hg2 : g < W.heap.size) : w'.heap[g]? = W.heap[g]? := by
  obtain ⟨tg', lv', P', L', h1, h2, h3⟩ := h
  exact h3.block g hg2 fun hn => by have := hlt g hn; omega
end Go.Proofs.Ytmghmacgljihcaa
