/- What is proved: strings.Cut at a separator of one byte; conditions: the text's length, and that the library's variable of the greatest length holds a number. -/
import Derived.Test.YtfhaiklfbnfdlaaDoorNoRd
import Derived.Shelf.Strings.Shaped
namespace Go.Proofs.YtfhaiklfbnfdlaaDoor
open Go.RowKit

shelf_lay LaysM.n145 Nm 145 at Tryd as Tryd.laysCut
/-- The library's variable of the greatest length holds a number. -/
def Mx (w : World) : Prop := ∃ m, w.cell? ⟨2, 0, none⟩ = some (.int .i64 m)
theorem Mx.of {w : World} (h : w.ShapedOpen Tryd.prog) : Mx w := Tryd.laysCut.s1_3 w h
theorem Mx.on {w w' : World} (h : Mx w) (k : Kept w w') : Mx w' := by
  obtain ⟨m, hm⟩ := h
  exact ⟨m, (k.cell (p := ⟨2, 0, none⟩) (World.block_lt_of_cell? w _ hm) (fun e => e)).trans hm⟩
theorem index_lead (c : UInt8) : ∀ l : List UInt8, Lib.indexByte l c = if lead (fun b => b != c) l = l.length then (-1 : Int) else ((lead (fun b => b != c) l : Nat) : Int)
  | [] => rfl
  | b :: l => by
    have ih := index_lead c l
    have hl := lead_le (fun b => b != c) l
    unfold Lib.indexByte
    by_cases h : b = c
    · subst h
      have e : lead (fun x => x != b) (b :: l) = 0 := by simp [lead]
      rw [e]
      simp
    · have e : lead (fun x => x != c) (b :: l) = lead (fun x => x != c) l + 1 := by simp [lead, h]
      rw [e, ih, if_neg (by simpa using h)]
      by_cases hc : lead (fun x => x != c) l = l.length
      · rw [if_pos hc, if_pos (show ((-1 : Int) == -1) = true from rfl), if_pos (by rw [hc]; rfl)]
      · have h1 : (((lead (fun x => x != c) l : Nat) : Int) == -1) = false := beq_eq_false_iff_ne.2 (by omega)
        rw [if_neg hc, h1, if_neg (by decide), if_neg (by simp only [List.length_cons]; omega)]
        rfl
/-- A text cut at the first byte c. -/
def cutb (c : UInt8) (l : List UInt8) : List UInt8 × List UInt8 × Bool := if lead (fun b => b != c) l = l.length then (l, [], false) else (l.take (lead (fun b => b != c) l), l.drop (lead (fun b => b != c) l + 1), true)
theorem cut_one (c : UInt8) (l : List UInt8) : Lib.cut l [c] = cutb c l := by
  unfold Lib.cut cutb
  rw [Lib.index_one, index_lead]
  by_cases h : lead (fun b => b != c) l = l.length
  · rw [if_pos h, if_pos h]
    rfl
  · rw [if_neg h, if_neg h, if_pos (by omega)]
    rfl
theorem cut_any {l : List UInt8} {w : World} (c : UInt8) (hl : l.length ≤ 4294967280) (hm : Mx w) : Calls Tryd.prog 76 #[tx l, tx [c]] w fun e w' => e = .returned (.tuple #[tx (cutb c l).1, tx (cutb c l).2.1, .bool (cutb c l).2.2]) ∧ ∃ n, w' = w.drewN n := by
  obtain ⟨m, hm⟩ := hm
  have h := Any.strings_Cut { Tryd.laysCut with } ⟨l.toArray⟩ ⟨[c].toArray⟩ m w (by rw [sz]; omega) hm
  rw [show (⟨l.toArray⟩ : ByteArray).data.toList = l by simp, show (⟨[c].toArray⟩ : ByteArray).data.toList = [c] by simp, cut_one] at h
  exact h
end Go.Proofs.YtfhaiklfbnfdlaaDoor
