/- What is proved: plain facts of twenty bytes that are written and read; no condition. -/
import Derived.Test.YtemfeaooenaelaaSOpenW
namespace Go.Proofs.Ytemfeaooenaelaa
open Go.RowKit

def dA : M := M.made 16 3 [] [] []
def lA : List Int := List.replicate 19 0 ++ [7]
def sA : WrS := ⟨dA, List.replicate 3 false, [], [], 0, 0⟩
def sB : WrS := (wr lA sA).2
theorem sA_wr : wr lA sA = (0, sB) := by
  have : (wr lA sA).1 = 0 := by decide
  rw [← this]
  rfl
theorem sB_bg : sB.bg ≠ [] := by decide
theorem sB_fill : sB.fill.1 = 0 := by decide
theorem sB_bl : sB.fill.2.bl = [0, 1] := by decide
theorem sB_sz : sB.sz = 20 := by decide
def dC : M := sB.fill.2.m
theorem dC_B : dC.B = 16 ∧ dC.S = 3 ∧ dC.k ≤ 10 ∧ sB.m.k ≤ 10 ∧ dA.k = 0 := by decide
theorem rdC : (rd (.file [0, 1]) 20 ⟨dC, 0, []⟩).1 = 0 ∧ (rd (.file [0, 1]) 20 ⟨dC, 0, []⟩).2.1 = lA := by decide
end Go.Proofs.Ytemfeaooenaelaa
