/- What is proved: the reader's skip, must, take, number, word, status; condition: the text's length. -/
import Derived.Test.YtfhaiklfbnfdlaaDoorNoWw
import Derived.Shelf.Small.Wraps
namespace Go.Proofs.YtfhaiklfbnfdlaaDoor
open Go.RowKit

/-- A reader's state: what is left, and whether it failed. -/
structure Rs where
  l : List UInt8
  f : Bool
def Rs.ok (s : Rs) : Prop := s.l.length ≤ 140737488355328
def cutp (p : List UInt8) (s : Rs) : Rs := ⟨Lib.trimPrefix s.l p, s.f⟩
def hasp (p : List UInt8) (s : Rs) : Bool := Lib.hasPrefix s.l p
def mst (p : List UInt8) (s : Rs) : Rs := ⟨Lib.trimPrefix s.l p, s.f || !Lib.hasPrefix s.l p⟩
def drp (n : Nat) (s : Rs) : Rs := ⟨s.l.drop n, s.f⟩
def bad (b : Bool) (s : Rs) : Rs := ⟨s.l, s.f || b⟩
def numO (s : Rs) : Option Nat := numb (s.l.take (lead dg s.l))
def numS (s : Rs) : Rs := bad (numO s).isNone (drp (lead dg s.l) s)
def wrdO (s : Rs) : Option (List UInt8) := uwd (s.l.take (lead wch s.l))
def wrdS (s : Rs) : Rs := bad (wrdO s).isNone (drp (lead wch s.l) s)
theorem trim_le (l p : List UInt8) : (Lib.trimPrefix l p).length ≤ l.length := by
  unfold Lib.trimPrefix
  split
  · rw [List.length_drop]; omega
  · exact Nat.le_refl _
theorem Rs.ok.cut {s : Rs} (h : s.ok) (p : List UInt8) : (cutp p s).ok := Nat.le_trans (trim_le _ _) h
theorem Rs.ok.mst {s : Rs} (h : s.ok) (p : List UInt8) : (mst p s).ok := Nat.le_trans (trim_le _ _) h
theorem Rs.ok.drp {s : Rs} (h : s.ok) (n : Nat) : (drp n s).ok := Nat.le_trans (by show (s.l.drop n).length ≤ _; rw [List.length_drop]; omega) h
theorem Rs.ok.num {s : Rs} (h : s.ok) : (numS s).ok := h.drp _
theorem Rs.ok.wrd {s : Rs} (h : s.ok) : (wrdS s).ok := h.drp _
abbrev Mv (rb : Nat) (w w' : World) : Prop := Same (fun k => k = rb) w w'
shelf_lay Lays.n103 Nm 103 at Tryd as Tryd.laysCP
theorem cut_tx (l p : List UInt8) (w : World) : Calls Tryd.prog 75 #[tx l, tx p] w fun e w' => e = .returned (.tuple #[tx (Lib.trimPrefix l p), .bool (Lib.hasPrefix l p)]) ∧ w' = w := Any.strings_CutPrefix Tryd.laysCP ⟨l.toArray⟩ ⟨p.toArray⟩ w
abbrev rdp (rb : Nat) : Value := .pointer (some ⟨rb, 0, none⟩)

def wCommit : List UInt8 := [99, 111, 109, 109, 105, 116]
def wAbort : List UInt8 := [97, 98, 111, 114, 116]
def stsV (s : Rs) : Int := if hasp wCommit s = true then 1 else 0
def stsS (s : Rs) : Rs := if hasp wCommit s = true then cutp wCommit s else mst wAbort (cutp wCommit s)
theorem Rs.ok.sts {s : Rs} (h : s.ok) : (stsS s).ok := by
  unfold stsS
  split
  · exact h.cut _
  · exact (h.cut _).mst _
end Go.Proofs.YtfhaiklfbnfdlaaDoor
