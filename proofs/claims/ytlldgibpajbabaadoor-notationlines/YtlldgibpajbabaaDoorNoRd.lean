/- What is proved: the reader's skip, must, take, number, word, status; condition: the text's length. -/
import Derived.Test.YtlldgibpajbabaaDoorNoWw
import Derived.Shelf.Small.Wraps
namespace Go.Proofs.YtlldgibpajbabaaDoor
open Go.RowKit

/-- A reader's state: what is left, and whether it failed. -/
structure Rs where
  l : List UInt8
  f : Bool
def Rs.ok (s : Rs) : Prop := s.l.length ≤ 140737488355328
def cutp (p : List UInt8) (s : Rs) : Rs := ⟨Lib.trimPrefix s.l p, s.f⟩
def hasp (p : List UInt8) (s : Rs) : Bool := Lib.hasPrefix s.l p
def mst (p : List UInt8) (s : Rs) : Rs := ⟨Lib.trimPrefix s.l p, s.f || !Lib.hasPrefix s.l p⟩
def drp (n : Nat) (s : Rs) : Rs := ⟨s.l.drop n, s.f⟩
def bad (b : Bool) (s : Rs) : Rs := ⟨s.l, s.f || b⟩
def numO (s : Rs) : Option Nat := numb (s.l.take (lead dg s.l))
def numS (s : Rs) : Rs := bad (numO s).isNone (drp (lead dg s.l) s)
def wrdO (s : Rs) : Option (List UInt8) := uwd (s.l.take (lead wch s.l))
def wrdS (s : Rs) : Rs := bad (wrdO s).isNone (drp (lead wch s.l) s)
theorem trim_le (l p : List UInt8) : (Lib.trimPrefix l p).length ≤ l.length := by
  unfold Lib.trimPrefix
  split
  · rw [List.length_drop]; omega
  · exact Nat.le_refl _
theorem Rs.ok.cut {s : Rs} (h : s.ok) (p : List UInt8) : (cutp p s).ok := Nat.le_trans (trim_le _ _) h
theorem Rs.ok.mst {s : Rs} (h : s.ok) (p : List UInt8) : (mst p s).ok := Nat.le_trans (trim_le _ _) h
theorem Rs.ok.drp {s : Rs} (h : s.ok) (n : Nat) : (drp n s).ok := Nat.le_trans (by show (s.l.drop n).length ≤ _; rw [List.length_drop]; omega) h
theorem Rs.ok.num {s : Rs} (h : s.ok) : (numS s).ok := h.drp _
theorem Rs.ok.wrd {s : Rs} (h : s.ok) : (wrdS s).ok := h.drp _
/-- It lies in memory. -/
def RdAt (w : World) (rb : Nat) (s : Rs) : Prop := w.heap[rb]? = some (.cells #[tx s.l, .bool s.f] 66 (0, 0))
abbrev Mv (rb : Nat) (w w' : World) : Prop := Same (fun k => k = rb) w w'
theorem RdAt.kept {w w' : World} {rb : Nat} {s : Rs} (h : RdAt w rb s) (k : Kept w w') : RdAt w' rb s := (k.block _ (lt_of_heap h) (fun e => e)).trans h
theorem RdAt.facts {w : World} {rb : Nat} {s : Rs} (h : RdAt w rb s) : rb < w.heap.size ∧ w.cell? ⟨rb, 0, none⟩ = some (tx s.l) ∧ w.cell? ⟨rb, 1, none⟩ = some (.bool s.f) ∧ w.frozen? ⟨rb, 0, none⟩ = false ∧ w.frozen? ⟨rb, 1, none⟩ = false := ⟨lt_of_heap h, (cell_of h 0).trans rfl, (cell_of h 1).trans rfl, frozen_of h 0, frozen_of h 1⟩
theorem RdAt.put0 {w : World} {rb : Nat} {s : Rs} (h : RdAt w rb s) (l : List UInt8) : RdAt (w.setCell ⟨rb, 0, none⟩ (tx l)) rb ⟨l, s.f⟩ ∧ Mv rb w (w.setCell ⟨rb, 0, none⟩ (tx l)) := ⟨setCell_at h 0 _, Same.setCell (S := fun k => k = rb) (Same.refl _ w) _ (.inr rfl) _⟩
theorem RdAt.put1 {w : World} {rb : Nat} {s : Rs} (h : RdAt w rb s) (b : Bool) : RdAt (w.setCell ⟨rb, 1, none⟩ (.bool b)) rb ⟨s.l, b⟩ ∧ Mv rb w (w.setCell ⟨rb, 1, none⟩ (.bool b)) := ⟨setCell_at h 1 _, Same.setCell (S := fun k => k = rb) (Same.refl _ w) _ (.inr rfl) _⟩

shelf_lay Lays.n103 Nm 103 at Tryd as Tryd.laysCP
theorem cut_tx (l p : List UInt8) (w : World) : Calls Tryd.prog 64 #[tx l, tx p] w fun e w' => e = .returned (.tuple #[tx (Lib.trimPrefix l p), .bool (Lib.hasPrefix l p)]) ∧ w' = w := Any.strings_CutPrefix Tryd.laysCP ⟨l.toArray⟩ ⟨p.toArray⟩ w
abbrev rdp (rb : Nat) : Value := .pointer (some ⟨rb, 0, none⟩)

theorem skip_any {w : World} {rb : Nat} {s : Rs} (h : RdAt w rb s) (p : List UInt8) : Calls Tryd.prog 52 #[rdp rb, tx p] w fun e w' => e = .returned (.bool (hasp p s)) ∧ RdAt w' rb (cutp p s) ∧ Mv rb w w' := by
  obtain ⟨h0, h1, h2, h3, h4⟩ := h.facts
  have HP : Hid _ := h.put0 (Lib.trimPrefix s.l p)
  have HC : Hid _ := cut_tx s.l p w
  clear h
  go_enter Tryd.func52, Tryd.ntmps52
  go_wp2_with fail
  refine Calls.mono HC.out ?_
  rintro e w1 ⟨rfl, e1⟩
  subst e1
  go_wp2_with fail
  go_ret
  exact ⟨rfl, HP.out⟩
theorem must_any {w : World} {rb : Nat} {s : Rs} (h : RdAt w rb s) (p : List UInt8) : Calls Tryd.prog 30 #[rdp rb, tx p] w fun e w' => e = .returned (.tuple #[]) ∧ RdAt w' rb (mst p s) ∧ Mv rb w w' := by
  have HC : Hid _ := skip_any h p
  clear h
  go_enter Tryd.func30, Tryd.ntmps30
  go_wp2_with fail
  refine Calls.mono HC.out ?_
  rintro e w1 ⟨rfl, r1, m1⟩
  cases hp : hasp p s
  · obtain ⟨h0, h1, h2, h3, h4⟩ := r1.facts
    have HP : Hid _ := r1.put1 true
    have HM : Hid (Mv rb w w1) := m1
    clear r1 m1
    go_wp2_with fail
    refine bodyPost_end (results_none rfl _ _ _) rfl ?_
    have e : mst p s = ⟨(cutp p s).l, true⟩ := by unfold mst hasp at *; rw [hp]; simp [cutp]
    rw [e]
    exact ⟨rfl, HP.out.1, HM.out.trans' HP.out.2⟩
  · have HM : Hid _ := And.intro r1 m1
    clear r1 m1
    go_wp2_with fail
    refine bodyPost_end (results_none rfl _ _ _) rfl ?_
    have e : mst p s = cutp p s := by unfold mst hasp at *; rw [hp]; simp [cutp]
    rw [e]
    exact ⟨rfl, HM.out⟩
theorem take_any {w : World} {rb : Nat} {s : Rs} (h : RdAt w rb s) (n : Nat) (hn : n ≤ s.l.length) : Calls Tryd.prog 50 #[rdp rb, .int .i64 (n : Int)] w fun e w' => e = .returned (tx (s.l.take n)) ∧ RdAt w' rb (drp n s) ∧ Mv rb w w' := by
  obtain ⟨h0, h1, h2, h3, h4⟩ := h.facts
  have HP : Hid _ := h.put0 (s.l.drop n)
  have hs1 : ∀ w, _ := to_tx s.l n hn
  have hs2 : ∀ w, _ := from_tx s.l n hn
  clear h
  go_enter Tryd.func50, Tryd.ntmps50
  go_wp2_with fail
  go_ret
  exact ⟨rfl, HP.out⟩

theorem number_any' {w : World} {rb : Nat} {s0 : Rs} (h : RdAt w rb s0) (hs : s0.ok) (p : List UInt8) : Calls Tryd.prog 29 #[rdp rb, tx p] w fun e w' => e = .returned (.int .i64 ((numO (mst p s0)).getD 0 : Nat)) ∧ RdAt w' rb (numS (mst p s0)) ∧ Mv rb w w' := by
  have HC : Hid _ := must_any h p
  have hok := hs.mst p
  clear h hs
  generalize mst p s0 = s at *
  obtain ⟨o, eo⟩ : ∃ o, o = numO s := ⟨_, rfl⟩
  obtain ⟨S', eS⟩ : ∃ S', S' = numS s := ⟨_, rfl⟩
  have EO : Hid (o = numb (s.l.take (lead dg s.l))) := eo
  have ES : Hid (S' = bad o.isNone (drp (lead dg s.l) s)) := by rw [eo]; exact eS
  rw [← eo, ← eS]
  clear eo eS
  go_enter Tryd.func29, Tryd.ntmps29
  go_wp2_with fail
  refine Calls.mono HC.out ?_
  rintro e w1 ⟨rfl, r1, m1⟩
  obtain ⟨h0, h1, h2, h3, h4⟩ := r1.facts
  have HD : Hid _ := digits_any s.l w1 (Nat.le_trans hok (by decide))
  have HT : Hid _ := take_any r1 _ (lead_le dg s.l)
  have HN : Hid (∀ w, _) := fun w => number_any21 (s.l.take (lead dg s.l)) w (Nat.le_trans (Nat.le_trans (by rw [List.length_take]; omega) hok) (by decide))
  have M1 : Hid (Mv rb w w1) := m1
  clear r1 m1 HC
  go_wp2_with fail
  refine Calls.mono HD.out ?_
  rintro e w2 ⟨rfl, e2⟩
  subst e2
  go_wp2_with fail
  refine Calls.mono HT.out ?_
  rintro e w3 ⟨rfl, r3, m3⟩
  have M3 : Hid (Mv rb w w3) := M1.out.trans' m3
  clear h0 h1 h2 h3 h4 m3 HD HT M1
  go_wp2_with fail
  refine Calls.mono (HN.out _) ?_
  rintro e w4 ⟨rfl, e4⟩
  subst e4
  rw [← EO.out]
  generalize drp (lead dg s.l) s = s2 at *
  obtain ⟨h0, h1, h2, h3, h4⟩ := r3.facts
  cases o with
  | none =>
    have HP : Hid _ := r3.put1 true
    clear r3 HN
    simp only [numV]
    cases hf : s2.f
    · rw [hf] at h2
      go_wp2_with fail
      go_ret
      have e : bad (none : Option Nat).isNone s2 = ⟨s2.l, true⟩ := by simp [bad]
      rw [ES.out, e]
      exact ⟨rfl, HP.out.1, M3.out.trans' HP.out.2⟩
    · rw [hf] at h2
      go_wp2_with fail
      go_ret
      have e : bad (none : Option Nat).isNone s2 = ⟨s2.l, true⟩ := by simp [bad]
      rw [ES.out, e]
      exact ⟨rfl, HP.out.1, M3.out.trans' HP.out.2⟩
  | some n =>
    have HP : Hid _ := r3.put1 s2.f
    clear r3 HN
    simp only [numV]
    have e : bad (some n).isNone s2 = ⟨s2.l, s2.f⟩ := by simp [bad]
    have ES2 : Hid _ := ES.out.trans e
    clear e ES
    generalize s2.f = f at *
    cases f
    · go_wp2_with fail
      go_ret
      rw [ES2.out]
      exact ⟨rfl, HP.out.1, M3.out.trans' HP.out.2⟩
    · go_wp2_with fail
      go_ret
      rw [ES2.out]
      exact ⟨rfl, HP.out.1, M3.out.trans' HP.out.2⟩

theorem word_rd {w : World} {rb : Nat} {s : Rs} (h : RdAt w rb s) (hok : s.ok) : Calls Tryd.prog 53 #[rdp rb] w fun e w' => e = .returned (tx ((wrdO s).getD [])) ∧ RdAt w' rb (wrdS s) ∧ Mv rb w w' := by
  obtain ⟨h0, h1, h2, h3, h4⟩ := h.facts
  have HD : Hid _ := wordAhead_any s.l w (Nat.le_trans hok (by decide))
  have HT : Hid _ := take_any h _ (lead_le wch s.l)
  have HN : Hid (∀ w, _) := fun w => unword_any (s.l.take (lead wch s.l)) w (Nat.le_trans (by rw [List.length_take]; omega) hok)
  clear h
  obtain ⟨o, eo⟩ : ∃ o, o = wrdO s := ⟨_, rfl⟩
  obtain ⟨S', eS⟩ : ∃ S', S' = wrdS s := ⟨_, rfl⟩
  have EO : Hid (o = uwd (s.l.take (lead wch s.l))) := eo
  have ES : Hid (S' = bad o.isNone (drp (lead wch s.l) s)) := by rw [eo]; exact eS
  rw [← eo, ← eS]
  clear eo eS
  go_enter Tryd.func53, Tryd.ntmps53
  go_wp2_with fail
  refine Calls.mono HD.out ?_
  rintro e w2 ⟨rfl, e2⟩
  subst e2
  go_wp2_with fail
  refine Calls.mono HT.out ?_
  rintro e w3 ⟨rfl, r3, m3⟩
  have R3 : Hid (RdAt w3 rb _ ∧ Mv rb w2 w3) := ⟨r3, m3⟩
  clear h0 h1 h2 h3 h4 r3 m3 HD HT
  go_wp2_with fail
  refine Calls.mono (HN.out _) ?_
  rintro e w4 ⟨rfl, k4⟩
  have r4 := R3.out.1.kept k4
  have M4 : Hid (Mv rb w2 w4) := R3.out.2.trans (k4.to _) (fun _ _ h => h)
  clear R3 k4
  rw [← EO.out]
  generalize drp (lead wch s.l) s = s2 at *
  obtain ⟨h0, h1, h2, h3, h4⟩ := r4.facts
  cases o with
  | none =>
    have HP : Hid _ := r4.put1 true
    clear r4 HN
    simp only [uwV]
    cases hf : s2.f
    · rw [hf] at h2
      go_wp2_with fail
      go_ret
      have e : bad (none : Option (List UInt8)).isNone s2 = ⟨s2.l, true⟩ := by simp [bad]
      rw [ES.out, e]
      exact ⟨rfl, HP.out.1, M4.out.trans' HP.out.2⟩
    · rw [hf] at h2
      go_wp2_with fail
      go_ret
      have e : bad (none : Option (List UInt8)).isNone s2 = ⟨s2.l, true⟩ := by simp [bad]
      rw [ES.out, e]
      exact ⟨rfl, HP.out.1, M4.out.trans' HP.out.2⟩
  | some n =>
    have HP : Hid _ := r4.put1 s2.f
    clear r4 HN
    simp only [uwV]
    have e : bad (some n).isNone s2 = ⟨s2.l, s2.f⟩ := by simp [bad]
    have ES2 : Hid _ := ES.out.trans e
    clear e ES
    generalize s2.f = f at *
    cases f
    · go_wp2_with fail
      go_ret
      rw [ES2.out]
      exact ⟨rfl, HP.out.1, M4.out.trans' HP.out.2⟩
    · go_wp2_with fail
      go_ret
      rw [ES2.out]
      exact ⟨rfl, HP.out.1, M4.out.trans' HP.out.2⟩

def wCommit : List UInt8 := [99, 111, 109, 109, 105, 116]
def wAbort : List UInt8 := [97, 98, 111, 114, 116]
def stsV (s : Rs) : Int := if hasp wCommit s = true then 1 else 0
def stsS (s : Rs) : Rs := if hasp wCommit s = true then cutp wCommit s else mst wAbort (cutp wCommit s)
theorem Rs.ok.sts {s : Rs} (h : s.ok) : (stsS s).ok := by
  unfold stsS
  split
  · exact h.cut _
  · exact (h.cut _).mst _
theorem status_any {w : World} {rb : Nat} {s : Rs} (h : RdAt w rb s) : Calls Tryd.prog 31 #[rdp rb] w fun e w' => e = .returned (.int .i64 (stsV s)) ∧ RdAt w' rb (stsS s) ∧ Mv rb w w' := by
  have HC : Hid _ := skip_any h wCommit
  clear h
  go_enter Tryd.func31, Tryd.ntmps31
  go_wp2_with fail
  refine Calls.mono HC.out ?_
  rintro e w1 ⟨rfl, r1, m1⟩
  cases hp : hasp wCommit s
  · have HC2 : Hid _ := must_any r1 wAbort
    have M1 : Hid (Mv rb w w1) := m1
    clear r1 m1 HC
    go_wp2_with fail
    refine Calls.mono HC2.out ?_
    rintro e w2 ⟨rfl, r2, m2⟩
    have M2 : Hid _ := And.intro r2 (M1.out.trans' m2)
    clear r2 m2
    go_wp2_with fail
    go_ret
    have e1 : stsV s = 0 := by unfold stsV; rw [hp]; rfl
    have e2 : stsS s = mst wAbort (cutp wCommit s) := by unfold stsS; rw [hp]; rfl
    rw [e1, e2]
    exact ⟨rfl, M2.out⟩
  · have M1 : Hid _ := And.intro r1 m1
    clear r1 m1 HC
    go_wp2_with fail
    go_ret
    have e1 : stsV s = 1 := by unfold stsV; rw [hp]; rfl
    have e2 : stsS s = cutp wCommit s := by unfold stsS; rw [hp]; rfl
    rw [e1, e2]
    exact ⟨rfl, M1.out⟩
end Go.Proofs.YtlldgibpajbabaaDoor
