/- What is proved: plain facts of a writer's bytes and blocks while it writes, and what bytes behind a block that is begun leave in memory; no condition. -/
import Derived.Test.YtpjkmficpedmcaaSBegin
namespace Go.Proofs.Ytpjkmficpedmcaa
open Go.RowKit

/-- A writer's numbers fit one another. -/
structure WI (s : WrS) : Prop where
  lt : s.bg.length < s.m.B
  ne : s.bg ≠ [] → s.bl ≠ []
  sz : s.sz + (if s.bg = [] then 0 else s.m.B) = s.bl.length * s.m.B + s.bg.length
  mem : ∀ b ∈ s.bl, 0 ≤ b ∧ b < 4096
  br : s.br = 0
  ul : s.u.length ≤ 4096
theorem WI.len {s : WrS} (h : WI s) : s.bl.length ≤ s.sz + s.m.B := by
  have := h.sz
  have hp : 0 < s.m.B := Nat.lt_of_le_of_lt (Nat.zero_le _) h.lt
  have := Nat.le_mul_of_pos_right s.bl.length hp
  split at * <;> omega
/-- A block is begun. -/
structure BI (s : WrS) : Prop where
  lt : s.bg.length < s.m.B
  ne : s.bl ≠ []
  sz : s.sz + s.m.B = s.bl.length * s.m.B + s.bg.length
  mem : ∀ b ∈ s.bl, 0 ≤ b ∧ b < 4096
  br : s.br = 0
  ul : s.u.length ≤ 4096
theorem BI.len {s : WrS} (h : BI s) : s.bl.length ≤ s.sz + s.m.B := by
  have := h.sz
  have hp : 0 < s.m.B := Nat.lt_of_le_of_lt (Nat.zero_le _) h.lt
  have := Nat.le_mul_of_pos_right s.bl.length hp
  omega
theorem WI.begin {s : WrS} (h : WI s) (h0 : s.begin.1 = 0) : BI s.begin.2 ∧ s.begin.2.m = s.m ∧ s.begin.2.sz = s.sz ∧ s.begin.2.bg = s.bg := by
  by_cases hg : s.bg = []
  · unfold WrS.begin at h0 ⊢
    rw [if_neg (by simpa using hg)] at h0 ⊢
    cases hl : low s.u with
    | none => rw [hl] at h0; simp at h0
    | some i =>
      have hi := (List.getElem?_eq_some_iff.1 (low_some.1 hl).1).1
      have hs := h.sz
      rw [if_pos hg, hg] at hs
      have hlt := h.lt
      have hul := h.ul
      refine ⟨⟨hlt, by simp, ?_, fun b hb => ?_, h.br, by simpa using hul⟩, rfl, rfl, rfl⟩
      · simp only [List.length_append, List.length_cons, List.length_nil, hg, Nat.add_mul] at hs ⊢
        omega
      · rcases List.mem_append.1 hb with hb | hb
        · exact h.mem b hb
        · have : b = (i : Int) := by simpa using hb
          omega
  · rw [begin_held hg]
    have hs := h.sz
    rw [if_neg hg] at hs
    exact ⟨⟨h.lt, h.ne hg, hs, h.mem, h.br, h.ul⟩, rfl, rfl, rfl⟩
/-- So many bytes more. -/
def WrS.plus (s : WrS) (l : List Int) : WrS := { s with bg := s.bg ++ l, sz := s.sz + l.length }
theorem more_def (s : WrS) (l : List Int) : s.more l = if (s.bg ++ l).length = s.m.B then (s.plus l).flush else (0, s.plus l) := by
  unfold WrS.more WrS.plus
  rw [List.length_append]
theorem BI.more {s : WrS} (h : BI s) {l : List Int} (hl : (s.bg ++ l).length ≤ s.m.B) (h0 : (s.more l).1 = 0) : (0 < l.length → WI (s.more l).2) ∧ (s.more l).2.sz = s.sz + l.length ∧ (s.more l).2.m.B = s.m.B ∧ (s.more l).2.m.k ≤ s.m.k + 2 := by
  have hs := h.sz
  rw [more_def] at h0 ⊢
  by_cases hf : (s.bg ++ l).length = s.m.B
  · rw [if_pos hf] at h0 ⊢
    obtain ⟨k1, k2, k3, k4, k5⟩ := write_keeps s.m ((s.plus l).bl.getLastD 0) (s.plus l).bg
    unfold WrS.flush at h0 ⊢
    split at h0
    · next h1 => exact absurd h0 h1
    · next h1 =>
      rw [if_neg h1]
      refine ⟨fun _ => ⟨?_, fun e => absurd rfl e, ?_, h.mem, h.br, h.ul⟩, rfl, k3, k5⟩
      · show 0 < (s.m.write _ _).2.B
        rw [k3]
        exact Nat.lt_of_le_of_lt (Nat.zero_le _) h.lt
      · show s.sz + l.length + (if ([] : List Int) = [] then 0 else _) = s.bl.length * (s.m.write _ _).2.B + 0
        rw [if_pos rfl, k3]
        rw [List.length_append] at hf
        omega
  · rw [if_neg hf] at h0 ⊢
    refine ⟨fun hp => ⟨?_, fun _ => h.ne, ?_, h.mem, h.br, h.ul⟩, rfl, rfl, Nat.le_add_right _ _⟩
    · show (s.bg ++ l).length < s.m.B
      omega
    · show s.sz + l.length + (if s.bg ++ l = [] then 0 else s.m.B) = s.bl.length * s.m.B + (s.bg ++ l).length
      rw [if_neg (by intro e; have h1 := congrArg List.length e; rw [List.length_append, List.length_nil] at h1; omega), List.length_append]
      omega

section
variable {o : Nat → Nat} {t : Nat} {w : World} {p : Pl} {sp wb : Nat} {s : WrS} {cl : Bool} {bv gv : Value}
theorem more_done {wx w3 : World} {v3 : Value} {l : List Int} (h : WrT o t w p sp wb s cl bv gv) (ht : Tg t) (kx : Kept w wx) (hap : AppB 0 gv wx (s.bg ++ l) v3 w3) :
    w3.heap[wb]? = some (wrO p sp bv gv s.sz cl s.br) ∧ ∃ o', Step (Wt t) o w o' ((w3.setCell ⟨wb, 3, none⟩ v3).setCell ⟨wb, 4, none⟩ (.int .i64 ((s.sz : Int) + (l.length : Int)))) ∧ WrT o' t ((w3.setCell ⟨wb, 3, none⟩ v3).setCell ⟨wb, 4, none⟩ (.int .i64 ((s.sz : Int) + (l.length : Int)))) p sp wb (s.plus l) cl bv v3 := by
  obtain ⟨p1, p2, p3⟩ := hap
  have hx := h.kept kx
  have a2 := hx.wtr
  have s3 : Same (fun k => gv.ownBlock = some k) wx w3 := Same.of_grown p2 (fun k e => e)
  have st3 : Step (fun n => n = t) o wx (tagN wx t o) w3 := ⟨s3.mono fun k _ e => a2.gtag k e, fun k hk => tagN_old hk⟩
  have hl2 := lt_of_heap a2.obj
  have htg : tagN wx t o wb = t := (tagN_old hl2).trans a2.tag
  have ho3 : w3.heap[wb]? = some (wrO p sp bv gv s.sz cl s.br) := (s3.block wb hl2 fun e => (a2.ne.2 wb e).1 rfl).trans a2.obj
  refine ⟨ho3, ?_⟩
  have s4 : Same (fun k => k = wb) w3 ((w3.setCell ⟨wb, 3, none⟩ v3).setCell ⟨wb, 4, none⟩ (.int .i64 ((s.sz : Int) + (l.length : Int)))) := Same.setCell (S := fun k => k = wb) (Same.setCell (S := fun k => k = wb) (Same.refl _ w3) _ (.inr rfl) _) _ (.inr rfl) _
  have st4 : Step (fun n => n = t) (tagN wx t o) w3 (tagN wx t o) _ := ⟨s4.mono fun k _ e => (by show tagN wx t o k = t; rw [e]; exact htg), fun _ _ => rfl⟩
  have n0 : ¬ ((0 : Nat) = t) := fun e => ht.n0 e.symm
  have n1 : ¬ ((1 : Nat) = t) := fun e => ht.n1 e.symm
  have n2 : ¬ ((2 : Nat) = t) := fun e => ht.n2 e.symm
  refine ⟨tagN wx t o, ((Step.kept kx).trans (st3.mono fun n e => .inr (.inr e))).trans (st4.mono fun n e => .inr (.inr e)), (hx.dv.on st3 n0 n1).on st4 n0 n1, (hx.spc.on st3 n2).on st4 n2, ?_⟩
  refine ⟨setCell_at (setCell_at ho3 3 _) 4 _, htg, own_kept (own_kept a2.brow s3 fun k hk e => (a2.ne.1 k hk).2 e) s4 fun k hk e => (a2.ne.1 k hk).1 e, fun k hk => (tagN_old (own_lt a2.brow hk).1).trans (a2.btag k hk), own_kept p1 s4 fun k hk e => ?_, fun k hk => ?_⟩
  · obtain ⟨-, cur, h1⟩ := own_lt p1 hk
    rw [e, ho3] at h1
    simp [wrO] at h1
  · rcases p3 with e | e
    · rw [e] at hk
      exact (tagN_old (own_lt a2.grow hk).1).trans (a2.gtag k hk)
    · rw [e] at hk
      cases hk
      exact tagN_new (Nat.le_refl _)
end
end Go.Proofs.Ytpjkmficpedmcaa
