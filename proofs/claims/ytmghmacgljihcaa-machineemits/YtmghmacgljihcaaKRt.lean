/- What is proved: plain facts on the document's machine: any step answers as the program's does and leaves both alike; no condition. -/
import Derived.Test.YtmghmacgljihcaaKRs
namespace Go.Proofs.Ytmghmacgljihcaa

def opsR (R : Rr) (se : Int) : Nat := match rAct R.all se with
  | none => 0
  | some i => (gR R.all i).t.ops.length
def rCode (n : Nat) (R : Rr) (s : Stp) : Int := if codeB n s ≠ 0 then codeB n s else if s.kind = 1 ∧ (rAct R.all s.ses).isSome = true then 155 else if s.kind ≠ 1 ∧ (rAct R.all s.ses).isNone = true then 156
  else if s.kind = 1 ∧ 4096 ≤ R.all.length then 71 else if isO s ∧ 16 ≤ opsR R s.ses then 63 else if 1099511627775 - s.gap < R.clock then 154 else 0
def sts (b : Bool) : Int := if b = true then 1 else 0
def rGo (fl : Int) (R : Rr) (c : Int) (s : Stp) : Rr × An := match rAct R.all s.ses with
  | none => (rBeg R s.ses c, an0)
  | some i => if s.kind = 2 then (rOp R i (opR s (rRead fl R.clock R.all i s.key)), ⟨(rRead fl R.clock R.all i s.key).1, (rRead fl R.clock R.all i s.key).2, 0⟩)
    else if s.kind = 3 then (rOp R i (opW s), an0)
    else if s.kind = 4 then (rOp R i (opD s), an0)
    else if s.kind = 5 then (rEnd R i (sts (rPass fl R.clock R.all (gR R.all i).t)), ⟨false, e0, sts (rPass fl R.clock R.all (gR R.all i).t)⟩)
    else (rEnd R i 0, an0)
def rDo (n : Nat) (fl : Int) (R : Rr) (s : Stp) : Rr × An := if rCode n R s = 0 then rGo fl (rTick R (R.clock + 1 + s.gap)) R.clock s else (R, an0)
theorem Rl.code {M : Mm} {R : Rr} (h : Rl M R) (hi : Inv M) (s : Stp) : rCode M.ses.length R s = codeD M s := by
  unfold rCode codeD
  by_cases hB : codeB M.ses.length s ≠ 0
  · rw [if_pos hB, if_pos hB]
  · rw [if_neg hB, if_neg hB]
    obtain ⟨-, ⟨b1, b2⟩, -⟩ := codeB_zero (by simpa using hB)
    obtain ⟨j, ej⟩ : ∃ j : Nat, s.ses = (j : Int) := ⟨s.ses.toNat, by omega⟩
    unfold codeU
    have hs := h.actS j
    rw [ej, hs]
    simp only [Int.toNat_natCast]
    have hn : (rAct R.all (j : Int)).isNone = (M.at j).act.isNone := by
      rw [← Option.not_isSome, ← Option.not_isSome, hs]
    rw [hn]
    have hb := hi.b1
    have hb2 := h.beg
    have e1 : (s.kind = 1 ∧ 4096 ≤ R.all.length) ↔ (s.kind = 1 ∧ M.begun = 4096) := ⟨fun ⟨x, y⟩ => ⟨x, by omega⟩, fun ⟨x, y⟩ => ⟨x, by omega⟩⟩
    have e2 : (16 ≤ opsR R (j : Int)) ↔ (opsN (M.at j).act = 16) := by
      unfold opsR
      cases ea : (M.at j).act with
      | none => rw [h.actN ea]; simp [opsN]
      | some a =>
        obtain ⟨i, g1, g2⟩ := h.actI ea
        rw [g1]
        simp only [opsN]
        rw [gR_of g2]
        have := (hi.ac j a ea).n
        simp only
        omega
    have e3 : (1099511627775 - s.gap < R.clock) ↔ (1099511627776 < M.clock + 1 + s.gap) := by rw [h.clk]; omega
    simp only [e1, e2, e3]
theorem insts_good {A : List En} (h : Good A) (c n : Int) (l : List OpM) : Good (insts A c n l) := by
  induction l generalizing A with
  | nil => exact h
  | cons o r ih => exact ih (h.inst _ _)
theorem opL_end (t : TxM) (c st : Int) (k : ByteArray) : opL (endT t c st) k = opL t k := rfl
theorem one_end (k : ByteArray) (n : Nat) (t : TxM) (c : Int) : one k n (endT t c 0) = [] := by unfold one endT; simp
theorem Rl.step {M : Mm} {R : Rr} (h : Rl M R) (hi : Inv M) (s : Stp) : (rDo M.ses.length M.flaw R s).2 = (doM M s).2 ∧ Rl (doM M s).1 (rDo M.ses.length M.flaw R s).1 := by
  unfold rDo doM
  rw [h.code hi]
  by_cases h0 : codeD M s = 0
  · rw [if_pos h0, if_pos h0]
    obtain ⟨hB, hU⟩ := codeD_zero h0
    obtain ⟨-, ⟨b1, b2⟩, ⟨b3, b4⟩, -, -⟩ := codeB_zero hB
    obtain ⟨u1, u2, u3⟩ := codeU_zero hU
    obtain ⟨j, ej⟩ : ∃ j : Nat, s.ses = (j : Int) := ⟨s.ses.toNat, by omega⟩
    have hc0 := hi.c0
    have hcl : M.clock < M.clock + 1 + s.gap := by omega
    have ht := h.tick (c := M.clock + 1 + s.gap) (by omega)
    rw [h.clk]
    have hit : Inv (M.tick (M.clock + 1 + s.gap)) := hi.tick (by omega) u3
    have hj : j < M.ses.length := by omega
    unfold goM rGo
    rw [ej]
    simp only [Int.toNat_natCast]
    cases ea : ((M.tick (M.clock + 1 + s.gap)).at j).act with
    | none =>
      rw [show rAct (rTick R (M.clock + 1 + s.gap)).all (j : Int) = none from ht.actN ea]
      exact ⟨rfl, ht.begin hj ea _⟩
    | some a =>
      obtain ⟨i, g1, g2⟩ := ht.actI ea
      have hg : gR (rTick R (M.clock + 1 + s.gap)).all i = ⟨a.t, 0, a.ts⟩ := gR_of g2
      rw [show rAct (rTick R (M.clock + 1 + s.gap)).all (j : Int) = some i from g1]
      simp only
      have hf : ∀ (q : Nat) (b : Ac), ((M.tick (M.clock + 1 + s.gap)).at q).act = some b → ∀ x ∈ b.ts, x < (M.tick (M.clock + 1 + s.gap)).clock := fun q b hb x hx => by
        have := ((hi.ac q b hb).pos x hx).2
        show x < M.clock + 1 + s.gap
        omega
      have hend : ∀ t ∈ (M.tick (M.clock + 1 + s.gap)).log, t.f3 < (M.tick (M.clock + 1 + s.gap)).clock := fun t ht' => by
        have := h.ends t ht'
        show t.f3 < M.clock + 1 + s.gap
        omega
      have hrd : rRead M.flaw (rTick R (M.clock + 1 + s.gap)).clock (rTick R (M.clock + 1 + s.gap)).all i s.key = seeM (M.tick (M.clock + 1 + s.gap)) a.t s.key := ht.read hit g2 s.key
      have hpa : rPass M.flaw (rTick R (M.clock + 1 + s.gap)).clock (rTick R (M.clock + 1 + s.gap)).all a.t = !lost (M.tick (M.clock + 1 + s.gap)) a := ht.pass (fun e he => (hit.av e he).2) a
      rw [hrd, hg]
      simp only
      rw [hpa]
      have hno : ∀ st', st' = 0 → Rl (finM (M.tick (M.clock + 1 + s.gap)) j a st') (rEnd (rTick R (M.clock + 1 + s.gap)) i st') := fun st' e => by
        subst e
        exact ht.fin_ ea g2 0 (A := M.A) h.good (fun k => by rw [one_end, List.append_nil]; exact h.ver k) hend
      split
      · exact ⟨rfl, ht.oper ea g2 hf _⟩
      split
      · exact ⟨rfl, ht.oper ea g2 hf _⟩
      split
      · exact ⟨rfl, ht.oper ea g2 hf _⟩
      split
      · unfold comtM comtA
        cases hlo : lost (M.tick (M.clock + 1 + s.gap)) a with
        | true =>
          rw [if_pos rfl, if_pos rfl]
          exact ⟨rfl, hno 0 rfl⟩
        | false =>
          rw [if_neg (by decide), if_neg (by decide)]
          refine ⟨rfl, ht.fin_ ea g2 1 (insts_good h.good _ _ _) (fun k => ?_) hend⟩
          have hac := hit.ac j a ea
          have hll := hit.log_lt ea
          have := oc_ch (A := M.A) (c := M.clock + 1 + s.gap) (n := (M.log.length : Int)) (l := a.t.ops) (fun e he => by have := (hi.av e he).2; omega) hac.key ⟨by omega, u3⟩ ⟨by omega, by have : M.log.length < 4096 := hll; omega⟩ a.t.ops.length (Nat.le_refl _) k
          show ch (insts M.A (M.clock + 1 + s.gap) M.log.length (oc a.t.ops a.t.ops.length)) k = vs k 0 M.log ++ one k M.log.length (endT a.t (M.clock + 1 + s.gap) 1)
          rw [this, h.ver k]
          congr 1
          unfold one endT opL
          simp only
          cases el : lastW a.t.ops k with
          | none => simp
          | some o => simp [lastW_lt el]
      · exact ⟨rfl, hno 0 rfl⟩
  · rw [if_neg h0, if_neg h0]
    exact ⟨rfl, h⟩
/-- What is committed last. -/
theorem Rl.val {M : Mm} {R : Rr} (h : Rl M R) (k : ByteArray) : rHeld R.all (rSee R.all k R.clock) k = (((atM (ch M.A k) M.clock).getD v0).f, ((atM (ch M.A k) M.clock).getD v0).v) := by
  rw [h.clk]
  rcases h.see k M.clock with ⟨h1, h2⟩ | ⟨b, w, h1, h2, h3⟩
  · rw [h1, h2]
    rfl
  · rw [h1, h3]
    rfl
end Go.Proofs.Ytmghmacgljihcaa
