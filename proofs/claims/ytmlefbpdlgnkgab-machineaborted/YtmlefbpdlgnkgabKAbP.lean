/- What is proved: plain facts: what a transaction writes changes nothing that is committed, and an abort leaves nothing of it; lists of answers in memory; no condition. -/
import Derived.Test.YtmlefbpdlgnkgabKSnap
namespace Go.Proofs.Ytmlefbpdlgnkgab
open Go.RowKit

/-- A machine whose transaction of session 3 writes, its versions A as when the clock was c. -/
structure Wrt (A : List En) (c : Int) (M : Mm) : Prop where
  ok : Ok 4 M
  A : M.A = A
  clock : c ≤ M.clock
  act : ∃ a, (M.at 3).act = some a ∧ a.t.f0 = 3
theorem Wrt.val {A : List En} {c : Int} {M : Mm} (h : Wrt A c M) (hA : ∀ e ∈ A, e.x.c ≤ c) (k : ByteArray) : valM M k = (atM (ch A k) c).getD v0 := by
  unfold valM
  rw [h.A, at_all (t := c) (fun y hy => ?_) h.clock]
  obtain ⟨e, he, -, rfl⟩ := mem_ch.1 hy
  exact hA e he
theorem Wrt.write {A : List En} {c : Int} {M : Mm} (h : Wrt A c M) (gp : Int) (k v : ByteArray) : Wrt A c (doM M ⟨3, 3, gp, k, v⟩).1 := by
  by_cases hc : codeD M ⟨3, 3, gp, k, v⟩ = 0
  · obtain ⟨a, ha, hf⟩ := h.act
    have e : doM M ⟨3, 3, gp, k, v⟩ = (operM (M.tick (M.clock + 1 + gp)) 3 a ⟨2, k, true, v⟩, an0) := by
      rw [do_ok hc]
      show goM (M.tick (M.clock + 1 + gp)) M.clock ⟨3, 3, gp, k, v⟩ = _
      unfold goM
      show (match ((M.tick (M.clock + 1 + gp)).at 3).act with | none => _ | some a => _) = _
      rw [show ((M.tick (M.clock + 1 + gp)).at 3).act = some a from ha]
      rfl
    obtain ⟨hB, -⟩ := codeD_zero hc
    obtain ⟨-, -, hg, -, -⟩ := codeB_zero hB
    have hk := h.clock
    have h9 := h.ok.step ⟨3, 3, gp, k, v⟩
    rw [e] at h9 ⊢
    refine ⟨h9, h.A, ?_, addO a (M.clock + 1 + gp) ⟨2, k, true, v⟩, ?_, hf⟩
    · show c ≤ M.clock + 1 + gp
      have := hg.1
      simp only at this
      omega
    · show ((operM (M.tick (M.clock + 1 + gp)) 3 a ⟨2, k, true, v⟩).at 3).act = _
      rw [at_oper (M := M.tick (M.clock + 1 + gp)) (at_lt ha), if_pos rfl]
      rfl
  · rw [do_no hc]
    exact h
theorem Wrt.begin {M : Mm} (h : Ok 4 M) (hn : (M.at 3).act = none) (hc : M.clock < 1099511627776) (hl : M.log.length ≤ 4000) : Wrt M.A M.clock (doM M ⟨1, 3, 0, e0, e0⟩).1 := by
  have hil : 3 < M.ses.length := by rw [h.len]; decide
  have hb : M.begun ≠ 4096 := fun e => by
    have h1 := h.inv.cnt
    have h2 := acts_le M.ses
    have h3 := h.inv.s1
    omega
  have hcd : codeD M ⟨1, 3, 0, e0, e0⟩ = 0 := by
    have h9 := code_at (M := M) (kd := 1) (i := 3) (k := e0) (v := e0) ⟨by decide, by decide⟩ hil (fun ho => by rcases ho with h | h | h <;> cases h) (fun h => by cases h) (fun _ => ⟨hn, hb⟩) (fun h => absurd rfl h)
    rw [if_neg (by omega)] at h9
    exact h9
  have e : doM M ⟨1, 3, 0, e0, e0⟩ = (beginM (M.tick (M.clock + 1)) 3 M.clock, an0) := by
    rw [do_ok0 hcd rfl]
    exact go_begin (i := 3) (M := M.tick (M.clock + 1)) hn
  have h9 := h.step ⟨1, 3, 0, e0, e0⟩
  rw [e] at h9 ⊢
  refine ⟨h9, rfl, ?_, ⟨⟨3, (M.at 3).begun, M.clock + 1, 0, M.clock, 0, 0, []⟩, []⟩, ?_, rfl⟩
  · show M.clock ≤ M.clock + 1
    omega
  · show ((beginM (M.tick (M.clock + 1)) 3 M.clock).at 3).act = _
    rw [at_begin (M := M.tick (M.clock + 1)) hil, if_pos rfl]
    rfl
/-- The abort: refused by the clock alone, or the log's last one is aborted and of session 3. -/
theorem Wrt.abort {A : List En} {c : Int} {M : Mm} (h : Wrt A c M) : codeD M ⟨6, 3, 0, e0, e0⟩ = 154 ∨ (codeD M ⟨6, 3, 0, e0, e0⟩ = 0 ∧ (doM M ⟨6, 3, 0, e0, e0⟩).1.A = A ∧ c ≤ (doM M ⟨6, 3, 0, e0, e0⟩).1.clock ∧ ∃ L t, (doM M ⟨6, 3, 0, e0, e0⟩).1.log = L ++ [t] ∧ t.f6 = 0 ∧ t.f0 = 3) := by
  obtain ⟨a, ha, hf⟩ := h.act
  have h9 := code_at (M := M) (kd := 6) (i := 3) (k := e0) (v := e0) ⟨by decide, by decide⟩ (at_lt ha) (fun ho => by rcases ho with h | h | h <;> cases h) (fun h => by cases h) (fun h => by cases h) (fun _ => ⟨a, ha, fun ho => by rcases ho with h | h | h <;> cases h⟩)
  by_cases hc : 1099511627776 < M.clock + 1
  · rw [if_pos hc] at h9
    exact .inl h9
  · rw [if_neg hc] at h9
    have hcd : codeD M ⟨6, 3, 0, e0, e0⟩ = 0 := h9
    have e : doM M ⟨6, 3, 0, e0, e0⟩ = (finM (M.tick (M.clock + 1)) 3 a 0, an0) := by
      rw [do_ok0 hcd rfl]
      exact go_abort (i := 3) (M := M.tick (M.clock + 1)) ha
    right
    have hk := h.clock
    refine ⟨hcd, by rw [e]; exact h.A, by rw [e]; show c ≤ M.clock + 1; omega, M.log, endT a.t (M.clock + 1) 0, by rw [e]; rfl, rfl, hf⟩
/-- Lists of answers in memory. -/
def anc (l : List An) : List Value := l.flatMap fun a => [.bool a.found, .string a.value, .int .i64 a.status]
theorem length_anc (l : List An) : (anc l).length = l.length * 3 := by
  induction l with
  | nil => rfl
  | cons a r ih => simp only [anc, List.flatMap_cons, List.length_append, List.length_cons, List.length_nil] at *; omega
theorem anc_append (a b : List An) : anc (a ++ b) = anc a ++ anc b := by simp [anc]
theorem anc_get {l : List An} {i : Nat} {x : An} (h : l[i]? = some x) : (anc l)[i * 3]? = some (.bool x.found) ∧ (anc l)[i * 3 + 1]? = some (.string x.value) := by
  induction l generalizing i with
  | nil => simp at h
  | cons a r ih =>
    cases i with
    | zero =>
      simp only [List.getElem?_cons_zero, Option.some.injEq] at h
      subst h
      simp [anc]
    | succ i =>
      simp only [List.getElem?_cons_succ] at h
      obtain ⟨h0, h1⟩ := ih h
      have e : ∀ j, (anc (a :: r))[(i + 1) * 3 + j]? = (anc r)[i * 3 + j]? := fun j => by
        show ([Value.bool a.found, .string a.value, .int .i64 a.status] ++ anc r)[(i + 1) * 3 + j]? = _
        rw [List.getElem?_append_right (by simp; omega)]
        congr 1
        simp; omega
      exact ⟨(e 0).trans h0, (e 1).trans h1⟩
theorem Try.infoAnsw : (Try.prog.info? 28).map (fun i => (i.zero, i.size, i.bytes)) = some (some (.agg #[.bool false, .string .empty, .int .i64 0]), 3, 32) := by kernel_rfl
def OwnA (base : Nat) (w : World) (v : Value) (l : List An) : Prop := w.ownsRow base 28 3 v l.length (anc l)
theorem OwnA.nil (base : Nat) (w : World) : OwnA base w (.slice none 0 0) [] := World.ownsRow_nil w base 28 3
theorem app_an {w : World} {base g : Nat} {v : Value} {xs : List An} (x : An) (hown : OwnA base w v xs) (hg : AnB w g x) (hb : xs.length ≤ 2513169434918) (hbase : base ≤ w.heap.size) (ty : TypeId) :
    ∃ v' w', (Builtin.append_ #[36, 36] ty #[v, .slice (some ⟨g, 0, none⟩) 1 1]).run Try.prog w = .ok v' w' ∧ OwnA base w' v' (xs ++ [x]) ∧ Same (fun k => v.ownBlock = some k) w w' ∧ ∀ k, v'.ownBlock = some k → v.ownBlock = some k ∨ w.heap.size ≤ k := by
  obtain ⟨v', w', hr, r1, r2, r3, -⟩ := app_wide (P := Try.prog) (t := 36) (ty := ty) (c := 1) (m := 1) (a := ⟨g, 0, none⟩) (news := anc [x]) Try.underlying36 Try.infoAnsw rfl (by decide) hown (length_anc [x]) (fun j u hu => by
    rw [add_at, Nat.zero_add, cell_of hg]
    simpa [anc] using hu) (fun u hu => by
      simp only [anc, List.flatMap_cons, List.flatMap_nil, List.append_nil, List.mem_cons, List.not_mem_nil, or_false] at hu
      rcases hu with rfl | rfl | rfl <;> rfl) (by unfold maxLen; omega) (by omega) hbase
  rw [← anc_append] at r1
  exact ⟨v', w', hr, by rw [OwnA, List.length_append]; exact r1, r2, r3⟩
end Go.Proofs.Ytmlefbpdlgnkgab
