/- What is proved: plain facts on what single steps of the machine answer and leave, and on what other sessions' steps keep; no condition. -/
import Derived.Test.YtmghmacgljihcaaKModel
namespace Go.Proofs.Ytmghmacgljihcaa

abbrev e0 : ByteArray := ⟨#[]⟩
/-- What a list of steps leaves. -/
def plM (M : Mm) (l : List Stp) : Mm := l.foldl (fun M s => (doM M s).1) M
theorem plM_take {l : List Stp} {j : Nat} {s : Stp} (h : l[j]? = some s) (M : Mm) : plM M (l.take (j + 1)) = (doM (plM M (l.take j)) s).1 := by
  rw [List.take_add_one, h]
  simp [plM, List.foldl_append]
theorem insts_app (l : List OpM) (A : List En) (c n : Int) : ∃ B, insts A c n l = A ++ B ∧ ∀ e ∈ B, e.x.c = c := by
  induction l generalizing A with
  | nil => exact ⟨[], by simp [insts], fun e he => by cases he⟩
  | cons o r ih =>
    obtain ⟨B, h1, h2⟩ := ih (inst A o.key ⟨c, n, o.found, o.value⟩)
    have e : insts A c n (o :: r) = insts (inst A o.key ⟨c, n, o.found, o.value⟩) c n r := rfl
    rw [e, h1]
    unfold Ytmghmacgljihcaa.inst
    split
    · refine ⟨⟨o.key, ⟨c, n, o.found, o.value⟩⟩ :: B, by simp, fun e he => ?_⟩
      rcases List.mem_cons.1 he with rfl | he
      · rfl
      · exact h2 e he
    · exact ⟨B, rfl, h2⟩
/-- What any step does: nothing, or it turns its own session, sets the clock on and lays versions of its time behind the others. -/
structure StR (M : Mm) (s : Stp) (M' : Mm) : Prop where
  i : s.ses.toNat < M.ses.length
  nn : 0 ≤ s.ses
  ses : ∃ sn, M'.ses = M.ses.set s.ses.toNat sn
  clock : M'.clock = M.clock + 1 + s.gap
  gap : 0 ≤ s.gap
  flaw : M'.flaw = M.flaw
  A : ∃ B, M'.A = M.A ++ B ∧ ∀ e ∈ B, e.x.c = M'.clock
theorem do_rel (M : Mm) (s : Stp) : (doM M s).1 = M ∨ StR M s (doM M s).1 := by
  by_cases h : codeD M s = 0
  · right
    obtain ⟨hB, -⟩ := codeD_zero h
    obtain ⟨-, b2, b3, -, -⟩ := codeB_zero hB
    have e : (doM M s).1 = (goM (M.tick (M.clock + 1 + s.gap)) M.clock s).1 := by unfold doM; rw [if_pos h]
    rw [e]
    have hA : ∃ B, M.A = M.A ++ B ∧ ∀ e ∈ B, e.x.c = M.clock + 1 + s.gap := ⟨[], by simp, fun e he => by cases he⟩
    unfold goM
    split
    · exact ⟨by omega, b2.1, ⟨_, rfl⟩, rfl, b3.1, rfl, hA⟩
    · split
      · exact ⟨by omega, b2.1, ⟨_, rfl⟩, rfl, b3.1, rfl, hA⟩
      split
      · exact ⟨by omega, b2.1, ⟨_, rfl⟩, rfl, b3.1, rfl, hA⟩
      split
      · exact ⟨by omega, b2.1, ⟨_, rfl⟩, rfl, b3.1, rfl, hA⟩
      split
      · unfold comtM
        split
        · exact ⟨by omega, b2.1, ⟨_, rfl⟩, rfl, b3.1, rfl, hA⟩
        · exact ⟨by omega, b2.1, ⟨_, rfl⟩, rfl, b3.1, rfl, insts_app _ _ _ _⟩
      · exact ⟨by omega, b2.1, ⟨_, rfl⟩, rfl, b3.1, rfl, hA⟩
  · left
    unfold doM
    rw [if_neg h]
theorem StR.at_ne {M M' : Mm} {s : Stp} (h : StR M s M') {j : Nat} (hj : s.ses ≠ (j : Int)) : M'.at j = M.at j := by
  obtain ⟨sn, hs⟩ := h.ses
  unfold Mm.at
  rw [hs, at_set h.i, if_neg]
  have := h.nn
  omega
theorem StR.len {M M' : Mm} {s : Stp} (h : StR M s M') : M'.ses.length = M.ses.length := by
  obtain ⟨sn, hs⟩ := h.ses
  rw [hs]
  simp
theorem do_len (M : Mm) (s : Stp) : (doM M s).1.ses.length = M.ses.length := by
  rcases do_rel M s with h | h
  · rw [h]
  · exact h.len
theorem do_flaw (M : Mm) (s : Stp) : (doM M s).1.flaw = M.flaw := by
  rcases do_rel M s with h | h
  · rw [h]
  · exact h.flaw
/-- What stands of a machine without a flaw in so many sessions. -/
structure Ok (n : Nat) (M : Mm) : Prop where
  inv : Inv M
  len : M.ses.length = n
  fl : M.flaw = 0
theorem Ok.step {n : Nat} {M : Mm} (h : Ok n M) (s : Stp) : Ok n (doM M s).1 := ⟨h.inv.step s, (do_len M s).trans h.len, (do_flaw M s).trans h.fl⟩
theorem Ok.new {n : Nat} (h0 : 1 ≤ n) (h1 : n ≤ 64) : Ok n (newM n 0) := ⟨Inv.new h0 h1 0, by simp [newM], rfl⟩
/-- A step of session i that nothing but the clock may speak against. -/
theorem code_at {M : Mm} {kd : Int} {i : Nat} {k v : ByteArray} (h1 : 1 ≤ kd ∧ kd ≤ 6) (hi : i < M.ses.length) (hk : isO ⟨kd, i, 0, k, v⟩ → 0 < k.size ∧ k.size ≤ 8) (hv : kd = 3 → v.size ≤ 16) (ha : kd = 1 → (M.at i).act = none ∧ M.begun ≠ 4096) (hb : kd ≠ 1 → ∃ a, (M.at i).act = some a ∧ (isO ⟨kd, i, 0, k, v⟩ → a.t.ops.length ≠ 16)) :
    codeD M ⟨kd, i, 0, k, v⟩ = if 1099511627776 < M.clock + 1 then 154 else 0 := by
  have hB : codeB M.ses.length ⟨kd, i, 0, k, v⟩ = 0 := by
    unfold codeB
    rw [if_neg (by simp only; omega), if_neg (by simp only; omega), if_neg (by simp only; omega), if_neg (fun h => by have := hk h.1; have h2 := h.2; simp only at h2; omega), if_neg (fun h => by have := hv h.1; have h2 := h.2; simp only at h2; omega)]
  unfold codeD
  rw [if_neg (fun h => h hB)]
  unfold codeU
  simp only [Int.toNat_natCast, Int.add_zero]
  by_cases hk1 : kd = 1
  · obtain ⟨e1, e2⟩ := ha hk1
    rw [e1, if_neg (fun h => by cases h.2), if_neg (fun h => h.1 hk1), if_neg (fun h => e2 h.2), if_neg (fun h => by have := h.2; simp [opsN] at this)]
  · obtain ⟨a, e1, e2⟩ := hb hk1
    rw [e1, if_neg (fun h => hk1 h.1), if_neg (fun h => by cases h.2), if_neg (fun h => hk1 h.1), if_neg (fun h => e2 h.1 h.2)]
theorem do_ok {M : Mm} {s : Stp} (h : codeD M s = 0) : doM M s = goM (M.tick (M.clock + 1 + s.gap)) M.clock s := by unfold doM; rw [if_pos h]
theorem do_no {M : Mm} {s : Stp} (h : codeD M s ≠ 0) : doM M s = (M, an0) := by unfold doM; rw [if_neg h]
theorem go_begin {M : Mm} {c : Int} {i : Nat} {k v : ByteArray} (h : (M.at i).act = none) : goM M c ⟨1, i, 0, k, v⟩ = (beginM M i c, an0) := by
  unfold goM
  simp only [Int.toNat_natCast]
  rw [h]
theorem go_read {M : Mm} {c : Int} {i : Nat} {k v : ByteArray} {a : Ac} (h : (M.at i).act = some a) : goM M c ⟨2, i, 0, k, v⟩ = (operM M i a ⟨1, k, (seeM M a.t k).1, (seeM M a.t k).2⟩, ⟨(seeM M a.t k).1, (seeM M a.t k).2, 0⟩) := by
  unfold goM
  simp only [Int.toNat_natCast]
  rw [h]
  rfl
theorem go_write {M : Mm} {c : Int} {i : Nat} {k v : ByteArray} {a : Ac} (h : (M.at i).act = some a) : goM M c ⟨3, i, 0, k, v⟩ = (operM M i a ⟨2, k, true, v⟩, an0) := by
  unfold goM
  simp only [Int.toNat_natCast]
  rw [h]
  rfl
theorem go_del {M : Mm} {c : Int} {i : Nat} {k v : ByteArray} {a : Ac} (h : (M.at i).act = some a) : goM M c ⟨4, i, 0, k, v⟩ = (operM M i a ⟨3, k, false, e0⟩, an0) := by
  unfold goM
  simp only [Int.toNat_natCast]
  rw [h]
  rfl
theorem go_commit {M : Mm} {c : Int} {i : Nat} {k v : ByteArray} {a : Ac} (h : (M.at i).act = some a) : goM M c ⟨5, i, 0, k, v⟩ = (comtM M i a, comtA M a) := by
  unfold goM
  simp only [Int.toNat_natCast]
  rw [h]
  rfl
theorem go_abort {M : Mm} {c : Int} {i : Nat} {k v : ByteArray} {a : Ac} (h : (M.at i).act = some a) : goM M c ⟨6, i, 0, k, v⟩ = (finM M i a 0, an0) := by
  unfold goM
  simp only [Int.toNat_natCast]
  rw [h]
  rfl
/-- The last operation. -/
theorem lastW_snoc {l : List OpM} {o : OpM} {k : ByteArray} : lastW (l ++ [o]) k = if isW k o = true then some l.length else lastW l k := by
  unfold lastW
  rw [List.length_append]
  show lw (l ++ [o]) k (l.length + 1) = _
  rw [lw]
  have e : (l ++ [o]).getD l.length z0 = o := by rw [List.getD_eq_getElem?_getD, List.getElem?_append_right (Nat.le_refl _)]; simp
  rw [e]
  split
  · rfl
  · have : ∀ n, n ≤ l.length → lw (l ++ [o]) k n = lw l k n := fun n hn => by
      induction n with
      | zero => rfl
      | succ n ih =>
        have e : (l ++ [o]).getD n z0 = l.getD n z0 := by rw [List.getD_eq_getElem?_getD, List.getD_eq_getElem?_getD, List.getElem?_append_left (by omega)]
        rw [lw, lw, e, ih (by omega)]
    exact this _ (Nat.le_refl _)
theorem isW_self {k : ByteArray} {o : OpM} (h1 : o.key = k) (h2 : o.kind ≠ 1) : isW k o = true := by unfold isW; rw [h1]; simp [h2]
theorem outc_one {o : OpM} (h : o.kind ≠ 1) : outc [o] = [o] := by
  have e : lastW [o] o.key = some 0 := by
    have := lastW_snoc (l := []) (o := o) (k := o.key)
    rw [if_pos (isW_self rfl h)] at this
    exact this
  show oc [o] 1 = [o]
  rw [oc, oc]
  have e2 : [o].getD 0 z0 = o := rfl
  rw [e2, if_pos e]
  rfl
end Go.Proofs.Ytmghmacgljihcaa
