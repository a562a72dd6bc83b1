/- What is proved: the anchor of the machine's laws answers true; played gives a machine that has played a script, free one whose session 3 is idle; the script lies in memory. -/
import Derived.Test.YtmghmacgljihcaaKLog
import Derived.Test.YtmghmacgljihcaaKFstP
namespace Go.Proofs.Ytmghmacgljihcaa
open Go.RowKit

/-- The steps l lie in w from address a on; their strings are such as a machine can hold. -/
def StepsAt (w : World) (a : Option Addr) (l : List Stp) : Prop :=
  ∀ i s, l[i]? = some s → ∃ b off, a = some ⟨b, off, none⟩ ∧ b < w.heap.size ∧ w.cell? ⟨b, off + i * 5, none⟩ = some (.int .i64 s.kind) ∧ w.cell? ⟨b, off + i * 5 + 1, none⟩ = some (.int .i64 s.ses) ∧ w.cell? ⟨b, off + i * 5 + 2, none⟩ = some (.int .i64 s.gap) ∧ w.cell? ⟨b, off + i * 5 + 3, none⟩ = some (.string s.key) ∧ w.cell? ⟨b, off + i * 5 + 4, none⟩ = some (.string s.value)
def SmallS (l : List Stp) : Prop := ∀ s ∈ l, s.key.size ≤ maxLen ∧ s.value.size ≤ maxLen
theorem StepsAt.on {w w' : World} {a : Option Addr} {l : List Stp} (h : StepsAt w a l) (k : Kept w w') : StepsAt w' a l := fun i s hs => by
  obtain ⟨b, off, rfl, hb, c0, c1, c2, c3, c4⟩ := h i s hs
  have t : ∀ o, w'.cell? ⟨b, o, none⟩ = w.cell? ⟨b, o, none⟩ := fun o => k.cell (p := ⟨b, o, none⟩) hb (fun e => e)
  exact ⟨b, off, rfl, Nat.lt_of_lt_of_le hb k.size, (t _).trans c0, (t _).trans c1, (t _).trans c2, (t _).trans c3, (t _).trans c4⟩
/-- A machine of one's own, made since w. -/
def MkN (w w' : World) (mb : Nat) (M : Mm) : Prop := ∃ F, Mk F w' mb M ∧ (∀ b, F b → w.heap.size ≤ b) ∧ Kept w w'
theorem MkN.on {w w' w'' : World} {mb : Nat} {M : Mm} (h : MkN w w' mb M) (k : Kept w' w'') : MkN w w'' mb M := by
  obtain ⟨F, h1, h2, h3⟩ := h
  exact ⟨F, h1.on k, h2, Same.trans' h3 k⟩
theorem MkN.kept {w w' : World} {mb : Nat} {M : Mm} (h : MkN w w' mb M) : Kept w w' := by
  obtain ⟨F, h1, h2, h3⟩ := h
  exact h3
theorem MkN.behind {w w0 w' : World} {mb : Nat} {M : Mm} (k : Kept w w0) (h : MkN w0 w' mb M) : MkN w w' mb M := by
  obtain ⟨F, h1, h2, h3⟩ := h
  exact ⟨F, h1, fun b hb => Nat.le_trans k.size (h2 b hb), Same.trans' k h3⟩
/-- A step of it. -/
theorem MkN.doN {w w' : World} {mb : Nat} {M : Mm} (h : MkN w w' mb M) (kd se gp : Int) (k v : ByteArray) (hk : k.size ≤ maxLen) (hv : v.size ≤ maxLen) {A : An} {c : Int} {M' : Mm} (e : doM M ⟨kd, se, gp, k, v⟩ = (M', A)) (ec : codeD M ⟨kd, se, gp, k, v⟩ = c) :
    Calls Try.prog 20 #[.pointer (some ⟨mb, 0, none⟩), .agg #[.int .i64 kd, .int .i64 se, .int .i64 gp, .string k, .string v]] w' fun r w'' => r = .returned (.tuple #[.agg #[.bool A.found, .string A.value, .int .i64 A.status], .int .i64 c]) ∧ MkN w w'' mb M' := by
  obtain ⟨F, h1, h2, h3⟩ := h
  refine Calls.mono (do15 h1 ⟨kd, se, gp, k, v⟩ hk hv) fun r w'' hr => ?_
  rw [e, ec] at hr
  obtain ⟨hr1, F', g1, g2, g3⟩ := hr
  refine ⟨hr1, F', g1, fun b hb => ?_, h3.trans g3 fun b hb hF => ?_⟩
  · rcases g2 b hb with h | h
    · exact h2 b h
    · exact Nat.le_trans h3.size h
  · have := h2 b hF
    omega
/-- The same, and the blocks of G are none of its own. -/
def MkB (w w' : World) (mb : Nat) (M : Mm) (G : Nat → Prop) : Prop := ∃ F, Mk F w' mb M ∧ (∀ b, F b → w.heap.size ≤ b) ∧ Kept w w' ∧ (∀ b, G b → ¬ F b ∧ b < w'.heap.size)
theorem MkB.n {w w' : World} {mb : Nat} {M : Mm} {G : Nat → Prop} (h : MkB w w' mb M G) : MkN w w' mb M := by
  obtain ⟨F, h1, h2, h3, -⟩ := h
  exact ⟨F, h1, h2, h3⟩
theorem MkN.b {w w' : World} {mb : Nat} {M : Mm} (h : MkN w w' mb M) : MkB w w' mb M (fun _ => False) := by
  obtain ⟨F, h1, h2, h3⟩ := h
  exact ⟨F, h1, h2, h3, fun _ e => e.elim⟩
theorem MkB.on {w w' w'' : World} {mb : Nat} {M : Mm} {G : Nat → Prop} (h : MkB w w' mb M G) (k : Kept w' w'') : MkB w w'' mb M G := by
  obtain ⟨F, h1, h2, h3, h4⟩ := h
  exact ⟨F, h1.on k, h2, Same.trans' h3 k, fun b hb => ⟨(h4 b hb).1, Nat.lt_of_lt_of_le (h4 b hb).2 k.size⟩⟩
theorem MkB.add {w w' : World} {mb : Nat} {M : Mm} {G : Nat → Prop} (h : MkB w w' mb M G) (o : Obj) : MkB w (w'.alloc o) mb M (fun b => b = w'.heap.size ∨ G b) := by
  obtain ⟨F, h1, h2, h3, h4⟩ := h
  have k : Kept w' (w'.alloc o) := (Same.refl _ _).alloc _
  refine ⟨F, h1.on k, h2, Same.trans' h3 k, fun b hb => ?_⟩
  rw [World.size_alloc]
  rcases hb with rfl | hb
  · exact ⟨fun e => by have := h1.lt _ e; omega, by omega⟩
  · exact ⟨(h4 b hb).1, by have := (h4 b hb).2; omega⟩
theorem MkB.doB {w w' : World} {mb : Nat} {M : Mm} {G : Nat → Prop} (h : MkB w w' mb M G) (kd se gp : Int) (k v : ByteArray) (hk : k.size ≤ maxLen) (hv : v.size ≤ maxLen) {A : An} {c : Int} {M' : Mm} (e : doM M ⟨kd, se, gp, k, v⟩ = (M', A)) (ec : codeD M ⟨kd, se, gp, k, v⟩ = c) :
    Calls Try.prog 20 #[.pointer (some ⟨mb, 0, none⟩), .agg #[.int .i64 kd, .int .i64 se, .int .i64 gp, .string k, .string v]] w' fun r w'' => r = .returned (.tuple #[.agg #[.bool A.found, .string A.value, .int .i64 A.status], .int .i64 c]) ∧ MkB w w'' mb M' G ∧ (∀ b, G b → w''.heap[b]? = w'.heap[b]?) := by
  obtain ⟨F, h1, h2, h3, h4⟩ := h
  refine Calls.mono (do15 h1 ⟨kd, se, gp, k, v⟩ hk hv) fun r w'' hr => ?_
  rw [e, ec] at hr
  obtain ⟨hr1, F', g1, g2, g3⟩ := hr
  refine ⟨hr1, ⟨F', g1, fun b hb => ?_, h3.trans g3 fun b hb hF => ?_, fun b hb => ⟨fun hF => ?_, Nat.lt_of_lt_of_le (h4 b hb).2 g3.size⟩⟩, fun b hb => g3.block b (h4 b hb).2 (h4 b hb).1⟩
  · rcases g2 b hb with h | h
    · exact h2 b h
    · exact Nat.le_trans h3.size h
  · have := h2 b hF
    omega
  · rcases g2 b hF with h | h
    · exact (h4 b hb).1 h
    · have := (h4 b hb).2
      omega
theorem MkN.activeN {w w' : World} {mb : Nat} {M : Mm} (h : MkN w w' mb M) {i : Nat} (hi : i < M.ses.length) {b : Bool} (eb : (M.at i).act.isSome = b) : Calls Try.prog 9 #[.pointer (some ⟨mb, 0, none⟩), .int .i64 (i : Int)] w' fun e w'' => e = .returned (.bool b) ∧ w'' = w' := by
  obtain ⟨F, h1, -⟩ := h
  rw [← eb]
  exact active15 h1 hi
theorem MkN.nowN {w w' : World} {mb : Nat} {M : Mm} (h : MkN w w' mb M) {c : Int} (ec : M.clock = c) : Calls Try.prog 21 #[.pointer (some ⟨mb, 0, none⟩)] w' fun e w'' => e = .returned (.int .i64 c) ∧ w'' = w' := by
  obtain ⟨F, h1, -⟩ := h
  rw [← ec]
  exact now15 h1
theorem MkN.valN {w w' : World} {mb : Nat} {M : Mm} (h : MkN w w' mb M) (k : ByteArray) (hk : k.size ≤ maxLen) {x : Vn} (ex : valM M k = x) : Calls Try.prog 11 #[.pointer (some ⟨mb, 0, none⟩), .string k] w' fun e w'' => e = .returned (.tuple #[.string x.v, .bool x.f]) ∧ Kept w' w'' := by
  obtain ⟨F, h1, -⟩ := h
  rw [← ex]
  exact value15 h1 k hk
theorem MkN.logN {w w' : World} {mb : Nat} {M : Mm} (h : MkN w w' mb M) {n : Nat} (en : M.log.length = n) : Calls Try.prog 14 #[.pointer (some ⟨mb, 0, none⟩)] w' fun e w'' => ∃ a c, e = .returned (.slice a n c) ∧ Kept w' w'' := by
  obtain ⟨F, h1, -⟩ := h
  refine Calls.mono (log15 h1) fun e w'' he => ?_
  obtain ⟨v, L, rfl, h2, h3, -, h5⟩ := he
  obtain ⟨a, c, rfl, -⟩ := row_shape h2
  exact ⟨a, c, by rw [← en, ← h3]; simp, h5⟩
theorem newN (w : World) (n : Nat) (h0 : 1 ≤ n) (h1 : n ≤ 64) : Calls Try.prog 6 #[.int .i64 (n : Int), .int .i64 0] w fun e w' => ∃ mb, e = .returned (.tuple #[.pointer (some ⟨mb, 0, none⟩), .int .i64 0]) ∧ MkN w w' mb (newM n 0) :=
  Calls.mono (new15 w n 0 h0 h1 (by decide) (by decide)) fun e w' he => by
    obtain ⟨mb, F, h1, h2, h3, h4⟩ := he
    exact ⟨mb, h1, F, h2, h3, h4⟩
/-- The clock and a code, where nothing else speaks against a step. -/
def ac0 : List Stp := [⟨1, 0, 0, e0, e0⟩, ⟨3, 0, 0, ⟨#[97]⟩, ⟨#[120]⟩⟩, ⟨5, 0, 0, e0, e0⟩]
end Go.Proofs.Ytmghmacgljihcaa
