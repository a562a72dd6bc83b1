/- What is proved: two forests in memory, apart of one another: what a step on one leaves of the other; what Insert answers, case by case; no condition. -/
import Derived.Test.YtaiaahcblohknaaYSps
import Derived.Test.YtaiaahcblohknaaYOvl
namespace Go.Proofs.Ytaiaahcblohknaa
open Go.RowKit

theorem ptr_eql (w : World) (a : Addr) : (binOp .eql 24 (.pointer (some a)) (.pointer none)).run Try.prog w = .ok (.bool false) w := by go_simp
theorem Fo.wks {F : Nat → Prop} {w : World} {fb : Nat} {A : List Ks} {bd : Nat} (h : Fo F w fb A bd) : Wks A ∧ ∀ k : ByteArray, Srt (kf A k) := by
  obtain ⟨nb, cap, fr, mb, e, N, D, R, FL, h1, h2, -⟩ := h
  exact ⟨h2.wks, h2.srt⟩
theorem codeI_ok {A : List Ks} {k : ByteArray} {x : Sp} (h1 : rightK k = true) (h2 : rightS x = true) (h3 : x ∉ kf A k) : codeI A k x = 0 ∧ insI A k x = rput A ⟨k, x⟩ := by
  have : codeI A k x = 0 := by
    unfold codeI
    rw [if_neg (by rw [h1]; decide), if_neg (by rw [h2]; decide), if_neg h3]
  exact ⟨this, by unfold insI; rw [if_pos this]⟩
theorem codeI_two {A : List Ks} {k : ByteArray} {x : Sp} (h1 : rightK k = true) (h2 : rightS x = true) (h3 : x ∈ kf A k) : codeI A k x = 141 ∧ insI A k x = A := by
  have : codeI A k x = 141 := by
    unfold codeI
    rw [if_neg (by rw [h1]; decide), if_neg (by rw [h2]; decide), if_pos h3]
  exact ⟨this, by unfold insI; rw [this, if_neg (by decide)]⟩
theorem codeI_bad {A : List Ks} {k : ByteArray} {x : Sp} (h1 : rightK k = true) (h2 : rightS x = false) : codeI A k x = 140 ∧ insI A k x = A := by
  have : codeI A k x = 140 := by
    unfold codeI
    rw [if_neg (by rw [h1]; decide), if_pos h2]
  exact ⟨this, by unfold insI; rw [this, if_neg (by decide)]⟩
theorem OwnSp.at {base : Nat} {w : World} {v : Value} {l : List Sp} (h : OwnSp base w v l) : ∃ a cap, v = .slice a l.length cap ∧ SpsAt w a l ∧ ∀ b off s, a = some ⟨b, off, s⟩ → base ≤ b ∧ b < w.heap.size := by
  rcases h.2 with ⟨rfl, hn⟩ | ⟨g, cap, cur, rfl, hb, hg, h1, h2, h3, h4⟩
  · have : l = [] := List.eq_nil_of_length_eq_zero (by omega)
    subst this
    exact ⟨none, 0, rfl, fun i x hx => by simp at hx, fun b off s e => by cases e⟩
  · refine ⟨_, cap, rfl, fun i r hr => ⟨g, 0, rfl, lt_of_heap hg, ?_⟩, fun b off s e => by cases e; exact ⟨hb, lt_of_heap hg⟩⟩
    have hi := (List.getElem?_eq_some_iff.1 hr).1
    have hget : ∀ j, j < 3 → w.cell? ⟨g, 0 + i * 3 + j, none⟩ = (sc1 r)[j]? := fun j hj => by
      rw [cell_of hg, Nat.zero_add, ← scs_get hr j hj, ← h4, List.getElem?_take_of_lt (by omega)]
      simp
    exact ⟨hget 0 (by decide), hget 1 (by decide), hget 2 (by decide)⟩
theorem neq_one (f t i : Int) (w : World) : (binOp .neq 31 (.agg #[.int .i64 f, .int .i64 t, .int .i64 i]) (.agg #[.int .i64 f, .int .i64 t, .int .i64 i])).run Try.prog w = .ok (.bool false) w := by
  have h := neq_sp ⟨f, t, i⟩ ⟨f, t, i⟩ w
  simpa using h
/-- Two forests, apart of one another. -/
structure ApS (w wr : World) (sb ob : Nat) (A B : List Ks) (F G : Nat → Prop) (m n : Nat) : Prop where
  a : Fo F wr sb A m
  b : Fo G wr ob B n
  dis : ∀ x, F x → ¬ G x
  la : ∀ x, F x → w.heap.size ≤ x
  lb : ∀ x, G x → w.heap.size ≤ x
  kept : Kept w wr
theorem ApS.swap {w wr : World} {sb ob : Nat} {A B : List Ks} {F G : Nat → Prop} {m n : Nat} (h : ApS w wr sb ob A B F G m n) : ApS w wr ob sb B A G F n m := ⟨h.b, h.a, fun x hx hy => h.dis x hy hx, h.lb, h.la, h.kept⟩
theorem ApS.on {w wr w' : World} {sb ob : Nat} {A B : List Ks} {F G : Nat → Prop} {m n : Nat} (h : ApS w wr sb ob A B F G m n) (k : Kept wr w') : ApS w w' sb ob A B F G m n := ⟨h.a.on k, h.b.on k, h.dis, h.la, h.lb, Same.trans' h.kept k⟩
theorem ApS.step {w wr w' : World} {sb ob : Nat} {A A' B : List Ks} {F G : Nat → Prop} {m m' n : Nat} (h : ApS w wr sb ob A B F G m n) (hi : StpP F wr sb A' m' w') : ∃ F', ApS w w' sb ob A' B F' G m' n := by
  obtain ⟨F', q1, q2, q3⟩ := hi
  refine ⟨F', q1, h.b.off q3 (fun x hx hf => h.dis x hf hx), fun x hx hg => ?_, fun x hx => ?_, h.lb, h.kept.trans q3 (fun i hi hf => ?_)⟩
  · rcases q2 x hx with h1 | h1
    · exact h.dis x h1 hg
    · have := h.b.lt x hg; omega
  · rcases q2 x hx with h1 | h1
    · exact h.la x h1
    · exact Nat.le_trans h.kept.size h1
  · have := h.la i hf; omega
/-- The same while a list of spans outside them is read. -/
structure ApZ (w wr : World) (sb ob : Nat) (A B : List Ks) (F G : Nat → Prop) (m n : Nat) (a : Option Addr) (xs : List Sp) : Prop where
  s : ApS w wr sb ob A B F G m n
  at' : SpsAt wr a xs
  an : ∀ b off s, a = some ⟨b, off, s⟩ → ¬ F b ∧ b < wr.heap.size
theorem ApZ.on {w wr w' : World} {sb ob : Nat} {A B : List Ks} {F G : Nat → Prop} {m n : Nat} {a : Option Addr} {xs : List Sp} (h : ApZ w wr sb ob A B F G m n a xs) (k : Kept wr w') : ApZ w w' sb ob A B F G m n a xs :=
  ⟨h.s.on k, h.at'.on k, fun b off s e => ⟨(h.an b off s e).1, Nat.lt_of_lt_of_le (h.an b off s e).2 k.size⟩⟩
theorem ApZ.step {w wr w' : World} {sb ob : Nat} {A A' B : List Ks} {F G : Nat → Prop} {m m' n : Nat} {a : Option Addr} {xs : List Sp} (h : ApZ w wr sb ob A B F G m n a xs) (hi : StpP F wr sb A' m' w') : ∃ F', ApZ w w' sb ob A' B F' G m' n a xs := by
  obtain ⟨F', q1, q2, q3⟩ := hi
  refine ⟨F', ⟨q1, h.s.b.off q3 (fun x hx hf => h.s.dis x hf hx), fun x hx hg => ?_, fun x hx => ?_, h.s.lb, h.s.kept.trans q3 (fun i hi hf => ?_)⟩, fun i x hx => ?_, fun b off s e => ⟨fun hf => ?_, Nat.lt_of_lt_of_le (h.an b off s e).2 q3.size⟩⟩
  · rcases q2 x hx with h1 | h1
    · exact h.s.dis x h1 hg
    · have := h.s.b.lt x hg; omega
  · rcases q2 x hx with h1 | h1
    · exact h.s.la x h1
    · exact Nat.le_trans h.s.kept.size h1
  · have := h.s.la i hf; omega
  · obtain ⟨b, off, e, hb, c0, c1, c2⟩ := h.at' i x hx
    have hk : ∀ o, w'.cell? ⟨b, o, none⟩ = wr.cell? ⟨b, o, none⟩ := fun o => q3.cell (p := ⟨b, o, none⟩) hb (h.an b off none e).1
    exact ⟨b, off, e, Nat.lt_of_lt_of_le hb q3.size, (hk _).trans c0, (hk _).trans c1, (hk _).trans c2⟩
  · rcases q2 b hf with h1 | h1
    · exact (h.an b off s e).1 h1
    · have := (h.an b off s e).2; omega
end Go.Proofs.Ytaiaahcblohknaa
