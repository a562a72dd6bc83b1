/- What is proved: two stores beside one another, apart in memory: a call on the one leaves the other as it is. -/
import Derived.Test.YtnjpbagfbklofaaCPrnL
import Derived.Test.YtnjpbagfbklofaaCAnch
namespace Go.Proofs.Ytnjpbagfbklofaa
open Go.RowKit

/-- Two stores, made since w. -/
structure Two (w wr : World) (sb ob : Nat) (A B : List En) (F G : Nat → Prop) : Prop where
  a : St F wr sb A
  b : St G wr ob B
  dis : ∀ x, F x → ¬ G x
  la : ∀ x, F x → w.heap.size ≤ x
  lb : ∀ x, G x → w.heap.size ≤ x
  kept : Kept w wr
theorem Two.swap {w wr : World} {sb ob : Nat} {A B : List En} {F G : Nat → Prop} (h : Two w wr sb ob A B F G) : Two w wr ob sb B A G F := ⟨h.b, h.a, fun x hx hy => h.dis x hy hx, h.lb, h.la, h.kept⟩
theorem Two.on {w wr w' : World} {sb ob : Nat} {A B : List En} {F G : Nat → Prop} (h : Two w wr sb ob A B F G) (k : Kept wr w') : Two w w' sb ob A B F G := ⟨h.a.on k, h.b.on k, h.dis, h.la, h.lb, h.kept.trans' k⟩
theorem Two.ins {w wr w' : World} {sb ob : Nat} {A A' B : List En} {F G : Nat → Prop} (h : Two w wr sb ob A B F G) (hi : InsP F wr sb A' w') : ∃ F', Two w w' sb ob A' B F' G := by
  obtain ⟨F', q1, q2, q3⟩ := hi
  refine ⟨F', q1, h.b.off q3 (fun x hx hf => h.dis x hf hx), fun x hx hg => ?_, fun x hx => ?_, h.lb, h.kept.trans q3 (fun i hi hf => ?_)⟩
  · rcases q2 x hx with h1 | h1
    · exact h.dis x h1 hg
    · have := h.b.lt x hg; omega
  · rcases q2 x hx with h1 | h1
    · exact h.la x h1
    · exact Nat.le_trans h.kept.size h1
  · have := h.la i hf; omega
theorem Two.prn {w wr w' : World} {sb ob : Nat} {A A' B : List En} {F G : Nat → Prop} (h : Two w wr sb ob A B F G) (hs : St F w' sb A') (s : Same F wr w') : Two w w' sb ob A' B F G :=
  ⟨hs, h.b.off s (fun x hx hf => h.dis x hf hx), h.dis, h.la, h.lb, h.kept.trans s (fun i hi hf => by have := h.la i hf; omega)⟩
/-- Two new stores. -/
theorem Two.new {w w1 w2 : World} {sb ob : Nat} {G : Nat → Prop} (h1 : St (fun x => w.heap.size ≤ x ∧ x < w.heap.size + 3) w1 sb []) (k1 : Kept w w1) (h2 : St G w2 ob []) (hG : ∀ x, G x → w1.heap.size ≤ x) (k2 : Kept w1 w2) : Two w w2 sb ob [] [] (fun x => w.heap.size ≤ x ∧ x < w.heap.size + 3) G :=
  ⟨h1.on k2, h2, fun x hx hg => by have := hG x hg; have := h1.lt x hx; omega, fun x hx => hx.1, fun x hg => Nat.le_trans k1.size (hG x hg), k1.trans' k2⟩
/-- One key's chain is the same in both, and the first store has two keys alone. -/
structure Ab (a b : ByteArray) (A B : List En) (j : Nat) : Prop where
  eq : ch A a = ch B a
  ab : ∀ e ∈ A, e.key.toList = a.toList ∨ e.key.toList = b.toList
  lA : A.length ≤ j
  lB : B.length ≤ j
theorem code_congr {A B : List En} {k : ByteArray} (h : ch A k = ch B k) (x : Vn) : code A k x = code B k x := by unfold code; rw [h]
theorem Ab.insA {a b : ByteArray} {A B : List En} {j : Nat} (h : Ab a b A B j) (x : Vn) : Ab a b (inst A a x) (inst B a x) (j + 1) := by
  have hc := code_congr h.eq x
  have l1 := inst_length A a x
  have l2 := inst_length B a x
  refine ⟨?_, ?_, by have := h.lA; omega, by have := h.lB; omega⟩
  · unfold Ytnjpbagfbklofaa.inst
    rw [← hc]
    split
    · rw [ch_append, ch_append, h.eq]
    · exact h.eq
  · unfold Ytnjpbagfbklofaa.inst
    split
    · intro e he
      rcases List.mem_append.1 he with he | he
      · exact h.ab e he
      · simp only [List.mem_singleton] at he
        subst he
        exact .inl rfl
    · exact h.ab
theorem Ab.insB {a b : ByteArray} {A B : List En} {j : Nat} (h : Ab a b A B j) (hab : a.toList ≠ b.toList) (x : Vn) : Ab a b (inst A b x) B (j + 1) := by
  have l1 := inst_length A b x
  refine ⟨?_, ?_, by have := h.lA; omega, by have := h.lB; omega⟩
  · unfold Ytnjpbagfbklofaa.inst
    split
    · rw [ch_append, ch_one_other (fun e => hab e.symm), List.append_nil]
      exact h.eq
    · exact h.eq
  · unfold Ytnjpbagfbklofaa.inst
    split
    · intro e he
      rcases List.mem_append.1 he with he | he
      · exact h.ab e he
      · simp only [List.mem_singleton] at he
        subst he
        exact .inr rfl
    · exact h.ab
theorem Ab.prn {a b : ByteArray} {A B : List En} {j : Nat} (h : Ab a b A B j) (gA : Good A) (gB : Good B) (t : Int) : Ab a b (prn A t) (prn B t) j := by
  refine ⟨by rw [gA.prn_ch, gB.prn_ch, h.eq], fun e he => h.ab e (List.mem_filter.1 he).1, Nat.le_trans (prn_length A t) h.lA, Nat.le_trans (prn_length B t) h.lB⟩
theorem Ab.count {a b : ByteArray} {A B : List En} {j : Nat} (h : Ab a b A B j) (hab : a.toList ≠ b.toList) : A.length = (ch A a).length + (ch A b).length := by
  rw [length_parts A a]
  congr 1
  have : ch A b = (A.filter fun e => !isK a e).map (·.x) := by
    unfold ch
    refine congrArg _ (List.filter_congr fun e he => ?_)
    rcases h.ab e he with h1 | h1
    · simp [isK, h1, hab]
    · have : ¬ b.toList = a.toList := fun e => hab e.symm
      simp [isK, h1, this]
  rw [this, List.length_map]
end Go.Proofs.Ytnjpbagfbklofaa
