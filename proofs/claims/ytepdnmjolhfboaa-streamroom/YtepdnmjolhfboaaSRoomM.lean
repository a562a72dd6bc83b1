/- What is proved: plain facts of bytes that are written on a fresh space of N blocks of 16 bytes over a device without faults: they are taken as far as there are blocks; where there are too few all is given back; no condition. -/
import Derived.Test.YtepdnmjolhfboaaSBrkM
namespace Go.Proofs.Ytepdnmjolhfboaa
open Go.RowKit

/-- The numbers from i on, k of them. -/
def nums (i k : Nat) : List Int := (List.range' i k).map fun (n : Nat) => (n : Int)
theorem nums_len (i k : Nat) : (nums i k).length = k := by simp [nums]
theorem nums_succ (i k : Nat) : nums i (k + 1) = (i : Int) :: nums (i + 1) k := by simp [nums, List.range'_succ]
theorem nums_app (k : Nat) : nums 0 (k + 1) = nums 0 k ++ [(k : Int)] := by simp [nums, List.range'_concat]
theorem nums_mem {i k : Nat} {b : Int} (h : b ∈ nums i k) : (i : Int) ≤ b ∧ b < (i : Int) + k := by
  simp only [nums, List.mem_map, List.mem_range'_1] at h
  obtain ⟨n, h1, rfl⟩ := h
  omega
/-- The space with its first j blocks used. -/
def used (N j : Nat) : List Bool := List.replicate j true ++ List.replicate (N - j) false
theorem used_len {N j : Nat} (h : j ≤ N) : (used N j).length = N := by simp [used]; omega
theorem used_zero (N : Nat) : used N 0 = List.replicate N false := by simp [used]
theorem low_used {N j : Nat} (h : j < N) : low (used N j) = some j := by
  refine low_some.2 ⟨?_, fun i hi => ?_⟩
  · unfold used
    rw [List.getElem?_append_right (by simp), List.length_replicate, Nat.sub_self, List.getElem?_replicate, if_pos (by omega)]
  · unfold used
    rw [List.getElem?_append_left (by simpa using hi), List.getElem?_replicate, if_pos hi]
theorem low_full (N : Nat) : low (used N N) = none := by
  refine low_none.2 fun b hb => ?_
  rw [used_len (Nat.le_refl _)] at hb
  unfold used
  rw [List.getElem?_append_left (by simpa using hb), List.getElem?_replicate, if_pos hb]
theorem set_used {N j : Nat} (h : j < N) : (used N j).set j true = used N (j + 1) := by
  unfold used
  rw [List.set_append_right _ _ (by simp), List.length_replicate, Nat.sub_self, show N - j = (N - (j + 1)) + 1 by omega, List.replicate_succ (a := false), List.set_cons_zero, List.replicate_succ' (a := true)]
  simp
theorem fcnt_used {N j : Nat} : fcnt (used N j) = N - j := by
  unfold fcnt used
  rw [List.countP_append, List.countP_replicate, List.countP_replicate]
  simp
/-- Given back one by one. -/
theorem drops_run : ∀ (k i : Nat) (A C : List Bool), A.length = i → drops (nums i k) (A ++ (List.replicate k true ++ C)) = (0, A ++ (List.replicate k false ++ C))
  | 0, i, A, C, h => by simp [nums, drops]
  | k + 1, i, A, C, h => by
    have hf : free1 (A ++ (List.replicate (k + 1) true ++ C)) (i : Int) = (0, (A ++ [false]) ++ (List.replicate k true ++ C)) := by
      unfold free1
      rw [if_neg (by simp only [List.length_append, List.length_replicate]; omega), if_neg (by
        rw [List.getD_eq_getElem?_getD, Int.toNat_natCast, List.getElem?_append_right (by omega), h, Nat.sub_self, List.replicate_succ]
        simp), Int.toNat_natCast, List.set_append_right _ _ (by omega), h, Nat.sub_self, List.replicate_succ, List.cons_append, List.set_cons_zero]
      simp
    rw [nums_succ]
    simp only [drops, hf]
    rw [drops_run k (i + 1) (A ++ [false]) C (by simp [h])]
    simp [List.replicate_succ]
theorem drops_used (N j : Nat) : drops (nums 0 j) (used N j) = (0, List.replicate j false ++ List.replicate (N - j) false) := by
  have := drops_run j 0 [] (List.replicate (N - j) false) rfl
  simpa [used] using this
theorem fcnt_false (n : Nat) : fcnt (List.replicate n false) = n := by
  unfold fcnt
  rw [List.countP_replicate]
  simp
theorem false_app {N j : Nat} (h : j ≤ N) : List.replicate j false ++ List.replicate (N - j) false = List.replicate N false := by
  rw [List.replicate_append_replicate]
  congr 1
  omega
/-- Given back twice. -/
theorem drops_twice {N j : Nat} (h : j ≤ N) (h0 : 0 < j) : (drops (nums 0 j) (List.replicate N false)).1 = 44 := by
  obtain ⟨k, rfl⟩ : ∃ k, j = k + 1 := ⟨j - 1, by omega⟩
  rw [nums_succ]
  have hf : free1 (List.replicate N false) ((0 : Nat) : Int) = (44, List.replicate N false) := by
    unfold free1
    rw [if_neg (by simp only [List.length_replicate]; omega), if_pos (by rw [List.getD_eq_getElem?_getD, Int.toNat_natCast, List.getElem?_replicate, if_pos (by omega)]; rfl)]
  simp only [drops, hf]
  rw [if_neg (by decide)]

/-- So many whole blocks are written. -/
structure RS (N j : Nat) (s : WrS) : Prop where
  u : s.u = used N j
  bl : s.bl = nums 0 j
  bg : s.bg = []
  sz : s.sz = 16 * j
  br : s.br = 0
  F : s.m.F = []
  dn : s.m.down = false
  B : s.m.B = 16
  S : s.m.S = N
theorem RS.begin {N j : Nat} {s : WrS} (h : RS N j s) (hj : j < N) : s.begin = (0, { s with u := used N (j + 1), bl := nums 0 (j + 1) }) := by
  unfold WrS.begin
  rw [if_neg (by rw [h.bg]; simp), h.u, low_used hj]
  simp only
  rw [set_used hj, h.bl, ← nums_app]
theorem last_nums (j : Nat) : (nums 0 (j + 1)).getLastD 0 = (j : Int) := by
  rw [nums_app, List.getLastD_eq_getLast?, List.getLast?_append]
  simp
/-- A block that is full is written. -/
theorem RS.flush {N j : Nat} {s : WrS} (h : RS N j s) (hj : j < N) (l : List Int) (hl : l.length = 16) (n : Nat) (hn : n = 16 * (j + 1)) : ∃ s', ({ s with u := used N (j + 1), bl := nums 0 (j + 1), bg := l, sz := n } : WrS).flush = (0, s') ∧ RS N (j + 1) s' := by
  have hw := write_fit (m := s.m) (n := j) (d := l) h.dn (by rw [h.S]; exact hj) (by rw [h.B]; exact hl) h.F
  refine ⟨⟨s.m.cW1.torn (j * s.m.B) l false, used N (j + 1), nums 0 (j + 1), [], n, s.br⟩, ?_, ⟨rfl, rfl, rfl, hn, h.br, h.F, rfl, h.B, h.S⟩⟩
  unfold WrS.flush
  simp only [last_nums, hw]
  rw [if_neg (by decide)]
/-- A block's bytes. -/
theorem RS.block {N j : Nat} {s : WrS} (h : RS N j s) (hj : j < N) (l : List Int) (hl : l.length = 16) : ∃ s', wr l s = (0, s') ∧ RS N (j + 1) s' := by
  cases l with
  | nil => simp at hl
  | cons x l' =>
    have hb := h.begin hj
    rw [wr_more l' x s (by rw [hb]) (by rw [hb]; show s.bg.length + _ ≤ s.m.B; rw [h.bg, h.B, hl]; simp), hb]
    obtain ⟨s', e1, e2⟩ := h.flush hj (x :: l') hl (s.sz + (x :: l').length) (by rw [h.sz, hl]; omega)
    refine ⟨s', ?_, e2⟩
    rw [more_def]
    simp only
    rw [if_pos (by rw [h.bg, List.nil_append, hl, h.B]), ← e1]
    unfold WrS.plus
    simp only [h.bg, List.nil_append]
/-- Some bytes of a block. -/
theorem RS.some {N j : Nat} {s : WrS} (h : RS N j s) (hj : j < N) (l : List Int) (hl : 0 < l.length) (hl2 : l.length < 16) : wr l s = (0, { s with u := used N (j + 1), bl := nums 0 (j + 1), bg := l, sz := s.sz + l.length }) := by
  cases l with
  | nil => simp at hl
  | cons x l' =>
    have hb := h.begin hj
    rw [wr_more l' x s (by rw [hb]) (by rw [hb]; show s.bg.length + _ ≤ s.m.B; rw [h.bg, h.B]; simp only [List.length_nil, Nat.zero_add]; omega), hb, more_def]
    simp only
    rw [if_neg (by rw [h.bg, List.nil_append, h.B]; omega)]
    unfold WrS.plus
    simp only [h.bg, List.nil_append]
/-- A byte that there is no block for. -/
theorem RS.full {N : Nat} {s : WrS} (h : RS N N s) (l : List Int) (hl : 0 < l.length) : wr l s = (42, s.fail 42) := by
  cases l with
  | nil => simp at hl
  | cons x l' =>
    have hb : s.begin = (42, s.fail 42) := by
      unfold WrS.begin
      rw [if_neg (by rw [h.bg]; simp), h.u, low_full]
    rw [wr, hb, if_pos (show (42 : Int) ≠ 0 by decide)]
theorem RS.blocks {N : Nat} {s0 : WrS} (h0 : RS N 0 s0) : ∀ (j : Nat) (l : List Int), j ≤ N → l.length = 16 * j → ∃ s, wr l s0 = (0, s) ∧ RS N j s
  | 0, l, _, hl => by
    obtain rfl : l = [] := List.eq_nil_of_length_eq_zero (by omega)
    exact ⟨s0, rfl, h0⟩
  | j + 1, l, hj, hl => by
    obtain ⟨s, e1, e2⟩ := RS.blocks h0 j (l.take (16 * j)) (by omega) (by rw [List.length_take]; omega)
    obtain ⟨s', e3, e4⟩ := e2.block (by omega) (l.drop (16 * j)) (by rw [List.length_drop]; omega)
    refine ⟨s', ?_, e4⟩
    have := wr_app (l.take (16 * j)) (l.drop (16 * j)) s0 s e1
    rw [List.take_append_drop] at this
    rw [this, e3]
/-- The writer of the law. -/
def s0R (N : Nat) : WrS := ⟨M.made 16 N [] [] [], List.replicate N false, [], [], 0, 0⟩
theorem s0R_rs (N : Nat) : RS N 0 (s0R N) := ⟨(used_zero N).symm, rfl, rfl, rfl, rfl, rfl, rfl, rfl, rfl⟩
/-- There is too little room. -/
theorem room_no {N : Nat} {l : List Int} (h : 16 * N < l.length) : ∃ s, wr l (s0R N) = (42, s) ∧ s.bl = [] ∧ s.bg = [] ∧ s.sz = 0 ∧ s.br = 42 ∧ s.u = List.replicate N false := by
  obtain ⟨s, e1, e2⟩ := RS.blocks (s0R_rs N) N (l.take (16 * N)) (Nat.le_refl _) (by rw [List.length_take]; omega)
  have e3 := e2.full (l.drop (16 * N)) (by rw [List.length_drop]; omega)
  have := wr_app (l.take (16 * N)) (l.drop (16 * N)) (s0R N) s e1
  rw [List.take_append_drop, e3] at this
  refine ⟨s.fail 42, this, rfl, rfl, rfl, rfl, ?_⟩
  show (drops s.bl s.u).2 = _
  rw [e2.bl, e2.u, drops_used]
  exact false_app (Nat.le_refl _)
/-- There is room: what Close makes of it. -/
theorem room_yes {N : Nat} {l : List Int} (h : nblk l.length 16 ≤ N) : ∃ s, wr l (s0R N) = (0, s) ∧ s.fill.1 = 0 ∧ s.fill.2.bl = nums 0 (nblk l.length 16) ∧ s.fill.2.u = used N (nblk l.length 16) ∧ s.fill.2.br = 0 := by
  obtain ⟨q, eq⟩ : ∃ q, q = l.length / 16 := ⟨_, rfl⟩
  have hn : nblk l.length 16 = (l.length + 15) / 16 := rfl
  obtain ⟨s, e1, e2⟩ := RS.blocks (s0R_rs N) q (l.take (16 * q)) (by omega) (by rw [List.length_take]; omega)
  have ha := wr_app (l.take (16 * q)) (l.drop (16 * q)) (s0R N) s e1
  rw [List.take_append_drop] at ha
  by_cases hr : l.length % 16 = 0
  · have hd : l.drop (16 * q) = [] := List.drop_eq_nil_of_le (by omega)
    rw [hd] at ha
    have hq : nblk l.length 16 = q := by omega
    rw [hq]
    have hf : s.fill = (0, s) := by unfold WrS.fill; rw [if_pos e2.bg]
    exact ⟨s, ha, by rw [hf], by rw [hf]; exact e2.bl, by rw [hf]; exact e2.u, by rw [hf]; exact e2.br⟩
  · have hq : nblk l.length 16 = q + 1 := by omega
    rw [hq] at h ⊢
    have hdl : (l.drop (16 * q)).length = l.length - 16 * q := by rw [List.length_drop]
    rw [e2.some (by omega) (l.drop (16 * q)) (by omega) (by omega)] at ha
    refine ⟨_, ha, ?_⟩
    have hne : l.drop (16 * q) ≠ [] := by intro e; rw [e] at hdl; simp at hdl; omega
    have hf : ∀ n, (({ s with u := used N (q + 1), bl := nums 0 (q + 1), bg := l.drop (16 * q), sz := n } : WrS).fill).1 = 0 ∧ (({ s with u := used N (q + 1), bl := nums 0 (q + 1), bg := l.drop (16 * q), sz := n } : WrS).fill).2.bl = nums 0 (q + 1) ∧ (({ s with u := used N (q + 1), bl := nums 0 (q + 1), bg := l.drop (16 * q), sz := n } : WrS).fill).2.u = used N (q + 1) ∧ (({ s with u := used N (q + 1), bl := nums 0 (q + 1), bg := l.drop (16 * q), sz := n } : WrS).fill).2.br = 0 := fun n => by
      have hw := write_fit (m := s.m) (n := q) (d := l.drop (16 * q) ++ List.replicate (16 - (l.drop (16 * q)).length) 0) e2.dn (by rw [e2.S]; omega) (by rw [e2.B, List.length_append, List.length_replicate]; omega) e2.F
      unfold WrS.fill
      rw [if_neg hne]
      unfold WrS.flush
      simp only [last_nums, e2.B, hw]
      rw [if_neg (by decide)]
      exact ⟨rfl, rfl, rfl, e2.br⟩
    exact hf _
end Go.Proofs.Ytepdnmjolhfboaa
