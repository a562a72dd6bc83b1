/- What is proved: the making step of a script: the tree and the document's own tree refuse alike, or both have one stop more; nothing outside them turns. -/
import Derived.Test.YtkkkndbfokjikabStepB
namespace Go.Proofs.Ytkkkndbfokjikab
open Go.Conc Go.RowKit

theorem GH.grown {W w2 w3 w4 : World} {T : Tr} {lg lcap rb rg rcap : Nat} (G : GH W T lg lcap rb rg rcap) {i : Nat} (hi : i < T.n) (hn : T.n < 256) {N : Int} (N0 : 0 ≤ N) (N1 : N ≤ 1099511627776) {sv : Value}
    (h2 : Holds 0 w2 (kidTr T i N (born (T.cause i)) sv (W.heap.size + 1) W.heap.size)) (k2 : ∀ k, sv.ownBlock = some k → T.sv.ownBlock = some k ∨ W.heap.size ≤ k) (s2 : Same (Foot T) W w2)
    {g' cap' : Nat} (r3 : RefH w3 rb g' cap' (T.n + 1) (upd T.par T.n (some i)) (upd T.left T.n N) (upd T.cause T.n (born (T.cause i)))) (hg' : g' = rg ∨ w2.heap.size ≤ g') (s3 : Same (fun k => k = rb ∨ k = rg) w2 w3)
    {lg' lcap' : Nat} (hg : (w3.alloc (.cells #[.pointer (some ⟨W.heap.size + 1, 0, none⟩)] 24)).grownBy w4 (Value.slice (some ⟨lg, 0, none⟩) T.n lcap).ownBlock)
    (hown : w4.ownsRow 0 24 1 (.slice (some ⟨lg', 0, none⟩) (T.n + 1) lcap') (T.n + 1) (ptrs T.blk T.n ++ [.pointer (some ⟨W.heap.size + 1, 0, none⟩)]))
    (hat : (Value.slice (some ⟨lg', 0, none⟩) (T.n + 1) lcap').ownBlock = (Value.slice (some ⟨lg, 0, none⟩) T.n lcap).ownBlock ∨ (Value.slice (some ⟨lg', 0, none⟩) (T.n + 1) lcap').ownBlock = some (w3.alloc (.cells #[.pointer (some ⟨W.heap.size + 1, 0, none⟩)] 24)).heap.size) :
    GH w4 (kidTr T i N (born (T.cause i)) sv (W.heap.size + 1) W.heap.size) lg' lcap' rb g' cap' ∧ (∀ k, FootG (kidTr T i N (born (T.cause i)) sv (W.heap.size + 1) W.heap.size) lg' rb g' k → FootG T lg rb rg k ∨ W.heap.size ≤ k) ∧ Same (FootG T lg rb rg) W w4 := by
  have hf := fun k => foot_kid (T := T) (i := i) (beats := N) (c := born (T.cause i)) (sv := sv) (b := W.heap.size + 1) (ch := W.heap.size) k2 (Nat.le_succ _) (Nat.le_refl _) k
  have llg : lg < W.heap.size := G.lt (.inr (.inl rfl))
  have lrb : rb < W.heap.size := G.lt (.inr (.inr (.inl rfl)))
  have lrg : rg < W.heap.size := G.lt (.inr (.inr (.inr rfl)))
  have z2 := s2.size
  have z3 := s3.size
  have s4 : Same (fun k => k = lg) w3 w4 := ((Same.refl _ w3).alloc _).trans' ⟨hg.os, hg.tape, hg.output, hg.size, fun k hk hn => hg.block k hk fun e => hn (by simpa [Value.ownBlock] using e)⟩
  simp only [Value.ownBlock, Option.some.injEq, World.size_alloc] at hat
  have hp : ptrs T.blk T.n ++ [.pointer (some ⟨W.heap.size + 1, 0, none⟩)] = ptrs (upd T.blk T.n (W.heap.size + 1)) (T.n + 1) := by
    rw [ptrs_succ, upd_same, ptrs_congr (blk := upd T.blk T.n (W.heap.size + 1)) (blk' := T.blk) (fun j hj => upd_other _ _ (by omega))]
  have h3 := h2.kept s3 fun k hk => by
    rintro (rfl | rfl)
    · rcases hf _ hk with h | h
      · exact G.nrb h
      · omega
    · rcases hf _ hk with h | h
      · exact G.nrg h
      · omega
  have h4 := h3.kept s4 fun k hk => by
    rintro rfl
    rcases hf _ hk with h | h
    · exact G.nl h
    · omega
  have e1 : g' ≠ lg := by
    rcases hg' with rfl | h
    · exact G.lrg.symm
    · omega
  refine ⟨⟨h4, rng_kid G.rng N0 N1, closed_kid G.h G.cl hi, Nat.le_succ_of_le G.n1, hn, fun k k0 hk => ?_, by rw [hp] at hown; exact hown, r3.kept s4 G.lrb.symm e1, ?_⟩, ?_, ?_⟩
  · have hk : k < T.n + 1 := hk
    show ∃ p, upd T.par T.n (some i) k = some p
    by_cases e : k = T.n
    · subst e; rw [upd_same]; exact ⟨i, rfl⟩
    · rw [upd_other _ _ e]; exact G.ps k k0 (by omega)
  · show sv.ownBlock ≠ some lg'
    intro e
    rcases hat with rfl | h
    · rcases k2 _ e with h | h
      · exact G.ap h
      · omega
    · have h9 : lg' < w2.heap.size := (h2.row.lt lg' e).2
      omega
  · rintro k (hk | rfl | rfl | rfl)
    · rcases hf k hk with h | h
      · exact .inl (.inl h)
      · exact .inr h
    · rcases hat with rfl | h
      · exact .inl (.inr (.inl rfl))
      · exact .inr (by omega)
    · exact .inl (.inr (.inr (.inl rfl)))
    · rcases hg' with rfl | h
      · exact .inl (.inr (.inr (.inr rfl)))
      · exact .inr (by omega)
  · exact ((s2.mono fun k _ hk => .inl hk).trans' (s3.mono fun k _ hk => hk.elim (fun e => .inr (.inr (.inl e))) (fun e => .inr (.inr (.inr e))))).trans' (s4.mono fun k _ hk => .inr (.inl hk))

set_option maxRecDepth 100000 in
set_option maxHeartbeats 1600000 in
theorem step_child_no {w : World} {T : Tr} {lg lcap rb rg rcap : Nat} (G : GH w T lg lcap rb rg rcap) (i : Nat) (N : Int) (hi : i < T.n) (hN : N < 0 ∨ 1099511627776 < N) :
    Calls Try.prog 7 #[.slice (some ⟨lg, 0, none⟩) T.n lcap, .pointer (some ⟨rb, 0, none⟩), .agg #[.int .i64 1, .int .i64 i, .int .i64 N]] w (SP w T lg rb rg) := by
  have hnot : ∀ (x : Bool) (w : World), (Op.unary .not (.bool x)).run Try.prog w = .ok (.bool (!x)) w := fun _ _ => rfl
  obtain ⟨G1, S1⟩ := G.box (.cells #[.int .i64 1, .int .i64 i, .int .i64 N] 37)
  have HH : Hid _ := rhas_yes G1.r i hi
  have hin : (i : Int) < (T.n : Int) := by omega
  have tin : decide ((T.n : Int) ≤ (i : Int)) = false := by simp only [decide_eq_false_iff_not]; omega
  have hat := G1.at hi
  have HC : Hid _ := child_no ⟨T.blk i, 0, none⟩ N (w.alloc (.cells #[.int .i64 1, .int .i64 i, .int .i64 N] 37)) hN
  have HR : Hid _ := rchild_no rb i N (w.alloc (.cells #[.int .i64 1, .int .i64 i, .int .i64 N] 37)) hN
  have HG : Hid _ := G1
  have HS : Hid _ := S1
  clear G G1 S1 hN
  go_enter Try.func7, Try.ntmps7
  go_wp2_with (first
    | (go_at_call 14; refine Calls.mono HH.out ?_; rintro e w1 ⟨rfl, hw1⟩; subst w1)
    | (go_at_call 15; refine Calls.mono HC.out ?_; rintro e w1 ⟨rfl, hw1⟩; subst w1)
    | (go_at_call 16; refine Calls.mono HR.out ?_; rintro e w1 ⟨rfl, hw1⟩; subst w1))
  go_ret2
  exact ⟨T, lg, lcap, rg, rcap, rfl, HG.out, fun k hk => .inl hk, HS.out⟩

set_option maxRecDepth 100000 in
set_option maxHeartbeats 1600000 in
theorem step_child_many {w : World} {T : Tr} {lg lcap rb rg rcap : Nat} (G : GH w T lg lcap rb rg rcap) (i : Nat) (N : Int) (hi : i < T.n) (N0 : 0 ≤ N) (N1 : N ≤ 1099511627776) (hn : 256 ≤ T.n) :
    Calls Try.prog 7 #[.slice (some ⟨lg, 0, none⟩) T.n lcap, .pointer (some ⟨rb, 0, none⟩), .agg #[.int .i64 1, .int .i64 i, .int .i64 N]] w (SP w T lg rb rg) := by
  have hnot : ∀ (x : Bool) (w : World), (Op.unary .not (.bool x)).run Try.prog w = .ok (.bool (!x)) w := fun _ _ => rfl
  obtain ⟨G1, S1⟩ := G.box (.cells #[.int .i64 1, .int .i64 i, .int .i64 N] 37)
  have HH : Hid _ := rhas_yes G1.r i hi
  have hin : (i : Int) < (T.n : Int) := by omega
  have tin : decide ((T.n : Int) ≤ (i : Int)) = false := by simp only [decide_eq_false_iff_not]; omega
  have hat := G1.at hi
  have HC : Hid _ := child_many _ G1.h i hi N N0 N1 hn
  have HR : Hid (∀ w2, Same (Foot T) (w.alloc (.cells #[.int .i64 1, .int .i64 i, .int .i64 N] 37)) w2 → Calls Try.prog 16 #[.pointer (some ⟨rb, 0, none⟩), .int .i64 i, .int .i64 N] w2 fun e w' => e = .returned (.int .i64 11) ∧ w' = w2) :=
    fun w2 s2 => rchild_many (G1.ref s2) i N N0 N1 hn
  have HB : Hid (∀ w2, Same (Foot T) (w.alloc (.cells #[.int .i64 1, .int .i64 i, .int .i64 N] 37)) w2 → w2.heap[w.heap.size]? = some (.cells #[.int .i64 1, .int .i64 i, .int .i64 N] 37 (0, 0))) := fun w2 s2 => G.copy s2 fun k hk => .inl hk
  have HG : Hid _ := G1
  have HS : Hid _ := S1
  clear G G1 S1 N0 N1 hn
  go_enter Try.func7, Try.ntmps7
  go_wp2_with (go_at_call 14; refine Calls.mono HH.out ?_; rintro e w1 ⟨rfl, hw1⟩; subst w1)
  refine Calls.mono HC.out ?_
  rintro e w2 ⟨rfl, h2, s2⟩
  have hbx := HB.out w2 s2
  have x1 : w2.cell? ⟨w.heap.size, 1, none⟩ = some (.int .i64 i) := (cell_of hbx 1).trans rfl
  have x2 : w2.cell? ⟨w.heap.size, 2, none⟩ = some (.int .i64 N) := (cell_of hbx 2).trans rfl
  have H2 : Hid _ := h2
  have S2 : Hid _ := s2
  clear hbx h2 s2
  go_wp2_with fail
  refine Calls.mono (HR.out w2 S2.out) ?_
  rintro e w3 ⟨rfl, hw3⟩
  subst w3
  go_wp2_with fail
  go_ret2
  obtain ⟨q1, q2⟩ := HG.out.both (L := T.left) (C := T.cause) H2.out S2.out (HG.out.ref S2.out) (Same.refl _ _) HG.out.rng HG.out.cl
  exact ⟨T, lg, lcap, rg, rcap, rfl, q1, fun k hk => .inl hk, HS.out.trans' q2⟩

set_option maxRecDepth 100000 in
set_option maxHeartbeats 1600000 in
theorem step_child_yes {w : World} {T : Tr} {lg lcap rb rg rcap : Nat} (G : GH w T lg lcap rb rg rcap) (i : Nat) (N : Int) (hi : i < T.n) (N0 : 0 ≤ N) (N1 : N ≤ 1099511627776) (hn : T.n < 256) :
    Calls Try.prog 7 #[.slice (some ⟨lg, 0, none⟩) T.n lcap, .pointer (some ⟨rb, 0, none⟩), .agg #[.int .i64 1, .int .i64 i, .int .i64 N]] w (SP w T lg rb rg) := by
  have hnot : ∀ (x : Bool) (w : World), (Op.unary .not (.bool x)).run Try.prog w = .ok (.bool (!x)) w := fun _ _ => rfl
  obtain ⟨i0, hi0, hz0, hz1, hz2⟩ := info_parts Try.infoP
  obtain ⟨G1, S1⟩ := G.box (.cells #[.int .i64 1, .int .i64 i, .int .i64 N] 37)
  have HH : Hid _ := rhas_yes G1.r i hi
  have hin : (i : Int) < (T.n : Int) := by omega
  have tin : decide ((T.n : Int) ≤ (i : Int)) = false := by simp only [decide_eq_false_iff_not]; omega
  have hat := G1.at hi
  have HB : Hid (∀ w2, Same (Foot T) (w.alloc (.cells #[.int .i64 1, .int .i64 i, .int .i64 N] 37)) w2 → w2.heap[w.heap.size]? = some (.cells #[.int .i64 1, .int .i64 i, .int .i64 N] 37 (0, 0))) := fun w2 s2 => G.copy s2 fun k hk => .inl hk
  have HZ : Hid (w.heap.size ≤ (w.alloc (.cells #[.int .i64 1, .int .i64 i, .int .i64 N] 37)).heap.size) := by show _ ≤ _; simp
  generalize hW : w.alloc (.cells #[.int .i64 1, .int .i64 i, .int .i64 N] 37) = W at *
  have HW : Hid _ := hW
  have HC : Hid _ := child_yes _ G1.h i hi N N0 N1 hn
  have HR : Hid (∀ w2, Same (Foot T) W w2 → _) := fun w2 s2 => rchild_yes (G1.ref s2) i hi N N0 N1 hn
  have HG : Hid _ := G1
  have HS : Hid _ := S1
  have M0 : Hid _ := N0
  have M1 : Hid _ := N1
  clear G G1 S1 N0 N1
  have y0 : W.cell? ⟨w.heap.size, 0, none⟩ = some (.int .i64 1) := by rw [← hW]; simp
  have y1 : W.cell? ⟨w.heap.size, 1, none⟩ = some (.int .i64 i) := by rw [← hW]; simp
  have y2 : W.cell? ⟨w.heap.size, 2, none⟩ = some (.int .i64 N) := by rw [← hW]; simp
  clear hW
  go_enter Try.func7, Try.ntmps7
  go_wp2_with fail
  rw [HW.out]
  refine Calls.mono HH.out ?_
  rintro e w1 ⟨rfl, hw1⟩
  subst w1
  go_wp2_with fail
  refine Calls.mono HC.out ?_
  rintro e w2 ⟨rfl, sv, h2, k2, s2⟩
  have hbx := HB.out w2 s2
  have x1 : w2.cell? ⟨w.heap.size, 1, none⟩ = some (.int .i64 i) := (cell_of hbx 1).trans rfl
  have x2 : w2.cell? ⟨w.heap.size, 2, none⟩ = some (.int .i64 N) := (cell_of hbx 2).trans rfl
  have H2 : Hid _ := h2
  have S2 : Hid _ := s2
  have K2 : Hid _ := k2
  clear hbx h2 s2 k2
  go_wp2_with fail
  refine Calls.mono (HR.out w2 S2.out) ?_
  rintro e w3 ⟨rfl, g', cap', r3, hg', s3⟩
  have R3 : Hid _ := r3
  have S3 : Hid _ := s3
  have G3 : Hid _ := hg'
  have L3 : Hid (w3.ownsRow 0 24 1 (.slice (some ⟨lg, 0, none⟩) T.n lcap) T.n (ptrs T.blk T.n)) := by
    refine row_kept (row_kept HG.out.l fun k hk => S2.out.block k (HG.out.l.lt k hk).2 ?_) fun k hk => s3.block k (Nat.lt_of_lt_of_le (HG.out.l.lt k hk).2 S2.out.size) ?_
    · simp only [Value.ownBlock, Option.some.injEq] at hk; subst hk; exact HG.out.nl
    · simp only [Value.ownBlock, Option.some.injEq] at hk; subst hk
      rintro (e | e)
      · exact HG.out.lrb e
      · exact HG.out.lrg e
  clear r3 s3 hg' x1 x2 y0 y1 y2 hat
  go_wp2_with (at_builtin; go_loud (refine wpList_append_own_at _ rfl (.tmp 64) (.tmp 66) 33 rfl 0 24 i0 (.pointer none) 1 8 Try.underlying33 hi0 hz0 hz1 hz2 rfl (by decide) _ T.n (ptrs T.blk T.n) rfl (World.ownsRow.alloc L3.out _) ⟨w3.heap.size, 0, none⟩ 1 1 [.pointer (some ⟨W.heap.size + 1, 0, none⟩)] rfl rfl (cell_one_new _ _ _) (by simp [Value.oneCell']) (by unfold maxLen; omega) (by omega) (Nat.zero_le _) ?_); intro v' w4 hown' hgrow hnil hat; obtain ⟨lg', lcap', rfl⟩ := row_slice hown')
  go_ret2
  obtain ⟨q1, q2, q3⟩ := HG.out.grown hi hn M0.out M1.out H2.out K2.out S2.out R3.out G3.out S3.out hgrow hown' hat
  refine ⟨_, lg', lcap', g', cap', rfl, q1, fun k hk => ?_, HS.out.trans' q3⟩
  rcases q2 k hk with h | h
  · exact .inl h
  · have := HZ.out; exact .inr (by omega)

/-- One step, whatever it is. -/
theorem step_any {w : World} {T : Tr} {lg lcap rb rg rcap : Nat} (G : GH w T lg lcap rb rg rcap) (K A N : Int) :
    Calls Try.prog 7 #[.slice (some ⟨lg, 0, none⟩) T.n lcap, .pointer (some ⟨rb, 0, none⟩), .agg #[.int .i64 K, .int .i64 A, .int .i64 N]] w (SP w T lg rb rg) := by
  by_cases hA : A < 0 ∨ (T.n : Int) ≤ A
  · exact step_out G K A N hA
  · obtain ⟨i, rfl⟩ := Int.eq_ofNat_of_zero_le (show 0 ≤ A by omega)
    have hi : i < T.n := by omega
    by_cases k1 : K = 1
    · subst k1
      by_cases hN : N < 0 ∨ 1099511627776 < N
      · exact step_child_no G i N hi hN
      · by_cases hn : 256 ≤ T.n
        · exact step_child_many G i N hi (by omega) (by omega) hn
        · exact step_child_yes G i N hi (by omega) (by omega) (by omega)
    by_cases k2 : K = 2
    · subst k2
      by_cases hd : T.cause i = 0
      · exact step_cancel_live G i N hi hd
      · exact step_cancel_dead G i N hi hd
    by_cases k3 : K = 3
    · subst k3
      by_cases hd : T.cause i = 0
      · cases hs : spent T.par T.left i with
        | none => exact step_beat_take G i N hi hd hs
        | some a => exact step_beat_spent G i N hi hd a hs
      · exact step_beat_dead G i N hi hd
    by_cases k4 : K = 4
    · subst k4
      exact step_told G i N hi
    exact step_other G K i N hi (by simpa using k1) (by simpa using k2) (by simpa using k3) (by simpa using k4)
end Go.Proofs.Ytkkkndbfokjikab
