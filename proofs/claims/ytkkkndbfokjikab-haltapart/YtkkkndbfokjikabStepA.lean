/- What is proved: one step of a script on a tree of stops and on the document's own tree: both answer alike, and both are again the same tree; nothing outside them turns. -/
import Derived.Test.YtkkkndbfokjikabGroup
namespace Go.Proofs.Ytkkkndbfokjikab
open Go.Conc Go.RowKit

/-- What holds behind a step. -/
def SP (w : World) (T : Tr) (lg rb rg : Nat) (e : Ending) (w' : World) : Prop := ∃ (T' : Tr) (lg' lcap' rg' rcap' : Nat), e = .returned (.tuple #[.slice (some ⟨lg', 0, none⟩) T'.n lcap', .bool true]) ∧ GH w' T' lg' lcap' rb rg' rcap' ∧
  (∀ k, FootG T' lg' rb rg' k → FootG T lg rb rg k ∨ w.heap.size ≤ k) ∧ Same (FootG T lg rb rg) w w'

section
variable {w : World} {T : Tr} {lg lcap rb rg rcap : Nat}
/-- In the world with the step's own copy. -/
theorem GH.box (G : GH w T lg lcap rb rg rcap) (o : Obj) : GH (w.alloc o) T lg lcap rb rg rcap ∧ Same (FootG T lg rb rg) w (w.alloc o) :=
  ⟨G.kept ((Same.refl (fun _ => False) w).alloc o) fun _ _ h => h, (Same.refl _ w).alloc o⟩
/-- The step's own copy, behind a call. -/
theorem GH.copy (G : GH w T lg lcap rb rg rcap) {c : Array Value} {e : TypeId} {S : Nat → Prop} {w2 : World} (s : Same S (w.alloc (.cells c e)) w2) (hs : ∀ k, S k → FootG T lg rb rg k) : w2.heap[w.heap.size]? = some (.cells c e (0, 0)) :=
  (s.block _ (by simp) fun h => by have := G.lt (hs _ h); omega).trans (heap_alloc_new w _)
end

set_option maxRecDepth 100000 in
set_option maxHeartbeats 800000 in
theorem step_out {w : World} {T : Tr} {lg lcap rb rg rcap : Nat} (G : GH w T lg lcap rb rg rcap) (K A N : Int) (hA : A < 0 ∨ (T.n : Int) ≤ A) :
    Calls Try.prog 7 #[.slice (some ⟨lg, 0, none⟩) T.n lcap, .pointer (some ⟨rb, 0, none⟩), .agg #[.int .i64 K, .int .i64 A, .int .i64 N]] w (SP w T lg rb rg) := by
  have hnot : ∀ (x : Bool) (w : World), (Op.unary .not (.bool x)).run Try.prog w = .ok (.bool (!x)) w := fun _ _ => rfl
  obtain ⟨G1, S1⟩ := G.box (.cells #[.int .i64 K, .int .i64 A, .int .i64 N] 37)
  have HH : Hid _ := rhas_no G1.r A hA
  have HG : Hid _ := G1
  have HS : Hid _ := S1
  clear G G1 S1 hA
  go_enter Try.func7, Try.ntmps7
  go_wp2_with (go_at_call 14; refine Calls.mono HH.out ?_; rintro e w1 ⟨rfl, rfl⟩)
  go_ret2
  exact ⟨T, lg, lcap, rg, rcap, rfl, HG.out, fun k hk => .inl hk, HS.out⟩

set_option maxRecDepth 100000 in
set_option maxHeartbeats 800000 in
theorem step_other {w : World} {T : Tr} {lg lcap rb rg rcap : Nat} (G : GH w T lg lcap rb rg rcap) (K : Int) (i : Nat) (N : Int) (hi : i < T.n) (k1 : (K == 1) = false) (k2 : (K == 2) = false) (k3 : (K == 3) = false) (k4 : (K == 4) = false) :
    Calls Try.prog 7 #[.slice (some ⟨lg, 0, none⟩) T.n lcap, .pointer (some ⟨rb, 0, none⟩), .agg #[.int .i64 K, .int .i64 i, .int .i64 N]] w (SP w T lg rb rg) := by
  have hnot : ∀ (x : Bool) (w : World), (Op.unary .not (.bool x)).run Try.prog w = .ok (.bool (!x)) w := fun _ _ => rfl
  obtain ⟨G1, S1⟩ := G.box (.cells #[.int .i64 K, .int .i64 i, .int .i64 N] 37)
  have HH : Hid _ := rhas_yes G1.r i hi
  have hin : (i : Int) < (T.n : Int) := by omega
  have tin : decide ((T.n : Int) ≤ (i : Int)) = false := by simp only [decide_eq_false_iff_not]; omega
  have hat := G1.at hi
  have HG : Hid _ := G1
  have HS : Hid _ := S1
  clear G G1 S1
  go_enter Try.func7, Try.ntmps7
  go_wp2_with (go_at_call 14; refine Calls.mono HH.out ?_; rintro e w1 ⟨rfl, hw1⟩; subst w1)
  go_ret2
  exact ⟨T, lg, lcap, rg, rcap, rfl, HG.out, fun k hk => .inl hk, HS.out⟩

set_option maxRecDepth 100000 in
set_option maxHeartbeats 800000 in
theorem step_cancel_dead {w : World} {T : Tr} {lg lcap rb rg rcap : Nat} (G : GH w T lg lcap rb rg rcap) (i : Nat) (N : Int) (hi : i < T.n) (hd : T.cause i ≠ 0) :
    Calls Try.prog 7 #[.slice (some ⟨lg, 0, none⟩) T.n lcap, .pointer (some ⟨rb, 0, none⟩), .agg #[.int .i64 2, .int .i64 i, .int .i64 N]] w (SP w T lg rb rg) := by
  have hnot : ∀ (x : Bool) (w : World), (Op.unary .not (.bool x)).run Try.prog w = .ok (.bool (!x)) w := fun _ _ => rfl
  obtain ⟨G1, S1⟩ := G.box (.cells #[.int .i64 2, .int .i64 i, .int .i64 N] 37)
  have HH : Hid _ := rhas_yes G1.r i hi
  have hin : (i : Int) < (T.n : Int) := by omega
  have tin : decide ((T.n : Int) ≤ (i : Int)) = false := by simp only [decide_eq_false_iff_not]; omega
  have hat := G1.at hi
  have HC : Hid _ := cancel_dead _ G1.h i hi hd
  have HG : Hid _ := G1
  have HS : Hid _ := S1
  have HB : Hid (∀ w2, Same (Foot T) (w.alloc (.cells #[.int .i64 2, .int .i64 i, .int .i64 N] 37)) w2 → w2.heap[w.heap.size]? = some (.cells #[.int .i64 2, .int .i64 i, .int .i64 N] 37 (0, 0))) := fun w2 s2 => G.copy s2 fun k hk => .inl hk
  clear G G1 S1
  go_enter Try.func7, Try.ntmps7
  go_wp2_with (go_at_call 14; refine Calls.mono HH.out ?_; rintro e w1 ⟨rfl, hw1⟩; subst w1)
  refine Calls.mono HC.out ?_
  rintro e w2 ⟨rfl, h2, s2⟩
  have hbx := HB.out w2 s2
  have x1 : w2.cell? ⟨w.heap.size, 1, none⟩ = some (.int .i64 i) := (cell_of hbx 1).trans rfl
  have HR : Hid _ := rcancel_dead (HG.out.ref s2) i hi hd
  have H2 : Hid _ := h2
  have S2 : Hid _ := s2
  clear hbx h2 s2
  go_wp2_with fail
  refine Calls.mono HR.out ?_
  rintro e w3 ⟨rfl, hw3⟩
  subst w3
  go_wp2_with fail
  go_ret2
  obtain ⟨q1, q2⟩ := HG.out.both (L := T.left) (C := T.cause) H2.out S2.out (HG.out.ref S2.out) (Same.refl _ _) HG.out.rng HG.out.cl
  exact ⟨T, lg, lcap, rg, rcap, rfl, q1, fun k hk => .inl hk, HS.out.trans' q2⟩

set_option maxRecDepth 100000 in
set_option maxHeartbeats 800000 in
theorem step_cancel_live {w : World} {T : Tr} {lg lcap rb rg rcap : Nat} (G : GH w T lg lcap rb rg rcap) (i : Nat) (N : Int) (hi : i < T.n) (hd : T.cause i = 0) :
    Calls Try.prog 7 #[.slice (some ⟨lg, 0, none⟩) T.n lcap, .pointer (some ⟨rb, 0, none⟩), .agg #[.int .i64 2, .int .i64 i, .int .i64 N]] w (SP w T lg rb rg) := by
  have hnot : ∀ (x : Bool) (w : World), (Op.unary .not (.bool x)).run Try.prog w = .ok (.bool (!x)) w := fun _ _ => rfl
  obtain ⟨G1, S1⟩ := G.box (.cells #[.int .i64 2, .int .i64 i, .int .i64 N] 37)
  have HH : Hid _ := rhas_yes G1.r i hi
  have hin : (i : Int) < (T.n : Int) := by omega
  have tin : decide ((T.n : Int) ≤ (i : Int)) = false := by simp only [decide_eq_false_iff_not]; omega
  have hat := G1.at hi
  have HC : Hid _ := cancel_live _ G1.h i hi hd
  have HG : Hid _ := G1
  have HS : Hid _ := S1
  have HB : Hid (∀ w2, Same (Foot T) (w.alloc (.cells #[.int .i64 2, .int .i64 i, .int .i64 N] 37)) w2 → w2.heap[w.heap.size]? = some (.cells #[.int .i64 2, .int .i64 i, .int .i64 N] 37 (0, 0))) := fun w2 s2 => G.copy s2 fun k hk => .inl hk
  clear G G1 S1
  go_enter Try.func7, Try.ntmps7
  go_wp2_with (go_at_call 14; refine Calls.mono HH.out ?_; rintro e w1 ⟨rfl, hw1⟩; subst w1)
  refine Calls.mono HC.out ?_
  rintro e w2 ⟨rfl, h2, s2⟩
  have hbx := HB.out w2 s2
  have x1 : w2.cell? ⟨w.heap.size, 1, none⟩ = some (.int .i64 i) := (cell_of hbx 1).trans rfl
  have HR : Hid _ := rcancel_live (HG.out.ref s2) HG.out.h.par HG.out.ps HG.out.cl (by have := HG.out.n2; omega) i hi hd
  have H2 : Hid _ := h2
  have S2 : Hid _ := s2
  clear hbx h2 s2
  go_wp2_with fail
  refine Calls.mono HR.out ?_
  rintro e w3 ⟨rfl, r3, s3⟩
  have R3 : Hid _ := r3
  have S3 : Hid _ := s3
  clear r3 s3
  go_wp2_with fail
  go_ret2
  obtain ⟨q1, q2⟩ := HG.out.both (L := T.left) (C := sw T.par (upd T.cause i 1) T.n) H2.out S2.out R3.out S3.out HG.out.rng (closed_sw _ _ _ HG.out.h.par)
  exact ⟨{ T with cause := sw T.par (upd T.cause i 1) T.n }, lg, lcap, rg, rcap, rfl, q1, fun k hk => .inl hk, HS.out.trans' q2⟩

set_option maxRecDepth 100000 in
set_option maxHeartbeats 800000 in
theorem step_beat_dead {w : World} {T : Tr} {lg lcap rb rg rcap : Nat} (G : GH w T lg lcap rb rg rcap) (i : Nat) (N : Int) (hi : i < T.n) (hd : T.cause i ≠ 0) :
    Calls Try.prog 7 #[.slice (some ⟨lg, 0, none⟩) T.n lcap, .pointer (some ⟨rb, 0, none⟩), .agg #[.int .i64 3, .int .i64 i, .int .i64 N]] w (SP w T lg rb rg) := by
  have hnot : ∀ (x : Bool) (w : World), (Op.unary .not (.bool x)).run Try.prog w = .ok (.bool (!x)) w := fun _ _ => rfl
  obtain ⟨G1, S1⟩ := G.box (.cells #[.int .i64 3, .int .i64 i, .int .i64 N] 37)
  have HH : Hid _ := rhas_yes G1.r i hi
  have hin : (i : Int) < (T.n : Int) := by omega
  have tin : decide ((T.n : Int) ≤ (i : Int)) = false := by simp only [decide_eq_false_iff_not]; omega
  have hat := G1.at hi
  have HC : Hid _ := beat_dead _ G1.h i hi hd
  have HG : Hid _ := G1
  have HS : Hid _ := S1
  have HB : Hid (∀ w2, Same (Foot T) (w.alloc (.cells #[.int .i64 3, .int .i64 i, .int .i64 N] 37)) w2 → w2.heap[w.heap.size]? = some (.cells #[.int .i64 3, .int .i64 i, .int .i64 N] 37 (0, 0))) := fun w2 s2 => G.copy s2 fun k hk => .inl hk
  clear G G1 S1
  go_enter Try.func7, Try.ntmps7
  go_wp2_with (go_at_call 14; refine Calls.mono HH.out ?_; rintro e w1 ⟨rfl, hw1⟩; subst w1)
  refine Calls.mono HC.out ?_
  rintro e w2 ⟨rfl, h2, s2⟩
  have hbx := HB.out w2 s2
  have x1 : w2.cell? ⟨w.heap.size, 1, none⟩ = some (.int .i64 i) := (cell_of hbx 1).trans rfl
  have HR : Hid _ := rbeat_dead (HG.out.ref s2) i hi hd
  have H2 : Hid _ := h2
  have S2 : Hid _ := s2
  clear hbx h2 s2
  go_wp2_with fail
  refine Calls.mono HR.out ?_
  rintro e w3 ⟨rfl, hw3⟩
  subst w3
  go_wp2_with fail
  go_ret2
  obtain ⟨q1, q2⟩ := HG.out.both (L := T.left) (C := T.cause) H2.out S2.out (HG.out.ref S2.out) (Same.refl _ _) HG.out.rng HG.out.cl
  exact ⟨T, lg, lcap, rg, rcap, rfl, q1, fun k hk => .inl hk, HS.out.trans' q2⟩

set_option maxRecDepth 100000 in
set_option maxHeartbeats 800000 in
theorem step_beat_spent {w : World} {T : Tr} {lg lcap rb rg rcap : Nat} (G : GH w T lg lcap rb rg rcap) (i : Nat) (N : Int) (hi : i < T.n) (hd : T.cause i = 0) (a : Nat) (hs : spent T.par T.left i = some a) :
    Calls Try.prog 7 #[.slice (some ⟨lg, 0, none⟩) T.n lcap, .pointer (some ⟨rb, 0, none⟩), .agg #[.int .i64 3, .int .i64 i, .int .i64 N]] w (SP w T lg rb rg) := by
  have hnot : ∀ (x : Bool) (w : World), (Op.unary .not (.bool x)).run Try.prog w = .ok (.bool (!x)) w := fun _ _ => rfl
  obtain ⟨G1, S1⟩ := G.box (.cells #[.int .i64 3, .int .i64 i, .int .i64 N] 37)
  have HH : Hid _ := rhas_yes G1.r i hi
  have hin : (i : Int) < (T.n : Int) := by omega
  have tin : decide ((T.n : Int) ≤ (i : Int)) = false := by simp only [decide_eq_false_iff_not]; omega
  have hat := G1.at hi
  have HC : Hid _ := beat_spent _ G1.h G1.cl i hi hd a hs
  have HG : Hid _ := G1
  have HS : Hid _ := S1
  have HB : Hid (∀ w2, Same (Foot T) (w.alloc (.cells #[.int .i64 3, .int .i64 i, .int .i64 N] 37)) w2 → w2.heap[w.heap.size]? = some (.cells #[.int .i64 3, .int .i64 i, .int .i64 N] 37 (0, 0))) := fun w2 s2 => G.copy s2 fun k hk => .inl hk
  clear G G1 S1
  go_enter Try.func7, Try.ntmps7
  go_wp2_with (go_at_call 14; refine Calls.mono HH.out ?_; rintro e w1 ⟨rfl, hw1⟩; subst w1)
  refine Calls.mono HC.out ?_
  rintro e w2 ⟨rfl, h2, s2⟩
  have hbx := HB.out w2 s2
  have x1 : w2.cell? ⟨w.heap.size, 1, none⟩ = some (.int .i64 i) := (cell_of hbx 1).trans rfl
  have HR : Hid _ := rbeat_live (HG.out.ref s2) HG.out.h.par HG.out.ps HG.out.cl HG.out.rng (by have := HG.out.n2; omega) i hi hd
  have H2 : Hid _ := h2
  have S2 : Hid _ := s2
  clear hbx h2 s2
  go_wp2_with fail
  refine Calls.mono HR.out ?_
  rintro e w3 ⟨h3, s3⟩
  rcases h3 with ⟨a', ha', rfl, r3⟩ | ⟨ha', -, -⟩
  rotate_left
  · rw [hs] at ha'; cases ha'
  obtain rfl : a' = a := by rw [hs] at ha'; cases ha'; rfl
  have R3 : Hid _ := r3
  have S3 : Hid _ := s3
  clear r3 s3 hs ha'
  go_wp2_with fail
  go_ret2
  obtain ⟨q1, q2⟩ := HG.out.both (L := T.left) (C := sw T.par (upd T.cause a' 2) T.n) H2.out S2.out R3.out S3.out HG.out.rng (closed_sw _ _ _ HG.out.h.par)
  exact ⟨{ T with cause := sw T.par (upd T.cause a' 2) T.n }, lg, lcap, rg, rcap, rfl, q1, fun k hk => .inl hk, HS.out.trans' q2⟩

set_option maxRecDepth 100000 in
set_option maxHeartbeats 800000 in
theorem step_beat_take {w : World} {T : Tr} {lg lcap rb rg rcap : Nat} (G : GH w T lg lcap rb rg rcap) (i : Nat) (N : Int) (hi : i < T.n) (hd : T.cause i = 0) (hs : spent T.par T.left i = none) :
    Calls Try.prog 7 #[.slice (some ⟨lg, 0, none⟩) T.n lcap, .pointer (some ⟨rb, 0, none⟩), .agg #[.int .i64 3, .int .i64 i, .int .i64 N]] w (SP w T lg rb rg) := by
  have hnot : ∀ (x : Bool) (w : World), (Op.unary .not (.bool x)).run Try.prog w = .ok (.bool (!x)) w := fun _ _ => rfl
  obtain ⟨G1, S1⟩ := G.box (.cells #[.int .i64 3, .int .i64 i, .int .i64 N] 37)
  have HH : Hid _ := rhas_yes G1.r i hi
  have hin : (i : Int) < (T.n : Int) := by omega
  have tin : decide ((T.n : Int) ≤ (i : Int)) = false := by simp only [decide_eq_false_iff_not]; omega
  have hat := G1.at hi
  have HC : Hid _ := beat_take _ G1.h G1.rng i hi hd hs
  have HG : Hid _ := G1
  have HS : Hid _ := S1
  have HB : Hid (∀ w2, Same (Foot T) (w.alloc (.cells #[.int .i64 3, .int .i64 i, .int .i64 N] 37)) w2 → w2.heap[w.heap.size]? = some (.cells #[.int .i64 3, .int .i64 i, .int .i64 N] 37 (0, 0))) := fun w2 s2 => G.copy s2 fun k hk => .inl hk
  clear G G1 S1
  go_enter Try.func7, Try.ntmps7
  go_wp2_with (go_at_call 14; refine Calls.mono HH.out ?_; rintro e w1 ⟨rfl, hw1⟩; subst w1)
  refine Calls.mono HC.out ?_
  rintro e w2 ⟨rfl, h2, s2⟩
  have hbx := HB.out w2 s2
  have x1 : w2.cell? ⟨w.heap.size, 1, none⟩ = some (.int .i64 i) := (cell_of hbx 1).trans rfl
  have HR : Hid _ := rbeat_live (HG.out.ref s2) HG.out.h.par HG.out.ps HG.out.cl HG.out.rng (by have := HG.out.n2; omega) i hi hd
  have H2 : Hid _ := h2
  have S2 : Hid _ := s2
  clear hbx h2 s2
  go_wp2_with fail
  refine Calls.mono HR.out ?_
  rintro e w3 ⟨h3, s3⟩
  rcases h3 with ⟨a', ha', -, -⟩ | ⟨-, rfl, r3⟩
  · rw [hs] at ha'; cases ha'
  have R3 : Hid _ := r3
  have S3 : Hid _ := s3
  have HN : Hid _ := hs
  clear r3 s3 hs
  go_wp2_with fail
  go_ret2
  obtain ⟨q1, q2⟩ := HG.out.both (L := dec T.par T.left i) (C := T.cause) H2.out S2.out R3.out S3.out (rng_dec _ _ _ _ HG.out.h.par hi HG.out.rng HN.out) HG.out.cl
  exact ⟨{ T with left := dec T.par T.left i }, lg, lcap, rg, rcap, rfl, q1, fun k hk => .inl hk, HS.out.trans' q2⟩
end Go.Proofs.Ytkkkndbfokjikab
