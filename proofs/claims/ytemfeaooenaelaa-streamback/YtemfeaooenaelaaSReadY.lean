/- What is proved: Read of a broken reader or at a wrong number, Offset, Left, Input; the reader and its device lie in memory. -/
import Derived.Test.YtemfeaooenaelaaSReadX
namespace Go.Proofs.Ytemfeaooenaelaa
open Go.RowKit

set_option maxRecDepth 100000 in
set_option maxHeartbeats 800000 in
theorem read_broken {o : Nat → Nat} {t : Nat} {w : World} {p : Pl} {rb : Nat} {f : Src} {nx : Nat} {held : List Int} {off left : Nat} {br : Int} (hr : Rdr o t w p rb f nx held off left br) (hb : br ≠ 0) (n : Int) :
    Calls Try.prog 15 #[.pointer (some ⟨rb, 0, none⟩), .int .i64 n] w fun x w' => x = .returned (.tuple #[.slice none 0 0, .int .i64 br]) ∧ Kept w w' := by
  obtain ⟨na, nc, ha, hc, hra⟩ := hr
  have hl := lt_of_heap hra.obj
  have c5 : w.cell? ⟨rb, 5, none⟩ = some (.int .i64 br) := (cell_of hra.obj 5).trans rfl
  have hb' : (br != 0) = true := by simpa using hb
  clear hra hb
  go_enter Try.func15, Try.ntmps15
  go_wp2_with fail
  go_quiet (fail)
  go_wp2_with fail
  go_ret2
  exact ⟨rfl, by (repeat (first | exact Same.refl _ _ | apply Same.drewN | apply Same.drew)); done⟩

set_option maxRecDepth 100000 in
set_option maxHeartbeats 800000 in
theorem read_ask {o : Nat → Nat} {t : Nat} {w : World} {p : Pl} {rb : Nat} {f : Src} {nx : Nat} {held : List Int} {off left : Nat} (hr : Rdr o t w p rb f nx held off left 0) (n : Int) (hn : n < 0 ∨ 65536 < n) :
    Calls Try.prog 15 #[.pointer (some ⟨rb, 0, none⟩), .int .i64 n] w fun x w' => x = .returned (.tuple #[.slice none 0 0, .int .i64 81]) ∧ Kept w w' := by
  obtain ⟨na, nc, ha, hc, hra⟩ := hr
  have hl := lt_of_heap hra.obj
  have c5 : w.cell? ⟨rb, 5, none⟩ = some (.int .i64 0) := (cell_of hra.obj 5).trans rfl
  clear hra
  rcases hn with h | h
  · have t1 : decide (n < 0) = true := by simpa using h
    go_enter Try.func15, Try.ntmps15
    go_wp2_with fail
    go_ret2
    exact ⟨rfl, Same.refl _ _⟩
  · have t1 : decide (n < 0) = false := by simp; omega
    have t1' : ¬ n < 0 := by omega
    have t2 : decide (n > 65536) = true := by simpa using h
    go_enter Try.func15, Try.ntmps15
    go_wp2_with fail
    go_ret2
    exact ⟨rfl, Same.refl _ _⟩

set_option maxRecDepth 100000 in
theorem offset_any {o : Nat → Nat} {t : Nat} {w : World} {p : Pl} {rb : Nat} {f : Src} {nx : Nat} {held : List Int} {off left : Nat} {br : Int} (hr : Rdr o t w p rb f nx held off left br) :
    Calls Try.prog 16 #[.pointer (some ⟨rb, 0, none⟩)] w fun x w' => x = .returned (.int .i64 off) ∧ w' = w := by
  obtain ⟨na, nc, ha, hc, hra⟩ := hr
  have hl := lt_of_heap hra.obj
  have c3 : w.cell? ⟨rb, 3, none⟩ = some (.int .i64 off) := (cell_of hra.obj 3).trans rfl
  clear hra
  go_enter Try.func16, Try.ntmps16
  go_wp2_with fail
  go_ret
  exact ⟨rfl, rfl⟩
set_option maxRecDepth 100000 in
theorem left_any8 {o : Nat → Nat} {t : Nat} {w : World} {p : Pl} {rb : Nat} {f : Src} {nx : Nat} {held : List Int} {off left : Nat} {br : Int} (hr : Rdr o t w p rb f nx held off left br) :
    Calls Try.prog 17 #[.pointer (some ⟨rb, 0, none⟩)] w fun x w' => x = .returned (.int .i64 left) ∧ w' = w := by
  obtain ⟨na, nc, ha, hc, hra⟩ := hr
  have hl := lt_of_heap hra.obj
  have c4 : w.cell? ⟨rb, 4, none⟩ = some (.int .i64 left) := (cell_of hra.obj 4).trans rfl
  clear hra
  go_enter Try.func17, Try.ntmps17
  go_wp2_with fail
  go_ret
  exact ⟨rfl, rfl⟩

def InputP (o : Nat → Nat) (t : Nat) (w : World) (m : M) (p : Pl) (x : Ending) (w' : World) : Prop :=
  ∃ rb o', x = .returned (.pointer (some ⟨rb, 0, none⟩)) ∧ w.heap.size ≤ rb ∧ Step (fun _ => False) o w o' w' ∧ Rdr o' t w' p rb .inp 0 [] 0 m.inp.length 0 ∧ RI .inp m (0 + m.inp.length) 0 0 []
set_option maxRecDepth 100000 in
set_option maxHeartbeats 800000 in
theorem sinput_any {o : Nat → Nat} (t : Nat) {w : World} {m : M} {p : Pl} (hd : Dv w m p) :
    Calls Try.prog 14 #[.pointer (some ⟨p.db, 0, none⟩)] w (InputP o t w m p) := by
  have HI : Hid _ := input_any hd
  have hin := hd.good.inp
  have HP : Hid (∀ W rb, Kept w W → w.heap.size ≤ rb → W.heap[rb]? = some (rdO (srcV .inp p none 0) 0 none 0 0 0 m.inp.length 0) → InputP o t w m p (.returned (.pointer (some ⟨rb, 0, none⟩))) W) := fun W rb k hrb hob =>
    ⟨rb, tagN w t o, rfl, hrb, ⟨k, fun k hk => tagN_old hk⟩, ⟨none, 0, none, 0, hob, tagN_new hrb, NumsAt.nil _ _, fun k hk => absurd hk.1 (by simp [Src.nums]), by simp [Src.nums], BytesAt.nil _ _, fun k hk => absurd hk.1 (by simp), by simp, by omega, fun _ => ⟨rfl, rfl⟩, (fun ad e => by cases e)⟩,
      ⟨Nat.zero_le _, by omega, fun _ => ⟨by omega, by simp⟩, fun L e => (by cases e)⟩⟩
  clear hd
  go_enter Try.func14, Try.ntmps14
  go_wp2_with fail
  refine Calls.mono HI.out ?_
  rintro x w1 ⟨a, cap, rfl, q1, q2, k1⟩
  have K1 : Hid _ := k1
  clear q1 q2 k1
  go_wp2_with fail
  go_ret
  exact HP.out _ _ (K1.out.alloc _) K1.out.size (heap_new w1 _)
end Go.Proofs.Ytemfeaooenaelaa
