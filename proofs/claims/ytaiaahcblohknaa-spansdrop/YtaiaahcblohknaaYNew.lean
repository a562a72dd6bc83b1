/- What is proved: New makes an empty forest; Count tells how many spans there are, Height how high a key's tree is; the forest lies in memory. -/
import Derived.Test.YtaiaahcblohknaaYSto
import Derived.Test.YtaiaahcblohknaaYSoon
namespace Go.Proofs.Ytaiaahcblohknaa
open Go.RowKit

abbrev nd0O : Obj := .cells #[.int .i64 0, .int .i64 0, .int .i64 0, .int .i64 0, .int .i64 0, .int .i64 0, .int .i64 9223372036854775807, .int .i64 (-9223372036854775808)] 74 (0, 0)
abbrev arO (nb : Nat) : Obj := .cells #[.slice (some ⟨nb, 0, none⟩) 1 1, .int .i64 0] 51 (0, 0)
theorem loadVar_ar {w : World} {b nb : Nat} (h : w.heap[b]? = some (arO nb)) : (loadVar 51 ⟨b, 0, none⟩).run Try.prog w = .ok (.agg #[.slice (some ⟨nb, 0, none⟩) 1 1, .int .i64 0]) w := by
  have c0 := (cell_of h 0).trans (rfl : (#[Value.slice (some ⟨nb, 0, none⟩) 1 1, Value.int .i64 0] : Array Value)[0]? = _)
  have c1 := (cell_of h 1).trans (rfl : (#[Value.slice (some ⟨nb, 0, none⟩) 1 1, Value.int .i64 0] : Array Value)[1]? = _)
  clear h
  go_simp
set_option maxRecDepth 100000 in
set_option maxHeartbeats 1600000 in
theorem newArena14 (w : World) : Calls Try.prog 17 #[] w fun r w' => ∃ nb, r = .returned (.agg #[.slice (some ⟨nb, 0, none⟩) 1 1, .int .i64 0]) ∧ w'.heap[nb]? = some nd0O ∧ w.heap.size ≤ nb ∧ Kept w w' := by
  go_enter Try.func17, Try.ntmps17
  go_wp2_with fail
  have hb := two_boxes w (arO (w.heap.size + 1)) nd0O
  refine bodyPost_ret (results_c (a := 0) (t := 51) rfl rfl (loadVar_ar hb.1)) rfl ?_
  exact ⟨w.heap.size + 1, rfl, hb.2.1, by omega, hb.2.2⟩
set_option maxRecDepth 100000 in
set_option maxHeartbeats 1600000 in
theorem new14 (w : World) : Calls Try.prog 6 #[] w fun r w' => ∃ fb F, r = .returned (.pointer (some ⟨fb, 0, none⟩)) ∧ Fo F w' fb [] 0 ∧ (∀ b, F b → w.heap.size ≤ b) ∧ Kept w w' := by
  have hmm := @run_makeMap Try.prog
  have HN : Hid _ := newArena14 w
  go_enter Try.func6, Try.ntmps6
  go_wp2_with fail
  refine Calls.mono HN.out ?_
  rintro r w1 ⟨nb, rfl, hn, hnb, k1⟩
  have HNN : Hid _ := hn
  have K1 : Hid _ := k1
  have HNB : Hid _ := hnb
  clear hn k1 hnb HN
  go_wp2_with fail
  go_ret
  have k2 : Kept w1 ((w1.alloc (.map #[] 0)).alloc (.cells #[.slice (some ⟨nb, 0, none⟩) 1 1, .int .i64 0, .map (some w1.heap.size), .int .i64 0, .int .i64 0] 55 (0, 0))) := ((Same.refl _ w1).alloc _).alloc _
  have o1 := tight (World.ownsMap_made (H := Value) w1 Try.prog 9 rawE)
  have hb := two_boxes w1 (.map #[] 0) (.cells #[.slice (some ⟨nb, 0, none⟩) 1 1, .int .i64 0, .map (some w1.heap.size), .int .i64 0, .int .i64 0] 55 (0, 0))
  have hlt := lt_of_heap HNN.out
  have hs1 := K1.out.size
  refine ⟨w1.heap.size + 1, fun b => b = w1.heap.size + 1 ∨ b = nb ∨ b = w1.heap.size, rfl, ⟨nb, 1, 0, w1.heap.size, 0, [nd0], .map [], fun _ => .nil, [], ⟨⟨hb.2.1, ?_⟩, o1.alloc _, fun k => .inl ⟨rfl, rfl⟩, .inl rfl, .inr (.inl rfl), .inr (.inr rfl), fun b hb => ?_⟩, Fp.nil 0 rfl, fun y hy => by simp at hy, fun y hy => by simp at hy, by simp, by simp⟩, fun b hb => ?_, Same.trans' K1.out k2⟩
  · exact ⟨_, (k2.block nb hlt (fun e => e)).trans HNN.out, by simp, by unfold maxLen; omega, rfl, rfl⟩
  · simp only [World.size_alloc]
    rcases hb with rfl | rfl | rfl <;> omega
  · have h9 : w.heap.size ≤ nb := HNB.out
    rcases hb with rfl | rfl | rfl <;> omega
set_option maxRecDepth 100000 in
set_option maxHeartbeats 1600000 in
theorem count14 {F : Nat → Prop} {w : World} {fb : Nat} {A : List Ks} {bd : Nat} (h : Fo F w fb A bd) : Calls Try.prog 11 #[.pointer (some ⟨fb, 0, none⟩)] w fun r w' => r = .returned (.int .i64 A.length) ∧ w' = w := by
  obtain ⟨nb, cap, fr, mb, e, N, D, R, FL, h1, -⟩ := h
  obtain ⟨⟨-, -, -, c3, -⟩, hb, -⟩ := h1.ar.cells
  clear h1
  generalize A.length = n at *
  go_enter Try.func11, Try.ntmps11
  go_wp2_with fail
  go_ret
  exact ⟨rfl, rfl⟩
/-- Which heights a tree of n spans may have. -/
def High (n h : Nat) : Prop := nmin h ≤ n ∧ n < 2 ^ h
set_option maxRecDepth 100000 in
set_option maxHeartbeats 1600000 in
theorem height14 {F : Nat → Prop} {w : World} {fb : Nat} {A : List Ks} {bd : Nat} (h : Fo F w fb A bd) (k : ByteArray) (hk : k.size ≤ maxLen) : Calls Try.prog 16 #[.pointer (some ⟨fb, 0, none⟩), .string k] w fun r w' => ∃ t : Nat, r = .returned (.int .i64 t) ∧ High (kf A k).length t ∧ t ≤ (kf A k).length ∧ Kept w w' := by
  obtain ⟨nb, cap, fr, mb, e, N, D, R, FL, h1, h2, -⟩ := h
  have HH : Hid (High (kf A k).length (R k.toList).tr.ht ∧ (R k.toList).tr.ht ≤ (kf A k).length) := by
    have e1 : (R k.toList).tr.sz = (kf A k).length := by unfold Tr.sz; rw [h2.lst]
    rw [← e1]
    exact ⟨⟨(h2.bal _).least, Tr.most _⟩, Tr.ht_le_sz _⟩
  obtain ⟨⟨f0, -, f2, -⟩, hb, -⟩ := h1.ar.cells
  obtain ⟨n, en, tn⟩ := (h2.lay k.toList).tells h2.z
  have hf : ∀ W, Kept w W → (Instr.lookup 53 (.map (some mb)) (.string k) false).run Try.prog W = .ok (.int .i64 ((R k.toList).root : Nat)) W := fun W kk => (h1.on kk).find hk
  have c5 := ((h1.ar.node en).1).c5
  rw [tn.h] at c5
  have l1 : ((R k.toList).root : Int) < (N.length : Int) := by have := (h1.ar.node en).2; omega
  have hf0 : ∀ n, (Instr.lookup 53 (.map (some mb)) (.string k) false).run Try.prog (w.drewN n) = .ok (.int .i64 ((R k.toList).root : Nat)) (w.drewN n) := fun n => hf _ ((Same.refl _ w).drewN n)
  have hf1 := hf w (Same.refl _ w)
  clear h1 h2 hf en tn
  generalize (R k.toList).root = rr at *
  generalize (R k.toList).tr.ht = th at *
  go_enter Try.func16, Try.ntmps16
  go_wp2_with fail
  go_quiet (fail)
  go_wp2_with fail
  go_ret
  exact ⟨th, rfl, HH.out.1, HH.out.2, (Same.refl _ w).drewN _⟩
end Go.Proofs.Ytaiaahcblohknaa
