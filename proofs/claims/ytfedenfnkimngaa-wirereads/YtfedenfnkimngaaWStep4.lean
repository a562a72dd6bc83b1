/- What is proved: the law's step at every reading call: it answers true, and both cursors stand alike behind it; no condition. -/
import Derived.Test.YtfedenfnkimngaaWStep
namespace Go.Proofs.Ytfedenfnkimngaa
open Go.RowKit

set_option maxRecDepth 100000 in
set_option maxHeartbeats 3200000 in
theorem step_4 {base : Nat} {w : World} {cb rb : Nat} {l : List Int} {pl : Nat} {ft : Int} (h : Both base w cb rb l pl ft) (A B : Int) :
    Calls Try.prog 11 #[.pointer (some ⟨cb, 0, none⟩), .pointer (some ⟨rb, 0, none⟩), .agg #[.int .i64 4, .int .i64 A, .int .i64 B]] w fun e w' => e = .returned (.bool true) ∧ (∃ pl' ft', Both base w' cb rb l pl' ft') ∧ Same (fun k => k = cb ∨ k = rb) w w' := by
  obtain ⟨a, cap, a', cap', hu, hr, ha, ha', hcb, hrb, hne⟩ := h
  have hnot : ∀ (x : Bool) (w : World), (Op.unary .not (.bool x)).run Try.prog w = .ok (.bool (!x)) w := fun _ _ => rfl
  have hX : (w.alloc (opO 4 A B)).heap[w.heap.size]? = some (opO 4 A B) := heap_new w _
  have k0 : Kept w (w.alloc (opO 4 A B)) := (Same.refl _ w).alloc _
  have HS : Hid _ := step_take (hr.on k0) A B
  have hlen := hu.len
  have HU0 : Hid _ := hu.on k0
  have HLT : Hid (cb < w.heap.size ∧ rb < w.heap.size) := ⟨hu.lt, hr.lt⟩
  have HPL : Hid ((rTake l pl ft A).2.1 ≤ l.length) := rPl_take hu.ple ft A
  have hzl := rTake_len l pl ft A
  have HB : Hid (∀ W, Cu W cb a cap l pl ft → _) := fun W (u : Cu W cb a cap l pl ft) => take_any u A
  generalize rTake l pl ft A = z at HS HB hzl HPL
  obtain ⟨⟨v, e⟩, q, f⟩ := z
  simp only at HS HB hzl HPL
  have n1 : (e != e) = false := by simp
  have e1 : ((q : Int) == (q : Int)) = true := by simp
  have e3 : (f == f) = true := by simp
  have HSM : Hid (∀ W oa ob ca cb', BytesAt W oa v → BytesAt W ob v → _) := fun W oa ob ca cb' (hx : BytesAt W oa v) (hy : BytesAt W ob v) => same_true W oa ob ca cb' v hx hy (by omega)
  obtain ⟨N, eN⟩ : ∃ N, N = v.length := ⟨_, rfl⟩
  rw [← eN] at HS HSM hzl
  have EN : Hid _ := eN
  clear eN
  clear hzl
  have HA : Hid _ := ha
  have HA' : Hid _ := ha'
  have HX : Hid _ := hX
  clear hu hr k0 ha ha' hX
  go_enter Try.func11, Try.ntmps11
  go_wp2_with fail
  refine Calls.mono HS.out ?_
  rintro r w1 ⟨ap, cp, rfl, bp, np, r1, s1⟩
  have hx1 : w1.heap[w.heap.size]? = some (opO 4 A B) := (s1.block _ (lt_of_heap HX.out) (by have := HLT.out; omega)).trans HX.out
  have g0 : w1.cell? ⟨w.heap.size, 0, none⟩ = some (.int .i64 4) := (cell_of hx1 0).trans rfl
  have g1 : w1.cell? ⟨w.heap.size, 1, none⟩ = some (.int .i64 A) := (cell_of hx1 1).trans rfl
  have u1 : Cu w1 cb a cap l pl ft := HU0.out.kept s1 hne (fun g e => (HA.out g e).2)
  have HB1 : Hid _ := HB.out _ u1
  have R1 : Hid _ := r1
  have S1 : Hid (Same (fun k => k = rb) w w1) := (Kept.to ((Same.refl _ w).alloc _) _).trans' s1
  have BP : Hid _ := bp
  have NP : Hid _ := np
  clear r1 s1 u1 hx1 bp np
  go_wp2_with fail
  refine Calls.mono HB1.out ?_
  rintro r w2 ⟨vq, rfl, oq, u2, s2⟩
  have r2 : RC w2 rb a' cap' l q f := RC.kept R1.out s2 (fun e => hne e.symm) (fun g e => (HA'.out g e).2)
  have bp2 : BytesAt w2 ap v := BytesAt.kept BP.out s2 (fun k hk e => by obtain ⟨_, off, e'⟩ := hk; exact (HA'.out k (NP.out k off e').1).2 e)
  have FIN : Hid ((∃ pl' ft', Both base w2 cb rb l pl' ft') ∧ Same (fun k => k = cb ∨ k = rb) w w2) :=
    ⟨⟨q, f, a, cap, a', cap', u2, r2, HA.out, HA'.out, hcb, hrb, hne⟩, (S1.out.mono (fun _ _ e => .inr e)).trans s2 (fun _ _ e => .inl e)⟩
  have HT : Hid _ := Tail.of u2 r2
  obtain ⟨c0, c1, c2, -, -⟩ := r2.cells
  have hlt2 := r2.lt
  obtain ⟨aq, cq, rfl, bq, -, -, -, -⟩ := OwnB.bytes oq
  rw [← EN.out]
  have HM : Hid _ := HSM.out w2 aq ap cq cp bq bp2
  obtain ⟨L, eL⟩ : ∃ L, L = l.length := ⟨_, rfl⟩
  rw [← eL] at c0 HT hlen HPL
  obtain ⟨d, ed⟩ : ∃ d, d = L - q := ⟨_, rfl⟩
  have hd : (L : Int) - (q : Int) = (d : Int) := by have := HPL.out; omega
  have HTL : Hid (∀ n, Calls Try.prog 13 #[.pointer (some ⟨cb, 0, none⟩)] (w2.drewN n) fun e w' => e = .returned (.int .i64 (d : Int)) ∧ ∃ m, w' = (w2.drewN n).drewN m) := by
    have := HT.out.left
    rw [← ed] at this
    exact this
  have hd2 : (d : Int) ≤ 140737488355328 := by omega
  have e2 : ((d : Int) == (d : Int)) = true := by simp
  clear u2 s2 r2 ed eL g0 g1 oq bq bp2
  go_wp2_with fail
  refine Calls.mono HM.out ?_
  rintro r w4 ⟨rfl, rfl⟩
  go_wp2_with fail
  go_quiet (first | (go_at_call 12; refine Calls.quiet_of_same (HT.out.off _)) | (go_at_call 13; refine Calls.quiet_of (HTL.out _)) | (go_at_call 14; refine Calls.quiet_of_same (HT.out.fault _)))
  go_wp2_with fail
  go_ret
  obtain ⟨⟨p', f', hb'⟩, hs'⟩ := FIN.out
  exact ⟨rfl, ⟨p', f', hb'.on (Same.drewN (Same.refl _ _) _)⟩, hs'.drewN _⟩
theorem step_law {base : Nat} {w : World} {cb rb : Nat} {l : List Int} {pl : Nat} {ft : Int} (h : Both base w cb rb l pl ft) (k A B : Int) :
    Calls Try.prog 11 #[.pointer (some ⟨cb, 0, none⟩), .pointer (some ⟨rb, 0, none⟩), .agg #[.int .i64 k, .int .i64 A, .int .i64 B]] w fun e w' => e = .returned (.bool true) ∧ (∃ pl' ft', Both base w' cb rb l pl' ft') ∧ Same (fun k => k = cb ∨ k = rb) w w' := by
  by_cases h0 : k < 1 ∨ 4 < k
  · exact step_0 h k A B h0
  · have hk : k = 1 ∨ k = 2 ∨ k = 3 ∨ k = 4 := by omega
    rcases hk with rfl | rfl | rfl | rfl
    · exact step_1 h A B
    · exact step_2 h A B
    · exact step_3 h A B
    · exact step_4 h A B
end Go.Proofs.Ytfedenfnkimngaa
