/- What is proved: the anchor of the laws of runs answers true and leaves all that was there as it was; no condition. -/
import Derived.Test.YtcbllejjiokmbaaNBuf
namespace Go.Proofs.Ytcbllejjiokmbaa
open Go.RowKit

theorem eql_row (r : RwM) (w : World) : (binOp .eql 26 (rowV r) (rowV r)).run Try.prog w = .ok (.bool true) w := by
  obtain ⟨kind, time, seq, index, frm, til, body⟩ := r
  unfold rowV
  go_simp
def rx : RwM := ⟨1, 9, 0, 0, 0, 0, ⟨#[]⟩⟩
def ry : RwM := ⟨1, 4, 0, 0, 0, 0, ⟨#[]⟩⟩
theorem right_x : rightR rx := by decide
theorem right_y : rightR ry := by decide
theorem size_small {r : RwM} (h1 : r.time.toNat < 128) (h2 : r.seq.toNat < 128) (h3 : r.index.toNat < 128) (h4 : r.frm.toNat < 128) (h5 : r.til.toNat < 128) (h6 : r.body.size < 128) : (bytesR r).length = 7 + r.body.size := by
  unfold bytesR
  simp only [List.length_cons, List.length_append, encT_len]
  rw [form_small h1, form_small h2, form_small h3, form_small h4, form_small h5, form_small h6]
  simp
  omega
theorem size_x : (bytesR rx).length = 7 := size_small (by decide) (by decide) (by decide) (by decide) (by decide) (by decide)
theorem size_y : (bytesR ry).length = 7 := size_small (by decide) (by decide) (by decide) (by decide) (by decide) (by decide)
theorem srt_xy : srt (bef 1) [rx, ry] = [ry, rx] := by
  have : bef 1 ry rx = true := by decide
  simp [srt, insL, this]
set_option maxRecDepth 100000 in
set_option maxHeartbeats 1600000 in
theorem anchor10_any (w : World) : Calls Try.prog 14 #[] w fun e w' => e = .returned (.bool true) ∧ Kept w w' := by
  have HN : Hid (∀ W, _) := fun W => new10_ok (.inl rfl) (bud := 100) (by decide) (by decide) W
  have HQ := eql_row rx
  have HQ2 := eql_row ry
  rw [show rowV rx = .agg #[.int .i64 1, .int .i64 9, .int .i64 0, .int .i64 0, .int .i64 0, .int .i64 0, .string ⟨#[]⟩] from rfl] at HQ
  rw [show rowV ry = .agg #[.int .i64 1, .int .i64 4, .int .i64 0, .int .i64 0, .int .i64 0, .int .i64 0, .string ⟨#[]⟩] from rfl] at HQ2
  go_enter Try.func14, Try.ntmps14
  go_wp2_with fail
  refine Calls.mono (HN.out _) ?_
  rintro e w1 ⟨b, rfl, bf1, k1⟩
  have BF1 : Hid _ := bf1
  have K1 : Hid _ := k1
  have Q1 : Hid _ := (heap_old (w1.alloc (.cells #[.int .i64 1, .int .i64 9, .int .i64 0, .int .i64 0, .int .i64 0, .int .i64 0, .string ⟨#[]⟩] 26)) (.cells #[.int .i64 1, .int .i64 4, .int .i64 0, .int .i64 0, .int .i64 0, .int .i64 0, .string ⟨#[]⟩] 26) (by rw [World.size_alloc]; exact Nat.lt_succ_self _)).trans (heap_new w1 (.cells #[.int .i64 1, .int .i64 9, .int .i64 0, .int .i64 0, .int .i64 0, .int .i64 0, .string ⟨#[]⟩] 26))
  have Q2 : Hid _ := heap_new (w1.alloc (.cells #[.int .i64 1, .int .i64 9, .int .i64 0, .int .i64 0, .int .i64 0, .int .i64 0, .string ⟨#[]⟩] 26)) (.cells #[.int .i64 1, .int .i64 4, .int .i64 0, .int .i64 0, .int .i64 0, .int .i64 0, .string ⟨#[]⟩] 26)
  rw [World.size_alloc] at Q2
  have K2 : Hid (Kept w1 ((w1.alloc (.cells #[.int .i64 1, .int .i64 9, .int .i64 0, .int .i64 0, .int .i64 0, .int .i64 0, .string ⟨#[]⟩] 26)).alloc (.cells #[.int .i64 1, .int .i64 4, .int .i64 0, .int .i64 0, .int .i64 0, .int .i64 0, .string ⟨#[]⟩] 26))) := ((Same.refl _ w1).alloc _).alloc _
  clear bf1 k1
  go_wp2_with fail
  generalize (w1.alloc (.cells #[.int .i64 1, .int .i64 9, .int .i64 0, .int .i64 0, .int .i64 0, .int .i64 0, .string ⟨#[]⟩] 26)).alloc (.cells #[.int .i64 1, .int .i64 4, .int .i64 0, .int .i64 0, .int .i64 0, .int .i64 0, .string ⟨#[]⟩] 26) = W at Q1 Q2 K2 ⊢
  have hbl := (BF1.out.cells).2.2.2.2
  generalize w1.heap.size = h at *
  have bf2 := BF1.out.on K2.out
  have HX : Hid _ := add10_ok bf2 (r := rx) right_x (by rw [size_x]; decide)
  rw [size_x, show rowV rx = .agg #[.int .i64 1, .int .i64 9, .int .i64 0, .int .i64 0, .int .i64 0, .int .i64 0, .string ⟨#[]⟩] from rfl] at HX
  refine Calls.mono HX.out ?_
  rintro e w2 ⟨rfl, v2, bf3, s2, n2⟩
  have s2' : Same (fun k => k = b) W w2 := s2.mono fun i _ hi => by
    rcases hi with e | e
    · exact e
    · simp [Value.ownBlock] at e
  have q1 := (s2'.block _ (lt_of_heap Q1.out) (by omega)).trans Q1.out
  have q2 := (s2'.block _ (lt_of_heap Q2.out) (by omega)).trans Q2.out
  have hv2 : ∀ k, v2.ownBlock = some k → k ≠ h ∧ k ≠ h + 1 := fun k hk => by
    have h2 := lt_of_heap Q2.out
    rcases n2 k hk with e | e
    · simp [Value.ownBlock] at e
    · omega
  have Q3 : Hid _ := q1
  have Q4 : Hid _ := q2
  have HV2 : Hid _ := hv2
  have S2 : Hid _ := s2'
  have BF3 : Hid _ := bf3
  obtain ⟨⟨y0, y1, y2, y3, y4, y5, y6⟩, -⟩ := row_obj q2
  have hl2 := lt_of_heap q2
  have HY : Hid _ := add10_ok bf3 (r := ry) right_y (by rw [size_y]; simp [szs, size_x])
  rw [size_y, show rowV ry = .agg #[.int .i64 1, .int .i64 4, .int .i64 0, .int .i64 0, .int .i64 0, .int .i64 0, .string ⟨#[]⟩] from rfl] at HY
  clear q1 q2 hv2 s2 s2' bf3 n2 HX Q1 Q2 bf2
  go_wp2_with fail
  refine Calls.mono HY.out ?_
  rintro e w3 ⟨rfl, v3, bf4, s3, n3⟩
  have hne : ∀ k, (k = h ∨ k = h + 1) → ¬ (k = b ∨ v2.ownBlock = some k) := fun k hk e => by
    rcases e with e | e
    · omega
    · have := HV2.out k e
      omega
  have q1 := (s3.block _ (lt_of_heap Q3.out) (hne _ (.inl rfl))).trans Q3.out
  have q2 := (s3.block _ (lt_of_heap Q4.out) (hne _ (.inr rfl))).trans Q4.out
  have Q5 : Hid _ := q1
  have Q6 : Hid _ := q2
  have BF4 : Hid _ := bf4
  have HB : Hid _ := bytes10 bf4
  rw [show szs (([] ++ [rx]) ++ [ry]) = 14 by simp [szs, size_x, size_y]] at HB
  have HT : Hid _ := take10 bf4
  rw [show srt (bef 1) (([] ++ [rx]) ++ [ry]) = [ry, rx] from srt_xy] at HT
  have K3 : Hid (Same (fun k => w.heap.size ≤ k) w w3) := by
    show Same _ _ _
    have t1 : Same (fun k => w.heap.size ≤ k) w W := Kept.to (K1.out.trans' K2.out) _
    have t2 := t1.trans S2.out fun i _ e => by have := BF1.out.low; omega
    exact t2.trans s3 fun i _ e => by
      rcases e with e | e
      · have := BF1.out.low; omega
      · exact (OwnR.block BF3.out.own e).1
  clear q1 q2 bf4 s3 n3 y0 y1 y2 y3 y4 y5 y6 hl2 HY
  go_wp2_with fail
  refine Calls.mono HB.out ?_
  rintro e w4 ⟨rfl, rfl⟩
  go_wp2_with fail
  refine Calls.mono HT.out ?_
  rintro e w5 ⟨u, rfl, o5, bf5, s5⟩
  have q1 := (s5.block _ (lt_of_heap Q5.out) (by omega)).trans Q5.out
  have q2 := (s5.block _ (lt_of_heap Q6.out) (by omega)).trans Q6.out
  obtain ⟨⟨x0, x1, x2, x3, x4, x5, x6⟩, -⟩ := row_obj q1
  obtain ⟨⟨y0, y1, y2, y3, y4, y5, y6⟩, -⟩ := row_obj q2
  obtain ⟨a, cp, rfl, ra, -⟩ := OwnR.rows o5
  obtain ⟨g, off, rfl, hg, l0, l1, l2, l3, l4, l5, l6⟩ := ra 0 ry rfl
  obtain ⟨g', off', e, -, m0, m1, m2, m3, m4, m5, m6⟩ := ra 1 rx rfl
  cases e
  have K5 : Hid (Same (fun k => w.heap.size ≤ k) w w5) := K3.out.trans s5 fun i _ e => by have := BF1.out.low; omega
  simp only [rx, ry, Nat.zero_mul, Nat.add_zero, Nat.one_mul] at l0 l1 l2 l3 l4 l5 l6 m0 m1 m2 m3 m4 m5 m6
  rw [show [ry, rx].length = 2 from rfl]
  clear q1 q2 ra o5 bf5 s5
  go_wp2_with fail
  go_region
  all_goals (go_wp2_with fail)
  all_goals go_ret
  all_goals (exact ⟨rfl, by first | exact (K5.out.mono fun i hi e => by omega) | exact (K5.out.mono fun i hi e => by omega).drew⟩)
end Go.Proofs.Ytcbllejjiokmbaa
