/- What is proved: read counts a read of a block, tells whether it is struck, and copies the block; the device lies in memory. -/
import Derived.Test.YtpjkmficpedmcaaDBlock
namespace Go.Proofs.Ytpjkmficpedmcaa
open Go.RowKit

/-- One read more. -/
def M.rd (m : M) (r b : Int) : M := { m with R := bump m.R r b, k := m.k + 1 }
/-- One stroke more. -/
def M.hit (m : M) : M := { m with cT := m.cT + 1, k := m.k + 1 }

theorem Good.rd {m : M} (h : Good m) (r b : Int) : Good (m.rd r b) where
  b1 := h.b1
  b2 := h.b2
  s2 := h.s2
  inp := h.inp
  scr := h.scr
  F := h.F
  fine := h.fine
  cI := Nat.le_succ_of_le h.cI
  cS := Nat.le_succ_of_le h.cS
  cW := Nat.le_succ_of_le h.cW
  cT := Nat.le_succ_of_le h.cT
  R r' b' := by
    show bump m.R r b r' b' ≤ m.k + 1
    unfold bump
    have := h.R r b
    have := h.R r' b'
    split <;> omega
theorem Good.hit {m : M} (h : Good m) : Good m.hit where
  b1 := h.b1
  b2 := h.b2
  s2 := h.s2
  inp := h.inp
  scr := h.scr
  F := h.F
  fine := h.fine
  cI := Nat.le_succ_of_le h.cI
  cS := Nat.le_succ_of_le h.cS
  cW := Nat.le_succ_of_le h.cW
  cT := Nat.succ_le_succ h.cT
  R r b := Nat.le_succ_of_le (h.R r b)

/-- The map's block turns. -/
theorem Dv.read {w w' : World} {m : M} {p : Pl} (h : Dv w m p) (r b : Int) (hs : Same (fun k => k = p.mb) w w') (hm : MapH w' p.mb (m.k + 1) (bump m.R r b)) : Dv w' (m.rd r b) p where
  dev := (hs.block _ (h.lt (.inl (.inl rfl))) h.db_mb).trans h.dev
  inp := h.inp.kept hs fun k hk e => (h.api k hk).2.2 e
  scr := (hs.block _ (h.lt (.inl (.inr (.inl rfl)))) h.sb_mb).trans h.scr
  flt := h.flt.kept hs fun k hk e => (h.apf k hk).2.2 e
  map := hm
  good := h.good.rd r b
  icap := h.icap
  inil := h.inil
  api := h.api
  apf := h.apf
/-- A stroke is counted. -/
theorem Dv.hits {w : World} {m : M} {p : Pl} (h : Dv w m p) : Dv (w.setCell ⟨p.db, 9, none⟩ (.int .i64 ((m.cT : Int) + 1))) m.hit p :=
  h.turn (Same.setCell (S := fun k => k = p.db) (Same.refl _ w) _ (.inr rfl) _) ((setCell_at h.dev 9 _).trans (by simp [M.hit, devObj])) rfl rfl rfl rfl (Nat.le_succ _) h.good.hit

set_option maxRecDepth 100000 in
set_option maxHeartbeats 1600000 in
theorem read_hit {w : World} {m : M} {p : Pl} (h : Dv w m p) (r : Int) (b : Nat) (sv : Value) (hr : I64 r) (hb : I64 b) (hk : m.k < 4611686018427387904) (hh : Hits m.F r b (m.R r b + 1) = true) :
    Calls Try.prog 73 #[.pointer (some ⟨p.db, 0, none⟩), .int .i64 r, .int .i64 b, sv] w fun e w' => e = .returned (.tuple #[.slice none 0 0, .int .i64 37]) ∧ Dv w' (m.rd r b).hit p ∧ Same (Own p) w w' := by
  obtain ⟨-, -, -, -, -, c5⟩ := h.cells
  have hl : p.db < w.heap.size := lt_of_heap h.dev
  have hR := h.good.R r b
  have hmb : p.mb < w.heap.size := h.map.lt
  generalize hW : w.alloc (.cells #[.int .i64 r, .int .i64 b] 122) = W
  have s0 : Kept w W := hW ▸ (Same.refl _ w).alloc _
  have h1 : Dv W.drew m p := (h.kept0 s0).drew
  obtain ⟨w1, v0, st, he, hm1, s1, hst⟩ := h1.map.bump (by unfold maxLen; omega) hr hb (by omega)
  have lk0 := h1.map.look hr hb
  have lk1 := hm1.look hr hb
  obtain ⟨w3, hes, hm3, s3⟩ := hst w1 rfl
  simp only [pkey, goInt] at he lk0 lk1 hes
  have hb0 : W.heap[w.heap.size]? = some (.cells #[.int .i64 r, .int .i64 b] 122 (0, 0)) := hW ▸ heap_new w _
  have d0 : W.cell? ⟨w.heap.size, 0, none⟩ = some (.int .i64 r) := (cell_of hb0 0).trans rfl
  have d1 : W.cell? ⟨w.heap.size, 1, none⟩ = some (.int .i64 b) := (cell_of hb0 1).trans rfl
  obtain ⟨-, -, -, -, -, d5⟩ := (h.kept0 s0).cells
  have s13 : Same (fun k => k = p.mb) W w3 := ((Same.refl _ W).drew.trans' s1).trans' s3
  have hb3 : w3.heap[w.heap.size]? = some (.cells #[.int .i64 r, .int .i64 b] 122 (0, 0)) := (s13.block _ (lt_of_heap hb0) (by omega)).trans hb0
  have e0 : w3.cell? ⟨w.heap.size, 0, none⟩ = some (.int .i64 r) := (cell_of hb3 0).trans rfl
  have e1 : w3.cell? ⟨w.heap.size, 1, none⟩ = some (.int .i64 b) := (cell_of hb3 1).trans rfl
  have HW : Hid _ := hW
  have hd3 : Dv w3 (m.rd r b) p := h1.read r b (s1.trans' s3) hm3
  have HH : Hid _ := hd3
  have HS : Hid (Calls Try.prog 74 #[.pointer (some ⟨p.db, 0, none⟩), .agg #[.int .i64 r, .int .i64 b]] w3 fun e w' => e = .returned (.bool true) ∧ Kept w3 w') :=
    (struck_any hd3 r b hr hb).mono fun e w' ⟨he, hk⟩ => ⟨he.trans (by rw [show (m.rd r b).R r b = m.R r b + 1 from bump_same _ _ _]; exact congrArg (fun x => Ending.returned (.bool x)) hh), hk⟩
  have S3 : Hid (Same (Own p) w w3) := (s0.to (Own p)).trans (S' := fun k => k = p.mb) s13 (fun _ _ e => .inr (.inr e))
  clear hst h1 hm1 hm3 hb0 hb3 hd3 s0 s1 s3 s13
  clear hh
  go_enter Try.func73, Try.ntmps73
  go_wp2_with fail
  go_region
  go_wp2_with fail
  refine Calls.mono HS.out ?_
  rintro e w4 ⟨rfl, k4⟩
  have hd4 := HH.out.kept0 k4
  obtain ⟨-, -, -, t4, -⟩ := hd4.counts
  have z4 : w4.frozen? ⟨p.db, 9, none⟩ = false := frozen_of hd4.dev 9
  have hT := hd4.good.cT
  have e4 : (m.rd r b).cT = m.cT := rfl
  have e5 : (m.rd r b).k = m.k + 1 := rfl
  rw [e4] at t4 hT
  rw [e5] at hT
  have H4 : Hid _ := hd4
  have K4 : Hid _ := k4
  clear hd4 e4 e5 k4
  go_wp2_with fail
  go_ret2
  exact ⟨rfl, H4.out.hits, Same.setCell (S3.out.trans' (Kept.to K4.out _)) _ (.inr (.inl rfl)) _⟩

set_option maxRecDepth 100000 in
set_option maxHeartbeats 1600000 in
theorem read_ok {w : World} {m : M} {p : Pl} (h : Dv w m p) (r : Int) (b : Nat) (a : Option Addr) (cap : Nat) (l : List Int) (hl0 : BytesAt w a l) (hlen : l.length ≤ 4194304) (hcap : l.length ≤ cap) (hbl : b * m.B < l.length) (hap : ∀ k, InB a l.length k → k ≠ p.mb)
    (hr : I64 r) (hb : I64 b) (hk : m.k < 4611686018427387904) (hh : Hits m.F r b (m.R r b + 1) = false) :
    Calls Try.prog 73 #[.pointer (some ⟨p.db, 0, none⟩), .int .i64 r, .int .i64 b, .slice a l.length cap] w fun e w' => ∃ g, e = .returned (.tuple #[.slice (some ⟨g, 0, none⟩) (cut m.B l b).length (cut m.B l b).length, .int .i64 0]) ∧ w.heap.size ≤ g ∧ w'.heap[g]? = some (rowObj (cut m.B l b)) ∧ Dv w' (m.rd r b) p ∧ Same (Own p) w w' := by
  obtain ⟨-, -, -, -, -, c5⟩ := h.cells
  have hl : p.db < w.heap.size := lt_of_heap h.dev
  have hR := h.good.R r b
  have hmb : p.mb < w.heap.size := h.map.lt
  generalize hW : w.alloc (.cells #[.int .i64 r, .int .i64 b] 122) = W
  have s0 : Kept w W := hW ▸ (Same.refl _ w).alloc _
  have h1 : Dv W.drew m p := (h.kept0 s0).drew
  obtain ⟨w1, v0, st, he, hm1, s1, hst⟩ := h1.map.bump (by unfold maxLen; omega) hr hb (by omega)
  have lk0 := h1.map.look hr hb
  have lk1 := hm1.look hr hb
  obtain ⟨w3, hes, hm3, s3⟩ := hst w1 rfl
  simp only [pkey, goInt] at he lk0 lk1 hes
  have hb0 : W.heap[w.heap.size]? = some (.cells #[.int .i64 r, .int .i64 b] 122 (0, 0)) := hW ▸ heap_new w _
  have d0 : W.cell? ⟨w.heap.size, 0, none⟩ = some (.int .i64 r) := (cell_of hb0 0).trans rfl
  have d1 : W.cell? ⟨w.heap.size, 1, none⟩ = some (.int .i64 b) := (cell_of hb0 1).trans rfl
  obtain ⟨-, -, -, -, -, d5⟩ := (h.kept0 s0).cells
  have s13 : Same (fun k => k = p.mb) W w3 := ((Same.refl _ W).drew.trans' s1).trans' s3
  have hb3 : w3.heap[w.heap.size]? = some (.cells #[.int .i64 r, .int .i64 b] 122 (0, 0)) := (s13.block _ (lt_of_heap hb0) (by omega)).trans hb0
  have e0 : w3.cell? ⟨w.heap.size, 0, none⟩ = some (.int .i64 r) := (cell_of hb3 0).trans rfl
  have e1 : w3.cell? ⟨w.heap.size, 1, none⟩ = some (.int .i64 b) := (cell_of hb3 1).trans rfl
  have HW : Hid _ := hW
  have hd3 : Dv w3 (m.rd r b) p := h1.read r b (s1.trans' s3) hm3
  have HH : Hid _ := hd3
  have HS : Hid (Calls Try.prog 74 #[.pointer (some ⟨p.db, 0, none⟩), .agg #[.int .i64 r, .int .i64 b]] w3 fun e w' => e = .returned (.bool false) ∧ Kept w3 w') :=
    (struck_any hd3 r b hr hb).mono fun e w' ⟨he, hk⟩ => ⟨he.trans (by rw [show (m.rd r b).R r b = m.R r b + 1 from bump_same _ _ _]; exact congrArg (fun x => Ending.returned (.bool x)) hh), hk⟩
  have S3 : Hid (Same (Own p) w w3) := (s0.to (Own p)).trans (S' := fun k => k = p.mb) s13 (fun _ _ e => .inr (.inr e))
  have hl3 : BytesAt w3 a l := (hl0.kept s0 (fun _ _ h => h)).kept s13 hap
  have HB : Hid (∀ w4, Kept w3 w4 → _) := fun w4 k4 => block_any (HH.out.kept0 k4) a cap l (hl3.kept k4 (fun _ _ h => h)) hlen hcap b hbl
  clear hl0 hl3 hap hst h1 hm1 hm3 hb0 hb3 hd3 s0 s1 s3 s13
  clear hh hlen hcap hbl
  go_enter Try.func73, Try.ntmps73
  go_wp2_with fail
  go_region
  go_wp2_with fail
  refine Calls.mono HS.out ?_
  rintro e w4 ⟨rfl, k4⟩
  have K4 : Hid _ := k4
  clear k4
  go_wp2_with fail
  refine Calls.mono (HB.out w4 K4.out) ?_
  rintro e w5 ⟨rfl, g5, k5⟩
  have G5 : Hid _ := g5
  have K5 : Hid _ := k5
  clear g5 k5
  go_wp2_with fail
  go_ret2
  have sz : w.heap.size ≤ w4.heap.size := Nat.le_trans S3.out.size K4.out.size
  exact ⟨w4.heap.size, rfl, sz, G5.out, (HH.out.kept0 K4.out).kept0 K5.out, (S3.out.trans' (Kept.to K4.out _)).trans' (Kept.to K5.out _)⟩
end Go.Proofs.Ytpjkmficpedmcaa
