/- What is proved: ReadInput, ReadScratch, Image and Input with the answer as a row of its own; the device lies in memory. -/
import Derived.Test.YtaegbchcfnbngaaXOwn
import Derived.Test.YtaegbchcfnbngaaXTell
namespace Go.Proofs.Ytaegbchcfnbngaa
open Go.RowKit

theorem own_row {w : World} {base g : Nat} {l : List Int} (h : w.heap[g]? = some (rowObj l)) (hb : base ≤ g) (hl : l.length ≤ 4194304) : Rw base w g l.length l.length l :=
  ⟨by simp [byt], .inr ⟨g, l.length, _, rfl, hb, h, Nat.le_refl _, by unfold maxLen; omega, by simp [byt], by rw [Nat.mul_one]; exact List.take_of_length_le (by simp [byt])⟩⟩
/-- What a read leaves that is not struck. -/
def RRow (p : Pl) (w : World) (l : List Int) (m : M) (e : Ending) (w' : World) : Prop :=
  ∃ g, e = .returned (.tuple #[.slice (some ⟨g, 0, none⟩) l.length l.length, .int .i64 0]) ∧ Rw w.heap.size w' g l.length l.length l ∧ Dv w' m p ∧ Same (Own p) w w'
theorem readIn_row {w : World} {m : M} {p : Pl} (h : Dv w m p) (n : Nat) (hd : m.down = false) (hbl : n * m.B < m.inp.length) (hk : m.k + 1 < 4611686018427387904) (hh : Hits m.F 1 n (m.R 1 n + 1) = false) :
    Calls Try.prog 8 #[.pointer (some ⟨p.db, 0, none⟩), .int .i64 (n : Int)] w (RRow p w (cut m.B m.inp n) (m.cI1.rd 1 n)) := by
  have b1 := h.good.b1
  have hln : m.inp.length ≤ 4194304 := h.good.inp
  have hlt : n < nblk m.inp.length m.B := (lt_nblk (by omega)).2 hbl
  have hn64 : n ≤ 4194304 := Nat.le_trans (Nat.le_trans (Nat.le_mul_of_pos_right n (by omega)) (Nat.le_of_lt hbl)) hln
  have hi : I64 (n : Int) := I64.mk (by omega) (by omega)
  refine Calls.mono (ri_yes h n (by omega) (fun a x cap c w' => RRow p w (cut m.B m.inp n) (m.cI1.rd 1 n) (.returned (.tuple #[.slice a x cap, .int .i64 c])) w') (fun w1 k1 => refuse_no (h.kept0 k1) (n : Int) _ hd (by omega) (by omega)) ?_) ?_
  · intro w1 k1
    have hd1 := (h.kept0 k1).cI1
    have s1 : Same (Own p) w (w1.setCell ⟨p.db, 6, none⟩ (.int .i64 ((m.cI : Int) + 1))) := Same.setCell (k1.to _) _ (.inr (.inl rfl)) _
    refine Calls.mono (read_ok hd1 1 n p.ia p.icap m.inp hd1.inp hln hd1.icap hbl (fun k hk => (hd1.api k hk).2.2) (by rfl) hi (show m.k + 1 < _ by omega) hh) ?_
    rintro e w2 ⟨g, rfl, hg, h2, h3, s2⟩
    exact ⟨_, _, _, _, rfl, g, rfl, own_row h2 (Nat.le_trans s1.size hg) (by rw [length_cut]; have := h.good.b2; omega), h3, s1.trans' s2⟩
  · rintro e w' ⟨a, x, cap, c, rfl, hp⟩
    exact hp
theorem readSc_row {w : World} {m : M} {p : Pl} (h : Dv w m p) (n : Nat) (hd : m.down = false) (hlt : n < m.S) (hk : m.k + 1 < 4611686018427387904) (hh : Hits m.F 2 n (m.R 2 n + 1) = false) :
    Calls Try.prog 9 #[.pointer (some ⟨p.db, 0, none⟩), .int .i64 (n : Int)] w (RRow p w (cut m.B m.scr n) (m.cS1.rd 2 n)) := by
  have b1 := h.good.b1
  have hbl : n * m.B < m.scr.length := by rw [h.good.scr, Nat.mul_comm]; exact Nat.mul_lt_mul_of_pos_left hlt (by omega)
  have hln : m.scr.length ≤ 4194304 := by rw [h.good.scr]; exact Nat.le_trans (Nat.mul_le_mul h.good.b2 h.good.s2) (by decide)
  have hn64 : n ≤ 4194304 := Nat.le_trans (Nat.le_trans (Nat.le_mul_of_pos_right n (by omega)) (Nat.le_of_lt hbl)) hln
  have hi : I64 (n : Int) := I64.mk (by omega) (by omega)
  refine Calls.mono (rs_yes h n (by omega) (fun a x cap c w' => RRow p w (cut m.B m.scr n) (m.cS1.rd 2 n) (.returned (.tuple #[.slice a x cap, .int .i64 c])) w') (fun w1 k1 => refuse_no (h.kept0 k1) (n : Int) _ hd (by omega) (by omega)) ?_) ?_
  · intro w1 k1
    have hd1 := (h.kept0 k1).cS1
    have s1 : Same (Own p) w (w1.setCell ⟨p.db, 7, none⟩ (.int .i64 ((m.cS : Int) + 1))) := Same.setCell (k1.to _) _ (.inr (.inl rfl)) _
    refine Calls.mono (by
      have hx := read_ok hd1 2 n (some ⟨p.sb, 0, none⟩) (m.B * m.S) m.scr (bytes_row hd1.scr) hln (Nat.le_of_eq h.good.scr) hbl (fun k hk e => by obtain ⟨_, off, e'⟩ := hk; cases e'; exact hd1.sb_mb e) (by rfl) hi (show m.k + 1 < _ by omega) hh
      rw [h.good.scr] at hx
      exact hx) ?_
    rintro e w2 ⟨g, rfl, hg, h2, h3, s2⟩
    exact ⟨_, _, _, _, rfl, g, rfl, own_row h2 (Nat.le_trans s1.size hg) (by rw [length_cut]; have := h.good.b2; omega), h3, s1.trans' s2⟩
  · rintro e w' ⟨a, x, cap, c, rfl, hp⟩
    exact hp

set_option maxRecDepth 100000 in
set_option maxHeartbeats 1600000 in
theorem cloneB_row (w : World) (ad : Addr) (c : Nat) (l : List Int) (hl : BytesAt w (some ad) l) (hb : l.length ≤ 140737488355328) :
    Calls Try.prog 14 #[.slice (some ad) l.length c] w fun e w' => ∃ v, e = .returned v ∧ OwnB w.heap.size w' v l ∧ Kept w w' := by
  have q : ∀ (w : World) (a : Option Addr) (n c n' c' : Nat), (binOp .eql 22 (.slice a n c) (.slice none n' c')).run Try.prog w = .ok (.bool a.isNone) w := fun w a n c n' c' => Lib.run_eql_slice_nil w _ _ a n c n' c' Try.underlying22
  have HR : Hid (∀ ty, ∃ v' w', (Builtin.append_ #[22, 22] ty #[.slice (some ⟨w.heap.size, 0, none⟩) 0 0, .slice (some ad) l.length c]).run Try.prog (w.alloc (.cells #[] 5)) = .ok v' w' ∧ AppB w.heap.size (.slice (some ⟨w.heap.size, 0, none⟩) 0 0) (w.alloc (.cells #[] 5)) l v' w') := fun ty => by
    have := app_bytes (w := w.alloc (.cells #[] 5)) (base := w.heap.size) (c := c) (xs := []) (World.ownsRow_made w #[] 0 (Nat.le_refl _) (Nat.zero_le _) rfl) (hl.kept ((Same.refl (fun _ => False) w).alloc _) (fun _ _ h => h)) (fun e => by cases e) (by simpa using hb) (by simp) ty
    simpa using this
  obtain ⟨n, en⟩ : ∃ n, n = l.length := ⟨_, rfl⟩
  rw [← en] at HR ⊢
  have EN : Hid _ := en
  clear hl hb en
  go_enter Try.func14, Try.ntmps14
  go_wp2_with (at_builtin; refine wpList_app rfl (.tmp 5) (.tmp 6) 22 rfl _ _ rfl rfl _ HR.out ?_; intro v' w1 hR)
  go_ret
  obtain ⟨r1, r2, _⟩ := hR
  refine ⟨v', rfl, r1, ((Same.refl _ w).alloc _).trans (S' := fun k => k = w.heap.size) (Same.of_grown r2 (fun k e => ?_)) (fun i hi e => by omega)⟩
  simp [Value.ownBlock] at e
  exact e.symm
set_option maxRecDepth 100000 in
set_option maxHeartbeats 800000 in
theorem image_row {w : World} {m : M} {p : Pl} (h : Dv w m p) (hS : 0 < m.scr.length) : Calls Try.prog 10 #[.pointer (some ⟨p.db, 0, none⟩)] w fun e w' => ∃ g cap, e = .returned (.slice (some ⟨g, 0, none⟩) m.scr.length cap) ∧ Rw w.heap.size w' g m.scr.length cap m.scr ∧ Kept w w' := by
  obtain ⟨-, -, -, c, -, -⟩ := h.cells
  have hsc := h.good.scr
  have HC : Hid _ := cloneB_row w ⟨p.sb, 0, none⟩ (m.B * m.S) m.scr (bytes_row h.scr) (by rw [hsc]; exact Nat.le_trans (Nat.mul_le_mul h.good.b2 h.good.s2) (by decide))
  rw [← hsc] at c HC
  have HS : Hid _ := hS
  clear h hsc hS
  go_enter Try.func10, Try.ntmps10
  go_wp2_with fail
  refine Calls.mono HC.out ?_
  rintro e w1 ⟨v, rfl, h1, h5⟩
  obtain ⟨g, cap, rfl, -⟩ := OwnB.addr h1 HS.out
  have R1 : Hid _ := h1
  have H5 : Hid _ := h5
  clear h1 h5
  go_wp2_with fail
  go_ret
  exact ⟨g, cap, rfl, R1.out, H5.out⟩
set_option maxRecDepth 100000 in
set_option maxHeartbeats 800000 in
theorem input_row {w : World} {m : M} {p : Pl} (h : Dv w m p) (hS : 0 < m.inp.length) : Calls Try.prog 11 #[.pointer (some ⟨p.db, 0, none⟩)] w fun e w' => ∃ g cap, e = .returned (.slice (some ⟨g, 0, none⟩) m.inp.length cap) ∧ Rw w.heap.size w' g m.inp.length cap m.inp ∧ Kept w w' := by
  obtain ⟨-, -, c, -, -, -⟩ := h.cells
  obtain ⟨ib, io, ei, -, -⟩ := h.inp 0 _ (List.getElem?_eq_getElem hS)
  have hin := h.inp
  rw [ei] at hin c
  have HC : Hid _ := cloneB_row w ⟨ib, io, none⟩ p.icap m.inp hin (by have := h.good.inp; omega)
  have HS : Hid _ := hS
  clear h hS hin ei
  go_enter Try.func11, Try.ntmps11
  go_wp2_with fail
  refine Calls.mono HC.out ?_
  rintro e w1 ⟨v, rfl, h1, h5⟩
  obtain ⟨g, cap, rfl, -⟩ := OwnB.addr h1 HS.out
  have R1 : Hid _ := h1
  have H5 : Hid _ := h5
  clear h1 h5
  go_wp2_with fail
  go_ret
  exact ⟨g, cap, rfl, R1.out, H5.out⟩
end Go.Proofs.Ytaegbchcfnbngaa
