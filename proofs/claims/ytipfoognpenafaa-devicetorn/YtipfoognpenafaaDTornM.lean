/- What is proved: small laws for DeviceTorn: rows that are stored into, the bytes that are written, the plain device behind the crash, equality of two Counts, Image as a row of one's own; no condition. -/
import Derived.Test.YtipfoognpenafaaDInpB
namespace Go.Proofs.Ytipfoognpenafaa
open Go.RowKit

/-- Block g begins with the bytes L, and can be stored into. -/
def RowAt (w : World) (g : Nat) (L : List Int) : Prop := ∃ rest : List Value, w.heap[g]? = some (.cells (byt L ++ rest).toArray 5 (0, 0))
theorem RowAt.bytes {w : World} {g : Nat} {L : List Int} (h : RowAt w g L) : BytesAt w (some ⟨g, 0, none⟩) L := fun i x hx => by
  obtain ⟨rest, hg⟩ := h
  refine ⟨g, 0, rfl, lt_of_heap hg, ?_⟩
  have hi := (List.getElem?_eq_some_iff.1 hx).1
  rw [cell_of hg, Nat.zero_add, List.getElem?_toArray, List.getElem?_append_left (by rw [length_byt]; exact hi), byt_get, hx]
  rfl
theorem RowAt.frozen {w : World} {g : Nat} {L : List Int} (h : RowAt w g L) (o : Nat) : w.frozen? ⟨g, o, none⟩ = false := by
  obtain ⟨rest, hg⟩ := h
  exact frozen_of hg o
theorem RowAt.lt {w : World} {g : Nat} {L : List Int} (h : RowAt w g L) : g < w.heap.size := by
  obtain ⟨rest, hg⟩ := h
  exact lt_of_heap hg
theorem RowAt.kept {S : Nat → Prop} {w w' : World} {g : Nat} {L : List Int} (h : RowAt w g L) (hs : Same S w w') (hn : ¬ S g) : RowAt w' g L := by
  obtain ⟨rest, hg⟩ := h
  exact ⟨rest, (hs.block _ (lt_of_heap hg) hn).trans hg⟩
theorem RowAt.set {w : World} {g : Nat} {L : List Int} (h : RowAt w g L) {i : Nat} (hi : i < L.length) (x : Int) : RowAt (w.setCell ⟨g, i, none⟩ (.int .u8 x)) g (L.set i x) := by
  obtain ⟨rest, hg⟩ := h
  refine ⟨rest, (setCell_at hg i _).trans ?_⟩
  congr 2
  apply Array.ext'
  simp only [Array.toList_setIfInBounds]
  rw [List.set_append_left _ _ (by rw [length_byt]; exact hi)]
  simp [byt, List.map_set]
theorem RowAt.of_row {w : World} {base : Nat} {v : Value} {l : List Int} (h : w.ownsRow base 5 1 v l.length (byt l)) (hp : 0 < l.length) : ∃ g cap, v = .slice (some ⟨g, 0, none⟩) l.length cap ∧ base ≤ g ∧ RowAt w g l := by
  rcases h.2 with ⟨_, h0⟩ | ⟨g, cap, cur, rfl, hb, hg, h1, h2, h3, h4⟩
  · omega
  · refine ⟨g, cap, rfl, hb, cur.toList.drop (l.length * 1), ?_⟩
    rw [hg, ← h4, List.take_append_drop]

/-- The bytes that DeviceTorn writes. -/
def pat (i : Nat) : Int := ((200 + i % 50 : Nat) : Int)
def fillL (B j : Nat) : List Int := (List.range B).map fun i => if i < j then pat i else 0
theorem length_fillL (B j : Nat) : (fillL B j).length = B := by simp [fillL]
theorem fillL_get {B j i : Nat} (hi : i < B) : (fillL B j)[i]? = some (if i < j then pat i else 0) := by
  rw [fillL, List.getElem?_map, List.getElem?_range hi]
  rfl
theorem fillL_zero (B : Nat) : fillL B 0 = List.replicate B 0 := by
  apply List.ext_getElem?
  intro i
  by_cases hi : i < B
  · rw [fillL_get hi, if_neg (by omega), List.getElem?_replicate, if_pos hi]
  · rw [List.getElem?_eq_none (by rw [length_fillL]; omega), List.getElem?_eq_none (by simp; omega)]
theorem fillL_set (B j : Nat) (hj : j < B) : (fillL B j).set j (pat j) = fillL B (j + 1) := by
  apply List.ext_getElem?
  intro i
  rw [List.getElem?_set, length_fillL]
  by_cases e : j = i
  · subst e
    rw [if_pos rfl, if_pos hj, fillL_get hj, if_pos (by omega)]
  · rw [if_neg e]
    by_cases hi : i < B
    · rw [fillL_get hi, fillL_get hi]
      congr 1
      by_cases h : i < j
      · rw [if_pos h, if_pos (by omega)]
      · rw [if_neg h, if_neg (by omega)]
    · rw [List.getElem?_eq_none (by rw [length_fillL]; omega), List.getElem?_eq_none (by rw [length_fillL]; omega)]
theorem splice_set (L d : List Int) (off i : Nat) (x : Int) (hx : d[i]? = some x) (hf : off + d.length ≤ L.length) : (splice L off (d.take i)).set (off + i) x = splice L off (d.take (i + 1)) := by
  have hi := (List.getElem?_eq_some_iff.1 hx).1
  apply List.ext_getElem?
  intro k
  have l1 : (d.take i).length = i := by simp; omega
  have l2 : (d.take (i + 1)).length = i + 1 := by simp; omega
  rw [List.getElem?_set, length_splice _ _ _ (by omega), splice_get _ _ _ _ (by omega), splice_get _ _ _ _ (by omega), l1, l2]
  by_cases e : off + i = k
  · subst e
    rw [if_pos rfl, if_pos (by omega), if_pos (by omega), show off + i - off = i by omega, List.getElem?_take_of_lt (by omega), hx]
  · rw [if_neg e]
    by_cases h : off ≤ k ∧ k < off + i
    · rw [if_pos h, if_pos (by omega), List.getElem?_take_of_lt (by omega), List.getElem?_take_of_lt (by omega)]
    · rw [if_neg h, if_neg (by omega)]
theorem splice_none (L : List Int) (off : Nat) (_ : off ≤ L.length) : splice L off [] = L := by simp [splice]

/-- The faults of DeviceTorn. -/
def fT (keep : Int) : List Fl := [⟨4, 0, 1, keep⟩, ⟨4, 0, 1, 0⟩, ⟨3, 0, 1, 0⟩]
theorem crash_fT (keep : Int) : crash (fT keep) 1 = some ⟨4, 0, 1, keep⟩ := rfl

theorem Try.fieldsC : Try.prog.underlying 51 = some (.struct (Try.prog.fieldsOf 51)) := by kernel_rfl
theorem Try.heldC : Try.prog.stoodInHeld 51 = false := by kernel_rfl
theorem Try.guardC : Try.prog.eqGuardType Try.prog.depth 51 = false := by kernel_rfl
theorem eql_counts (a b c d : Int) (w : World) : (binOp .eql 51 (.agg #[.int .i64 a, .int .i64 b, .int .i64 c, .int .i64 d]) (.agg #[.int .i64 a, .int .i64 b, .int .i64 c, .int .i64 d])).run Try.prog w = .ok (.bool true) w := by
  have hf : (Try.prog.fieldsOf 51).toList.map (fun f => (f.name, f.type, f.offset)) = [("Input", 3, 0), ("Scratch", 3, 1), ("Writes", 3, 2), ("Struck", 3, 3)] := by kernel_rfl
  rw [run_eql_struct, run_equalIn_agg w 9999 51 _ _ Try.fieldsC Try.heldC]
  have hlen : (Try.prog.fieldsOf 51).toList.length = 4 := by simpa using congrArg List.length hf
  obtain ⟨f0, f1, f2, f3, hl⟩ : ∃ f0 f1 f2 f3, (Try.prog.fieldsOf 51).toList = [f0, f1, f2, f3] := by
    generalize (Try.prog.fieldsOf 51).toList = l at hlen
    rcases l with _ | ⟨f0, _ | ⟨f1, _ | ⟨f2, _ | ⟨f3, _ | ⟨f4, r⟩⟩⟩⟩⟩ <;> simp at hlen
    exact ⟨f0, f1, f2, f3, rfl⟩
  rw [hl] at hf ⊢
  simp only [List.map_cons, List.map_nil, List.cons.injEq, Prod.mk.injEq, and_true] at hf
  obtain ⟨⟨n0, t0, o0⟩, ⟨n1, t1, o1⟩, ⟨n2, t2, o2⟩, n3, t3, o3⟩ := hf
  simp [Op.eqFields, n0, t0, o0, n1, t1, o1, n2, t2, o2, n3, t3, o3, part, run_equalIn_int, Try.underlying3]

set_option maxRecDepth 100000 in
set_option maxHeartbeats 1600000 in
theorem cloneB_row (w : World) (ad : Addr) (c : Nat) (l : List Int) (hl : BytesAt w (some ad) l) (hb : l.length ≤ 140737488355328) :
    Calls Try.prog 30 #[.slice (some ad) l.length c] w fun e w' => ∃ v, e = .returned v ∧ w'.ownsRow w.heap.size 5 1 v l.length (byt l) ∧ Kept w w' := by
  have q : ∀ (w : World) (a : Option Addr) (n c n' c' : Nat), (binOp .eql 22 (.slice a n c) (.slice none n' c')).run Try.prog w = .ok (.bool a.isNone) w := fun w a n c n' c' => Lib.run_eql_slice_nil w _ _ a n c n' c' Try.underlying22
  have HR : Hid (∀ ty, ∃ v' w', (Builtin.append_ #[22, 22] ty #[.slice (some ⟨w.heap.size, 0, none⟩) 0 0, .slice (some ad) l.length c]).run Try.prog (w.alloc (.cells #[] 5)) = .ok v' w' ∧ AppB w.heap.size (.slice (some ⟨w.heap.size, 0, none⟩) 0 0) (w.alloc (.cells #[] 5)) l v' w') := fun ty => by
    have := app_bytes (w := w.alloc (.cells #[] 5)) (base := w.heap.size) (c := c) (xs := []) (World.ownsRow_made w #[] 0 (Nat.le_refl _) (Nat.zero_le _) rfl) (hl.kept ((Same.refl (fun _ => False) w).alloc _) (fun _ _ h => h)) (fun e => by cases e) (by simpa using hb) (by simp) ty
    simpa using this
  obtain ⟨n, en⟩ : ∃ n, n = l.length := ⟨_, rfl⟩
  rw [← en] at HR ⊢
  have EN : Hid _ := en
  clear hl hb en
  go_enter Try.func30, Try.ntmps30
  go_wp2_with (at_builtin; refine wpList_app rfl (.tmp 5) (.tmp 6) 22 rfl _ _ rfl rfl _ HR.out ?_; intro v' w1 hR)
  go_ret
  obtain ⟨r1, r2, _⟩ := hR
  rw [← EN.out] at r1
  refine ⟨v', rfl, r1, ((Same.refl _ w).alloc _).trans (S' := fun k => k = w.heap.size) (Same.of_grown r2 (fun k e => ?_)) (fun i hi e => by omega)⟩
  simp [Value.ownBlock] at e
  exact e.symm
set_option maxRecDepth 100000 in
set_option maxHeartbeats 800000 in
theorem image_row {w : World} {m : M} {p : Pl} (h : Dv w m p) (hS : 0 < m.scr.length) : Calls Try.prog 18 #[.pointer (some ⟨p.db, 0, none⟩)] w fun e w' => ∃ g cap, e = .returned (.slice (some ⟨g, 0, none⟩) m.scr.length cap) ∧ w.heap.size ≤ g ∧ RowAt w' g m.scr ∧ Kept w w' := by
  obtain ⟨-, -, -, c, -, -⟩ := h.cells
  have hsc := h.good.scr
  have HC : Hid _ := cloneB_row w ⟨p.sb, 0, none⟩ (m.B * m.S) m.scr (bytes_row h.scr) (by rw [hsc]; exact Nat.le_trans (Nat.mul_le_mul h.good.b2 h.good.s2) (by decide))
  rw [← hsc] at c HC
  have HS : Hid _ := hS
  clear h hsc hS
  go_enter Try.func18, Try.ntmps18
  go_wp2_with fail
  refine Calls.mono HC.out ?_
  rintro e w1 ⟨v, rfl, h1, h5⟩
  obtain ⟨g, cap, rfl, r1, r2⟩ := RowAt.of_row h1 HS.out
  have R1 : Hid _ := r1
  have R2 : Hid _ := r2
  have H5 : Hid _ := h5
  clear h1 h5 r1 r2
  go_wp2_with fail
  go_ret
  exact ⟨g, cap, rfl, R1.out, R2.out, H5.out⟩
end Go.Proofs.Ytipfoognpenafaa
