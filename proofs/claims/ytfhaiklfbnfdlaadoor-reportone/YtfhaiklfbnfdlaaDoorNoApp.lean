/- What is proved: rows of bytes of one's own, append onto them; the bounds that a machine's memory sets. -/
import Derived.Test.YtfhaiklfbnfdlaaDoorWApp
import Derived.Laws.AppendOwnNone
import Derived.Laws.OwnMore
import Derived.Laws.MakeOwn
import Derived.Lib.SliceRun
namespace Go.Proofs.YtfhaiklfbnfdlaaDoor
open Go.RowKit
theorem Tryd.infoByte : (Tryd.prog.info? 5).map (fun i => (i.zero, i.size, i.bytes)) = some (some (.int .u8 0), 1, 1) := by kernel_rfl
/-- The value v is a row of the bytes l of one's own, in a block from base on. -/
abbrev OwnB (base : Nat) (w : World) (v : Value) (l : List Int) : Prop := w.ownsRow base 5 1 v l.length (byt l)
theorem OwnB.nil (base : Nat) (w : World) : OwnB base w (.slice none 0 0) [] := World.ownsRow_nil w base 5 1
theorem OwnB.kept {S : Nat → Prop} {base : Nat} {w w' : World} {v : Value} {l : List Int} (h : OwnB base w v l) (hs : Same S w w') (hn : ∀ k, v.ownBlock = some k → ¬ S k) : OwnB base w' v l := by
  refine ⟨h.1, ?_⟩
  rcases h.2 with h2 | ⟨g, cap, cur, rfl, hb, hg, h1, h2, h3, h4⟩
  · exact .inl h2
  · exact .inr ⟨g, cap, cur, rfl, hb, (hs.block g (lt_of_heap hg) (hn g (by simp [Value.ownBlock]))).trans hg, h1, h2, h3, h4⟩
theorem OwnB.lower {base base' : Nat} {w : World} {v : Value} {l : List Int} (h : OwnB base w v l) (hb : base' ≤ base) : OwnB base' w v l := by
  refine ⟨h.1, ?_⟩
  rcases h.2 with h2 | ⟨g, cap, cur, rfl, hb', hg, h1, h2, h3, h4⟩
  · exact .inl h2
  · exact .inr ⟨g, cap, cur, rfl, Nat.le_trans hb hb', hg, h1, h2, h3, h4⟩
theorem OwnB.block {base : Nat} {w : World} {v : Value} {l : List Int} (h : OwnB base w v l) {k : Nat} (hk : v.ownBlock = some k) : base ≤ k ∧ k < w.heap.size := by
  rcases h.2 with ⟨rfl, _⟩ | ⟨g, cap, cur, rfl, hb, hg, h1, h2, h3, h4⟩
  · simp [Value.ownBlock] at hk
  · simp [Value.ownBlock] at hk
    subst hk
    exact ⟨hb, lt_of_heap hg⟩
/-- What is known of such a row as a list in memory. -/
theorem OwnB.bytes {base : Nat} {w : World} {v : Value} {l : List Int} (h : OwnB base w v l) : ∃ a cap, v = .slice a l.length cap ∧ BytesAt w a l ∧ l.length ≤ cap ∧ (a = none → l.length = 0 ∧ cap = 0) ∧ (∀ k off, a = some ⟨k, off, none⟩ → base ≤ k ∧ off = 0) ∧ (∀ ad, a = some ad → ad.spot = none) := by
  obtain ⟨a, cap, rfl, h3, h4⟩ := BytesAt.of_row h
  refine ⟨a, cap, rfl, h3, ?_⟩
  rcases h.2 with ⟨h', _⟩ | ⟨g, c, cur, h', hb, _, hc, _⟩
  · simp only [Value.slice.injEq] at h'
    obtain ⟨rfl, h0, rfl⟩ := h'
    exact ⟨by omega, fun _ => ⟨h0, rfl⟩, (fun k off e => by cases e), (fun ad e => by cases e)⟩
  · simp only [Value.slice.injEq] at h'
    obtain ⟨rfl, -, rfl⟩ := h'
    exact ⟨hc, (fun e => by cases e), (fun k off e => by cases e; exact ⟨hb, rfl⟩), fun ad e => by cases e; rfl⟩

/-- What an append leaves: the row with the new bytes behind it. -/
def AppR (base : Nat) (w : World) (ys : List Int) (v' : Value) (w' : World) : Prop := OwnB base w' v' ys ∧ Same (fun k => base ≤ k) w w'
theorem app_bytes {w : World} {base : Nat} {v : Value} {xs l : List Int} {oa : Option Addr} {c : Nat} (hown : OwnB base w v xs) (hl : BytesAt w oa l) (hnil : oa = none → l.length = 0 ∧ c = 0) (hb : xs.length + l.length ≤ 140737488355328) (hbase : base ≤ w.heap.size) (ty : TypeId) :
    ∃ v' w', (Builtin.append_ #[32, 32] ty #[v, .slice oa l.length c]).run Tryd.prog w = .ok v' w' ∧ AppR base w (xs ++ l) v' w' := by
  obtain ⟨i0, hi0, hz0, hz1, hz2⟩ := info_parts Tryd.infoByte
  cases oa with
  | none =>
    obtain ⟨h0, rfl⟩ := hnil rfl
    obtain rfl : l = [] := List.eq_nil_of_length_eq_zero h0
    refine ⟨v, w, run_append_owned_none (P := Tryd.prog) (w := w) base 32 ty 5 i0 1 Tryd.underlying32 hi0 v xs.length _ hown, ?_, Same.refl _ _⟩
    simpa using hown
  | some ad =>
    obtain ⟨v', w', hr, r1, r2, _, r3⟩ := run_append_own_at (P := Tryd.prog) (w := w) base 32 ty 5 i0 _ 1 1 Tryd.underlying32 hi0 hz0 hz1 hz2 rfl (by decide) v xs.length _ hown ad l.length c (byt l) (by rw [length_byt, Nat.mul_one])
      (fun j u hu => by
        rw [byt_get] at hu
        obtain ⟨x, hx, rfl⟩ := Option.map_eq_some_iff.1 hu
        obtain ⟨b', off', e, _, hc⟩ := hl _ _ hx
        cases e
        rw [Addr.add_lit]
        exact hc) (byt_one _) (by unfold maxLen; omega) (by omega) hbase
    rw [← byt_append] at r1
    exact ⟨v', w', hr, by rw [OwnB, List.length_append]; exact r1, Same.of_grown r2 (fun k e => (hown.block e).1)⟩
theorem AppR.old {base : Nat} {w w0 : World} {ys : List Int} {v' : Value} {w' : World} (h : AppR base w0 ys v' w') (k : Kept w w0) : AppR base w ys v' w' := ⟨h.1, (Kept.to k _).trans' h.2⟩
theorem bytes_new (w : World) (l : List Int) : BytesAt (w.alloc (.cells (byt l).toArray 5 (0, 0))) (some ⟨w.heap.size, 0, none⟩) l := fun i x hx => by
  refine ⟨w.heap.size, 0, rfl, by simp, ?_⟩
  rw [cell_of (heap_new w _), Nat.zero_add, List.getElem?_toArray, byt_get, hx]
  rfl
/-- One byte more. -/
theorem app_one {w : World} {base : Nat} {v : Value} {xs : List Int} (x : Int) (hown : OwnB base w v xs) (hb : xs.length + 1 ≤ 140737488355328) (hbase : base ≤ w.heap.size) (ty : TypeId) :
    ∃ v' w', (Builtin.append_ #[32, 32] ty #[v, .slice (some ⟨w.heap.size, 0, none⟩) 1 1]).run Tryd.prog (w.alloc (.cells #[.int .u8 x] 5)) = .ok v' w' ∧ AppR base w (xs ++ [x]) v' w' := by
  obtain ⟨v', w', h1, h2⟩ := app_bytes (c := 1) (hown.kept ((Same.refl (fun _ => False) w).alloc (.cells #[.int .u8 x] 5)) (fun _ _ h => h)) (bytes_new w [x]) (fun e => by cases e) hb (by simp; omega) ty
  exact ⟨v', w', h1, h2.old ((Same.refl _ w).alloc _)⟩
/-- append onto an empty literal. -/
theorem app_lit {w : World} {l : List Int} {oa : Option Addr} {c : Nat} (hl : BytesAt w oa l) (hnil : oa = none → l.length = 0 ∧ c = 0) (hb : l.length ≤ 140737488355328) (ty : TypeId) :
    ∃ v' w', (Builtin.append_ #[32, 32] ty #[.slice (some ⟨w.heap.size, 0, none⟩) 0 0, .slice oa l.length c]).run Tryd.prog (w.alloc (.cells #[] 5)) = .ok v' w' ∧ OwnB w.heap.size w' v' l ∧ Kept w w' := by
  obtain ⟨v', w', h1, h2, h3⟩ := app_bytes (w := w.alloc (.cells #[] 5)) (base := w.heap.size) (xs := []) (World.ownsRow_made w #[] 0 (Nat.le_refl _) (Nat.zero_le _) rfl) (hl.kept ((Same.refl (fun _ => False) w).alloc _) (fun _ _ h => h)) hnil (by simpa using hb) (by simp) ty
  exact ⟨v', w', h1, h2, ((Same.refl _ w).alloc _).trans h3 (fun i hi e => by omega)⟩
/-- 'make' of an empty row with room. -/
theorem make_room (w : World) (n : Nat) (hn : n ≤ 281474976710656) : (Instr.makeSlice 32 (.int .i64 0) (.int .i64 (n : Int))).run Tryd.prog w = .ok (.slice (some ⟨w.heap.size, 0, none⟩) 0 n) (w.alloc (.cells (madeCells #[.int .u8 0] n) 5)) := by
  obtain ⟨i0, hi0, hz0, hz1, hz2⟩ := info_parts Tryd.infoByte
  have hr := run_make (P := Tryd.prog) w 32 5 i0 _ Tryd.underlying32 hi0 hz0 .i64 .i64 0 n (by omega) (by omega) (by rw [hz2]; omega) (by omega)
  simp only [Int.toNat_natCast, hz1, Nat.mul_one] at hr
  exact hr
theorem own_made (w : World) (n : Nat) (hn : n ≤ 281474976710656) : OwnB w.heap.size (w.alloc (.cells (madeCells #[.int .u8 0] n) 5)) (.slice (some ⟨w.heap.size, 0, none⟩) 0 n) [] :=
  ⟨rfl, .inr ⟨w.heap.size, n, _, rfl, Nat.le_refl _, heap_new w _, Nat.zero_le _, by unfold maxLen; omega, by simp [madeCells], by simp [byt]⟩⟩

end Go.Proofs.YtfhaiklfbnfdlaaDoor
