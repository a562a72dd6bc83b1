/- What is proved: rows of bytes of one's own: kept, stored into, grown, marked; no condition. -/
import Derived.Test.YtpjkmficpedmcaaDApp
namespace Go.Proofs.Ytpjkmficpedmcaa
open Go.RowKit

/-- The value v is a row of the bytes l of one's own, in a block from base on. -/
abbrev OwnB (base : Nat) (w : World) (v : Value) (l : List Int) : Prop := w.ownsRow base 5 1 v l.length (byt l)
theorem OwnB.nil (base : Nat) (w : World) : OwnB base w (.slice none 0 0) [] := World.ownsRow_nil w base 5 1
theorem OwnB.kept {S : Nat → Prop} {base : Nat} {w w' : World} {v : Value} {l : List Int} (h : OwnB base w v l) (hs : Same S w w') (hn : ∀ k, v.ownBlock = some k → ¬ S k) : OwnB base w' v l := by
  refine ⟨h.1, ?_⟩
  rcases h.2 with h2 | ⟨g, cap, cur, rfl, hb, hg, h1, h2, h3, h4⟩
  · exact .inl h2
  · exact .inr ⟨g, cap, cur, rfl, hb, (hs.block g (lt_of_heap hg) (hn g (by simp [Value.ownBlock]))).trans hg, h1, h2, h3, h4⟩
theorem OwnB.lower {base base' : Nat} {w : World} {v : Value} {l : List Int} (h : OwnB base w v l) (hb : base' ≤ base) : OwnB base' w v l := by
  refine ⟨h.1, ?_⟩
  rcases h.2 with h2 | ⟨g, cap, cur, rfl, hb', hg, h1, h2, h3, h4⟩
  · exact .inl h2
  · exact .inr ⟨g, cap, cur, rfl, Nat.le_trans hb hb', hg, h1, h2, h3, h4⟩
theorem OwnB.block {base : Nat} {w : World} {v : Value} {l : List Int} (h : OwnB base w v l) {k : Nat} (hk : v.ownBlock = some k) : base ≤ k ∧ k < w.heap.size := by
  rcases h.2 with ⟨rfl, _⟩ | ⟨g, cap, cur, rfl, hb, hg, h1, h2, h3, h4⟩
  · simp [Value.ownBlock] at hk
  · simp [Value.ownBlock] at hk
    subst hk
    exact ⟨hb, lt_of_heap hg⟩
/-- What is known of such a row as a list in memory. -/
theorem OwnB.bytes {base : Nat} {w : World} {v : Value} {l : List Int} (h : OwnB base w v l) : ∃ a cap, v = .slice a l.length cap ∧ BytesAt w a l ∧ l.length ≤ cap ∧ (a = none → l.length = 0 ∧ cap = 0) ∧ (∀ k off, a = some ⟨k, off, none⟩ → base ≤ k ∧ off = 0) ∧ (∀ ad, a = some ad → ad.spot = none) := by
  obtain ⟨a, cap, rfl, h3, h4⟩ := BytesAt.of_row h
  refine ⟨a, cap, rfl, h3, ?_⟩
  rcases h.2 with ⟨h', _⟩ | ⟨g, c, cur, h', hb, _, hc, _⟩
  · simp only [Value.slice.injEq] at h'
    obtain ⟨rfl, h0, rfl⟩ := h'
    exact ⟨by omega, fun _ => ⟨h0, rfl⟩, (fun k off e => by cases e), (fun ad e => by cases e)⟩
  · simp only [Value.slice.injEq] at h'
    obtain ⟨rfl, -, rfl⟩ := h'
    exact ⟨hc, (fun e => by cases e), (fun k off e => by cases e; exact ⟨hb, rfl⟩), fun ad e => by cases e; rfl⟩

theorem bytes_new (w : World) (l : List Int) : BytesAt (w.alloc (.cells (byt l).toArray 5 (0, 0))) (some ⟨w.heap.size, 0, none⟩) l := fun i x hx => by
  refine ⟨w.heap.size, 0, rfl, by simp, ?_⟩
  rw [cell_of (heap_new w _), Nat.zero_add, List.getElem?_toArray, byt_get, hx]
  rfl
theorem BytesAt.at_own {base : Nat} {w : World} {g cap n : Nat} {l : List Int} (h : OwnB base w (.slice (some ⟨g, 0, none⟩) n cap) l) : BytesAt w (some ⟨g, 0, none⟩) l := by
  obtain ⟨a, c, e, hb, _⟩ := OwnB.bytes h
  simp only [Value.slice.injEq] at e
  rw [e.1]
  exact hb
/-- A store into a row of one's own. -/
theorem OwnB.set {base : Nat} {w : World} {g cap : Nat} {n : Nat} {l : List Int} (h : OwnB base w (.slice (some ⟨g, 0, none⟩) n cap) l) {i : Nat} (_ : i < l.length) (x : Int) : OwnB base (w.setCell ⟨g, i, none⟩ (.int .u8 x)) (.slice (some ⟨g, 0, none⟩) n cap) (l.set i x) ∧ w.frozen? ⟨g, i, none⟩ = false ∧ base ≤ g := by
  rcases h.2 with ⟨h', _⟩ | ⟨g', cap', cur, h', hb, hg, h1, h2, h3, h4⟩
  · cases h'
  · simp only [Value.slice.injEq, Option.some.injEq, Addr.mk.injEq, and_true] at h'
    obtain ⟨rfl, rfl, rfl⟩ := h'
    refine ⟨⟨by simp [byt], .inr ⟨g, cap, cur.setIfInBounds i (.int .u8 x), by rw [List.length_set], hb, setCell_at hg i _, by rw [List.length_set]; exact h1, h2, by simpa using h3, ?_⟩⟩, frozen_of hg i, hb⟩
    rw [List.length_set, Array.toList_setIfInBounds, List.take_set, h4]
    simp [byt, List.map_set]
theorem OwnB.addr {base : Nat} {w : World} {v : Value} {l : List Int} (h : OwnB base w v l) (hp : 0 < l.length) : ∃ g cap, v = .slice (some ⟨g, 0, none⟩) l.length cap ∧ l.length ≤ cap := by
  rcases h.2 with ⟨_, h0⟩ | ⟨g, cap, cur, rfl, hb, hg, h1, h2, h3, h4⟩
  · omega
  · exact ⟨g, cap, rfl, h1⟩
theorem bytes_take {w : World} {oa : Option Addr} {l : List Int} (h : BytesAt w oa l) (n : Nat) : BytesAt w oa (l.take n) := fun j x hx => by
  have hj := (List.getElem?_eq_some_iff.1 hx).1
  simp only [List.length_take] at hj
  rw [List.getElem?_take_of_lt (by omega)] at hx
  exact h j x hx
theorem bytes_pre {w : World} {oa : Option Addr} {a b : List Int} (h : BytesAt w oa (a ++ b)) : BytesAt w oa a := by
  have := bytes_take h a.length
  rwa [List.take_left] at this

/-- A row at its block: what OwnB says of it. -/
abbrev Rw (base : Nat) (w : World) (g n c : Nat) (l : List Int) : Prop := OwnB base w (.slice (some ⟨g, 0, none⟩) n c) l
theorem Rw.kept {S : Nat → Prop} {base : Nat} {w w' : World} {g n c : Nat} {l : List Int} (h : Rw base w g n c l) (hs : Same S w w') (hn : ¬ S g) : Rw base w' g n c l :=
  OwnB.kept h hs (fun k e => by simp [Value.ownBlock] at e; subst e; exact hn)
theorem Rw.lt {base : Nat} {w : World} {g n c : Nat} {l : List Int} (h : Rw base w g n c l) : base ≤ g ∧ g < w.heap.size := OwnB.block h (by rfl)
theorem Rw.len {base : Nat} {w : World} {g n c : Nat} {l : List Int} (h : Rw base w g n c l) : n = l.length ∧ n ≤ c := by
  obtain ⟨a, cap, e, _, h1, _⟩ := OwnB.bytes h
  simp only [Value.slice.injEq] at e
  omega
/-- One byte more behind a row: the row stays as it was. -/
theorem app_more {w : World} {base g c : Nat} {xs : List Int} (x : Int) (h : Rw base w g xs.length c xs) (hb : xs.length + 1 ≤ 140737488355328) (hbase : base ≤ w.heap.size) (ty : TypeId) :
    ∃ v' w', (Builtin.append_ #[22, 22] ty #[.slice (some ⟨g, 0, none⟩) xs.length c, .slice (some ⟨w.heap.size, 0, none⟩) 1 1]).run Try.prog (w.alloc (.cells #[.int .u8 x] 5)) = .ok v' w' ∧
      ∃ g' c', v' = .slice (some ⟨g', 0, none⟩) (xs.length + 1) c' ∧ Rw base w' g' (xs.length + 1) c' (xs ++ [x]) ∧ BytesAt w' (some ⟨g, 0, none⟩) xs ∧ Same (fun k => k = g) w w' ∧ (g' = g ∨ w.heap.size ≤ g') := by
  obtain ⟨i0, hi0, hz0, hz1, hz2⟩ := info_parts Try.infoByte
  have k0 : Kept w (w.alloc (.cells #[.int .u8 x] 5)) := (Same.refl _ w).alloc _
  have h0 : Rw base (w.alloc (.cells #[.int .u8 x] 5)) g xs.length c xs := h.kept k0 (fun h => h)
  have hnew : ∀ j u, (byt [x])[j]? = some u → (w.alloc (.cells #[.int .u8 x] 5)).cell? ((⟨w.heap.size, 0, none⟩ : Addr).add j) = some u := fun j u hu => by
    rw [byt_get] at hu
    obtain ⟨y, hy, rfl⟩ := Option.map_eq_some_iff.1 hu
    obtain ⟨b', off', e, _, hc⟩ := bytes_new w [x] j y hy
    cases e
    rw [Addr.add_lit]
    exact hc
  by_cases hr : xs.length + 1 ≤ c
  · obtain ⟨w', r1, r2, r3⟩ := run_append_fits (P := Try.prog) (w := w.alloc (.cells #[.int .u8 x] 5)) base 22 ty 5 i0 1 Try.underlying22 hi0 hz1 g xs.length c (byt xs) h0 ⟨w.heap.size, 0, none⟩ 1 1 (byt [x]) (by simp [byt]) hnew (byt_one _) hr
    rw [← byt_append] at r2
    have r2' : Rw base w' g (xs.length + 1) c (xs ++ [x]) := by
      rw [Rw, OwnB, List.length_append]
      exact r2
    have s1 : Same (fun k => k = g) (w.alloc (.cells #[.int .u8 x] 5)) w' := Same.of_grown r3 (fun k e => by simp at e; exact e.symm)
    exact ⟨_, w', r1, g, c, rfl, r2', bytes_pre (BytesAt.at_own r2'), (Kept.to k0 _).trans' s1, .inl rfl⟩
  · have hrun := run_append_grow (P := Try.prog) (w := w.alloc (.cells #[.int .u8 x] 5)) 22 ty 5 i0 _ Try.underlying22 hi0 hz0 ⟨g, 0, none⟩ xs.length c (byt xs) (by rw [hz1, length_byt, Nat.mul_one])
      (fun j v hv => by
        rw [byt_get] at hv
        obtain ⟨y, hy, rfl⟩ := Option.map_eq_some_iff.1 hv
        obtain ⟨b', off', e, _, hc⟩ := BytesAt.at_own h0 j y hy
        cases e
        rw [Addr.add_lit]
        exact hc)
      ⟨w.heap.size, 0, none⟩ 1 1 (byt [x]) (by rw [hz1]; simp [byt]) hnew (by omega) (by omega) (by have := h.len; rw [hz2]; exact growslice_fits (by omega) (by omega))
    have k1 : Kept w ((w.alloc (.cells #[.int .u8 x] 5)).drew.alloc (.cells ((byt xs).toArray ++ (byt [x]).toArray ++ Builtin.zeroCells (Value.int .u8 0).cells (grownCap (w.alloc (.cells #[.int .u8 x] 5)) (xs.length + 1) c 5 - (xs.length + 1))) 5)) := (k0.drew).alloc _
    refine ⟨_, _, hrun, (w.alloc (.cells #[.int .u8 x] 5)).heap.size, _, rfl, ?_, BytesAt.kept (BytesAt.at_own h) k1 (fun _ _ h => h), Kept.to k1 _, .inr (by simp)⟩
    have hge := grownCap_ge (w.alloc (.cells #[.int .u8 x] 5)) (xs.length + 1) c 5
    refine ⟨by simp [byt], .inr ⟨_, _, _, by rw [List.length_append]; rfl, by simp; omega, heap_new _ _, by rw [List.length_append]; exact hge, grownCap_le_maxLen _ _ _ _ (by unfold maxLen; omega), ?_, ?_⟩⟩
    · have hz : (Value.int IntKind.u8 0).cells.size = 1 := rfl
      simp only [Array.size_append, List.size_toArray, size_zeroCells, hz, length_byt]
      simp
      omega
    · rw [List.length_append, Array.toList_append, Array.toList_append]
      simp only
      rw [byt_append, List.take_append_of_le_length (by simp [byt])]
      rw [List.take_of_length_le (by simp [byt])]

/-- The first k bytes are marked with m. -/
def mark (m : Int) (k : Nat) (l : List Int) : List Int := List.replicate k m ++ l.drop k
theorem mark_zero (m : Int) (l : List Int) : mark m 0 l = l := by simp [mark]
theorem mark_len (m : Int) {k : Nat} {l : List Int} (h : k ≤ l.length) : (mark m k l).length = l.length := by simp [mark]; omega
theorem mark_next (m : Int) {k : Nat} {l : List Int} (h : k < l.length) : (mark m k l).set k m = mark m (k + 1) l := by
  unfold mark
  rw [List.set_append_right _ _ (by simp), List.length_replicate, Nat.sub_self, List.drop_eq_getElem_cons h, List.set_cons_zero, List.replicate_succ']
  simp
theorem mark_all (m : Int) (l : List Int) : mark m l.length l = List.replicate l.length m := by simp [mark]
end Go.Proofs.Ytpjkmficpedmcaa
