/- What is proved: small laws for WireMemory: arguments, rows that are marked, one byte more behind a row whose beginning stays; no condition. -/
import Derived.Test.YtfedenfnkimngabMAnch
import Derived.Test.YtfedenfnkimngabMTxt
namespace Go.Proofs.Ytfedenfnkimngab
open Go.RowKit

/-- What is known of an argument that is a list of bytes. -/
structure ArgB (w : World) (oa : Option Addr) (c : Nat) (l : List Int) : Prop where
  data : BytesAt w oa l
  nil : oa = none → l.length = 0 ∧ c = 0
  cap : l.length ≤ c
  byts : Byts l
  len : l.length ≤ reachBytes
theorem ArgB.le {w : World} {oa : Option Addr} {c : Nat} {l : List Int} (h : ArgB w oa c l) : l.length ≤ 140737488351232 := by
  have := h.len
  unfold reachBytes at this
  omega
theorem ArgB.on {w w' : World} {oa : Option Addr} {c : Nat} {l : List Int} (h : ArgB w oa c l) (k : Kept w w') : ArgB w' oa c l := ⟨h.data.kept k (fun _ _ h => h), h.nil, h.cap, h.byts, h.len⟩
theorem bytes_take {w : World} {oa : Option Addr} {l : List Int} (h : BytesAt w oa l) (n : Nat) : BytesAt w oa (l.take n) := fun j x hx => by
  have hj := (List.getElem?_eq_some_iff.1 hx).1
  simp only [List.length_take] at hj
  rw [List.getElem?_take_of_lt (by omega)] at hx
  exact h j x hx
theorem bytes_pre {w : World} {oa : Option Addr} {a b : List Int} (h : BytesAt w oa (a ++ b)) : BytesAt w oa a := by
  have := bytes_take h a.length
  rwa [List.take_left] at this

/-- A row at its block: what OwnB says of it. -/
abbrev Rw (base : Nat) (w : World) (g n c : Nat) (l : List Int) : Prop := OwnB base w (.slice (some ⟨g, 0, none⟩) n c) l
theorem Rw.kept {S : Nat → Prop} {base : Nat} {w w' : World} {g n c : Nat} {l : List Int} (h : Rw base w g n c l) (hs : Same S w w') (hn : ¬ S g) : Rw base w' g n c l :=
  OwnB.kept h hs (fun k e => by simp [Value.ownBlock] at e; subst e; exact hn)
theorem Rw.lt {base : Nat} {w : World} {g n c : Nat} {l : List Int} (h : Rw base w g n c l) : base ≤ g ∧ g < w.heap.size := OwnB.block h (by rfl)
theorem Rw.len {base : Nat} {w : World} {g n c : Nat} {l : List Int} (h : Rw base w g n c l) : n = l.length ∧ n ≤ c := by
  obtain ⟨a, cap, e, _, h1, _⟩ := OwnB.bytes h
  simp only [Value.slice.injEq] at e
  omega
/-- One byte more behind a row: the row stays as it was. -/
theorem app_more {w : World} {base g c : Nat} {xs : List Int} (x : Int) (h : Rw base w g xs.length c xs) (hb : xs.length + 1 ≤ 140737488355328) (hbase : base ≤ w.heap.size) (ty : TypeId) :
    ∃ v' w', (Builtin.append_ #[22, 22] ty #[.slice (some ⟨g, 0, none⟩) xs.length c, .slice (some ⟨w.heap.size, 0, none⟩) 1 1]).run Try.prog (w.alloc (.cells #[.int .u8 x] 5)) = .ok v' w' ∧
      ∃ g' c', v' = .slice (some ⟨g', 0, none⟩) (xs.length + 1) c' ∧ Rw base w' g' (xs.length + 1) c' (xs ++ [x]) ∧ BytesAt w' (some ⟨g, 0, none⟩) xs ∧ Same (fun k => k = g) w w' ∧ (g' = g ∨ w.heap.size ≤ g') := by
  obtain ⟨i0, hi0, hz0, hz1, hz2⟩ := info_parts Try.infoByte
  have k0 : Kept w (w.alloc (.cells #[.int .u8 x] 5)) := (Same.refl _ w).alloc _
  have h0 : Rw base (w.alloc (.cells #[.int .u8 x] 5)) g xs.length c xs := h.kept k0 (fun h => h)
  have hnew : ∀ j u, (byt [x])[j]? = some u → (w.alloc (.cells #[.int .u8 x] 5)).cell? ((⟨w.heap.size, 0, none⟩ : Addr).add j) = some u := fun j u hu => by
    rw [byt_get] at hu
    obtain ⟨y, hy, rfl⟩ := Option.map_eq_some_iff.1 hu
    obtain ⟨b', off', e, _, hc⟩ := bytes_new w [x] j y hy
    cases e
    rw [Addr.add_lit]
    exact hc
  by_cases hr : xs.length + 1 ≤ c
  · obtain ⟨w', r1, r2, r3⟩ := run_append_fits (P := Try.prog) (w := w.alloc (.cells #[.int .u8 x] 5)) base 22 ty 5 i0 1 Try.underlying22 hi0 hz1 g xs.length c (byt xs) h0 ⟨w.heap.size, 0, none⟩ 1 1 (byt [x]) (by simp [byt]) hnew (byt_one _) hr
    rw [← byt_append] at r2
    have r2' : Rw base w' g (xs.length + 1) c (xs ++ [x]) := by
      rw [Rw, OwnB, List.length_append]
      exact r2
    have s1 : Same (fun k => k = g) (w.alloc (.cells #[.int .u8 x] 5)) w' := Same.of_grown r3 (fun k e => by simp at e; exact e.symm)
    exact ⟨_, w', r1, g, c, rfl, r2', bytes_pre (BytesAt.at_own r2'), (Kept.to k0 _).trans' s1, .inl rfl⟩
  · have hrun := run_append_grow (P := Try.prog) (w := w.alloc (.cells #[.int .u8 x] 5)) 22 ty 5 i0 _ Try.underlying22 hi0 hz0 ⟨g, 0, none⟩ xs.length c (byt xs) (by rw [hz1, length_byt, Nat.mul_one])
      (fun j v hv => by
        rw [byt_get] at hv
        obtain ⟨y, hy, rfl⟩ := Option.map_eq_some_iff.1 hv
        obtain ⟨b', off', e, _, hc⟩ := BytesAt.at_own h0 j y hy
        cases e
        rw [Addr.add_lit]
        exact hc)
      ⟨w.heap.size, 0, none⟩ 1 1 (byt [x]) (by rw [hz1]; simp [byt]) hnew (by omega) (by omega) (by have := h.len; rw [hz2]; exact growslice_fits (by omega) (by omega))
    have k1 : Kept w ((w.alloc (.cells #[.int .u8 x] 5)).drew.alloc (.cells ((byt xs).toArray ++ (byt [x]).toArray ++ Builtin.zeroCells (Value.int .u8 0).cells (grownCap (w.alloc (.cells #[.int .u8 x] 5)) (xs.length + 1) c 5 - (xs.length + 1))) 5)) := (k0.drew).alloc _
    refine ⟨_, _, hrun, (w.alloc (.cells #[.int .u8 x] 5)).heap.size, _, rfl, ?_, BytesAt.kept (BytesAt.at_own h) k1 (fun _ _ h => h), Kept.to k1 _, .inr (by simp)⟩
    have hge := grownCap_ge (w.alloc (.cells #[.int .u8 x] 5)) (xs.length + 1) c 5
    refine ⟨by simp [byt], .inr ⟨_, _, _, by rw [List.length_append]; rfl, by simp; omega, heap_new _ _, by rw [List.length_append]; exact hge, grownCap_le_maxLen _ _ _ _ (by unfold maxLen; omega), ?_, ?_⟩⟩
    · have hz : (Value.int IntKind.u8 0).cells.size = 1 := rfl
      simp only [Array.size_append, List.size_toArray, size_zeroCells, hz, length_byt]
      simp
      omega
    · rw [List.length_append, Array.toList_append, Array.toList_append]
      simp only
      rw [byt_append, List.take_append_of_le_length (by simp [byt])]
      rw [List.take_of_length_le (by simp [byt])]

/-- The first k bytes are marked with m. -/
def mark (m : Int) (k : Nat) (l : List Int) : List Int := List.replicate k m ++ l.drop k
theorem mark_zero (m : Int) (l : List Int) : mark m 0 l = l := by simp [mark]
theorem mark_len (m : Int) {k : Nat} {l : List Int} (h : k ≤ l.length) : (mark m k l).length = l.length := by simp [mark]; omega
theorem mark_next (m : Int) {k : Nat} {l : List Int} (h : k < l.length) : (mark m k l).set k m = mark m (k + 1) l := by
  unfold mark
  rw [List.set_append_right _ _ (by simp), List.length_replicate, Nat.sub_self, List.drop_eq_getElem_cons h, List.set_cons_zero, List.replicate_succ']
  simp
theorem mark_all (m : Int) (l : List Int) : mark m l.length l = List.replicate l.length m := by simp [mark]
end Go.Proofs.Ytfedenfnkimngab
