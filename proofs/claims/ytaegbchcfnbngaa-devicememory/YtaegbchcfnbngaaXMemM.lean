/- What is proved: the device of DeviceMemory, as far as that law asks it: its reads, Image and Input give rows of their own; the device lies in memory. -/
import Derived.Test.YtaegbchcfnbngaaXRow
import Derived.Test.YtaegbchcfnbngaaXAnchor
namespace Go.Proofs.Ytaegbchcfnbngaa
open Go.RowKit

/-- The device of DeviceMemory: input l, both blocks d, r reads; its blocks lie from Z on and below Y. -/
def DQ (Z Y : Nat) (w : World) (p : Pl) (l d : List Int) (r : Nat) : Prop :=
  ∃ m : M, Dv w m p ∧ m.B = 16 ∧ m.S = 2 ∧ m.inp = l ∧ m.scr = d ++ d ∧ m.F = [⟨1, 0, 9, 0⟩] ∧ m.down = false ∧ m.R 1 0 ≤ r ∧ m.k ≤ 10 + 2 * r ∧ ∀ k, Foot m p k → Z ≤ k ∧ k < Y
theorem DQ.kept {S : Nat → Prop} {Z Y : Nat} {w w' : World} {p : Pl} {l d : List Int} {r : Nat} (h : DQ Z Y w p l d r) (hs : Same S w w') (hn : ∀ k, Z ≤ k → k < Y → ¬ S k) : DQ Z Y w' p l d r := by
  obtain ⟨m, h0, h1, h2, h3, h4, h5, h6, h7, h8, h9⟩ := h
  exact ⟨m, h0.kept hs (fun k hk => hn k (h9 k hk).1 (h9 k hk).2), h1, h2, h3, h4, h5, h6, h7, h8, h9⟩
theorem DQ.on {Z Y : Nat} {w w' : World} {p : Pl} {l d : List Int} {r : Nat} (h : DQ Z Y w p l d r) (hs : Kept w w') : DQ Z Y w' p l d r := h.kept hs (fun _ _ _ h => h)
/-- Nothing but the device's blocks has turned. -/
abbrev SameD (Z Y : Nat) (w w' : World) : Prop := Same (fun k => Z ≤ k ∧ k < Y) w w'

theorem Rw.rebase {base base' : Nat} {w : World} {g n c : Nat} {l : List Int} (h : Rw base w g n c l) (hb : base' ≤ g) : Rw base' w g n c l := by
  refine ⟨h.1, ?_⟩
  rcases h.2 with h2 | ⟨g', cap, cur, e, hb', hg, h1, h2, h3, h4⟩
  · exact .inl h2
  · simp only [Value.slice.injEq, Option.some.injEq, Addr.mk.injEq, and_true] at e
    obtain ⟨rfl, rfl, rfl⟩ := e
    exact .inr ⟨g, c, cur, rfl, hb, hg, h1, h2, h3, h4⟩

theorem DQ.readIn {Z Y : Nat} {w : World} {p : Pl} {l d : List Int} {r : Nat} (h : DQ Z Y w p l d r) (hr : r ≤ 7) (h1 : 1 ≤ l.length) (h2 : l.length ≤ 16) :
    Calls Try.prog 8 #[.pointer (some ⟨p.db, 0, none⟩), .int .i64 0] w fun e w' => ∃ g, e = .returned (.tuple #[.slice (some ⟨g, 0, none⟩) l.length l.length, .int .i64 0]) ∧ Rw w.heap.size w' g l.length l.length l ∧ DQ Z Y w' p l d (r + 1) ∧ SameD Z Y w w' := by
  obtain ⟨m, h0, hB, hS, hi, hs, hF, hd, hR, hk, hZ⟩ := h
  have hh : Hits m.F 1 ((0 : Nat) : Int) (m.R 1 ((0 : Nat) : Int) + 1) = false := by
    have e : ¬ (9 : Int) = ((m.R 1 0 + 1 : Nat) : Int) := by omega
    rw [hF]
    simp [Hits]
    intro e'
    exact e (by rw [e']; simp)
  have hc : cut m.B m.inp 0 = l := by
    rw [hB, hi, cut, Nat.zero_mul, List.drop_zero, List.take_of_length_le h2]
  refine Calls.mono (readIn_row h0 0 hd (by rw [hi]; omega) (by omega) hh) ?_
  rintro e w' ⟨g, rfl, r1, d1, s1⟩
  rw [hc] at r1 ⊢
  refine ⟨g, rfl, r1, ⟨_, d1, hB, hS, hi, hs, hF, hd, ?_, ?_, fun k hk => hZ k hk⟩, s1.mono fun k _ hk => hZ k (.inl hk)⟩
  · show bump m.R 1 ((0 : Nat) : Int) 1 0 ≤ r + 1
    have : bump m.R 1 ((0 : Nat) : Int) 1 0 = m.R 1 0 + 1 := bump_same _ _ _
    omega
  · show m.k + 1 + 1 ≤ 10 + 2 * (r + 1)
    omega
theorem DQ.readSc {Z Y : Nat} {w : World} {p : Pl} {l d : List Int} {r : Nat} (h : DQ Z Y w p l d r) (hr : r ≤ 7) (h1 : d.length = 16) (b : Nat) (hb : b < 2) :
    Calls Try.prog 9 #[.pointer (some ⟨p.db, 0, none⟩), .int .i64 (b : Int)] w fun e w' => ∃ g, e = .returned (.tuple #[.slice (some ⟨g, 0, none⟩) 16 16, .int .i64 0]) ∧ Rw w.heap.size w' g 16 16 d ∧ DQ Z Y w' p l d (r + 1) ∧ SameD Z Y w w' := by
  obtain ⟨m, h0, hB, hS, hi, hs, hF, hd, hR, hk, hZ⟩ := h
  have hh : Hits m.F 2 (b : Int) (m.R 2 (b : Int) + 1) = false := by
    rw [hF]
    simp [Hits]
  have hc : cut m.B m.scr b = d := by
    rw [hB, hs, cut]
    rcases (show b = 0 ∨ b = 1 by omega) with rfl | rfl
    · rw [Nat.zero_mul, List.drop_zero, ← h1, List.take_left]
    · rw [Nat.one_mul, ← h1, List.drop_left, List.take_length]
  refine Calls.mono (readSc_row h0 b hd (by omega) (by omega) hh) ?_
  rintro e w' ⟨g, rfl, r1, d1, s1⟩
  rw [hc, h1] at r1
  rw [hc, h1]
  refine ⟨g, rfl, r1, ⟨_, d1, hB, hS, hi, hs, hF, hd, ?_, ?_, fun k hk => hZ k hk⟩, s1.mono fun k _ hk => hZ k (.inl hk)⟩
  · show bump m.R 2 (b : Int) 1 0 ≤ r + 1
    have : bump m.R 2 (b : Int) 1 0 ≤ m.R 1 0 + 1 := by
      unfold bump
      split <;> omega
    omega
  · show m.k + 1 + 1 ≤ 10 + 2 * (r + 1)
    omega
theorem DQ.image {Z Y : Nat} {w : World} {p : Pl} {l d : List Int} {r : Nat} (h : DQ Z Y w p l d r) (h1 : d.length = 16) :
    Calls Try.prog 10 #[.pointer (some ⟨p.db, 0, none⟩)] w fun e w' => ∃ g cap, e = .returned (.slice (some ⟨g, 0, none⟩) 32 cap) ∧ Rw w.heap.size w' g 32 cap (d ++ d) ∧ Kept w w' := by
  obtain ⟨m, h0, hB, hS, hi, hs, hF, hd, hR, hk, hZ⟩ := h
  have hl : (d ++ d).length = 32 := by rw [List.length_append, h1]
  have := image_row h0 (by rw [hs, hl]; decide)
  rw [hs, hl] at this
  exact this
theorem DQ.input {Z Y : Nat} {w : World} {p : Pl} {l d : List Int} {r : Nat} (h : DQ Z Y w p l d r) (h1 : 1 ≤ l.length) :
    Calls Try.prog 11 #[.pointer (some ⟨p.db, 0, none⟩)] w fun e w' => ∃ g cap, e = .returned (.slice (some ⟨g, 0, none⟩) l.length cap) ∧ Rw w.heap.size w' g l.length cap l ∧ Kept w w' := by
  obtain ⟨m, h0, hB, hS, hi, hs, hF, hd, hR, hk, hZ⟩ := h
  have := input_row h0 (by rw [hi]; omega)
  rw [hi] at this
  exact this

theorem chk_mem (l d : List Int) (h2 : l.length ≤ 16) (h1 : d.length = 16) : chk 16 2 l.length d.length [⟨1, 0, 9, 0⟩] = 0 := by
  unfold chk
  rw [if_neg (by decide), if_neg (by omega), if_neg (by rw [h1]; decide), if_neg (by decide)]
theorem made_scr (d : List Int) (h1 : d.length = 16) : splice (splice (List.replicate (16 * 2) (0 : Int)) 0 d) (1 * 16) d = d ++ d := by
  have e1 : splice (List.replicate (16 * 2) (0 : Int)) 0 d = d ++ List.replicate 16 0 := by simp [splice, h1]
  rw [e1]
  unfold splice
  rw [Nat.one_mul, ← h1, List.take_left, List.drop_eq_nil_of_le (by simp), List.append_nil]
theorem DQ.write {w : World} {p : Pl} {l d : List Int} {Z : Nat} (h : Dv w (M.made 16 2 l d [⟨1, 0, 9, 0⟩]) p) (hZ : ∀ k, Foot (M.made 16 2 l d [⟨1, 0, 9, 0⟩]) p k → Z ≤ k) (h1 : d.length = 16) (a : Option Addr) (cap : Nat) (ha : BytesAt w a d) (hcap : d.length ≤ cap) (hap : ∀ k, InB a d.length k → k ≠ p.db) :
    Calls Try.prog 7 #[.pointer (some ⟨p.db, 0, none⟩), .int .i64 1, .slice a 16 cap] w fun e w' => e = .returned (.int .i64 0) ∧ DQ Z w.heap.size w' p l d 0 ∧ Same (Own p) w w' := by
  have hw := write_any h 1 a cap d ha hcap hap (show 0 + 1 < 4611686018427387904 by decide)
  have e : (M.made 16 2 l d [⟨1, 0, 9, 0⟩]).write 1 d = (0, (M.made 16 2 l d [⟨1, 0, 9, 0⟩]).cW1.torn (1 * 16) d false) := by
    have := write_in (m := M.made 16 2 l d [⟨1, 0, 9, 0⟩]) (n := 1) (d := d) rfl (show 1 < 2 by decide) h1
    exact this
  rw [e, h1] at hw
  refine hw.mono ?_
  rintro e w' ⟨rfl, d1, s1⟩
  refine ⟨rfl, ⟨_, d1, rfl, rfl, rfl, made_scr d h1, rfl, rfl, Nat.zero_le _, ?_, fun k hk => ⟨hZ k hk, h.lt hk⟩⟩, s1⟩
  show 0 + 1 ≤ 10 + 2 * 0
  decide

/-- append onto an empty literal, wherever it lies: a row of one's own. -/
theorem clone_own {w : World} {l : List Int} {oa : Option Addr} {c : Nat} (b : Addr) (hl : BytesAt w oa l) (h0 : 0 < l.length) (hb : l.length ≤ 140737488355328) (ty : TypeId) :
    ∃ v' w', (Builtin.append_ #[22, 22] ty #[.slice (some b) 0 0, .slice oa l.length c]).run Try.prog w = .ok v' w' ∧ ∃ g cap, v' = .slice (some ⟨g, 0, none⟩) l.length cap ∧ Rw w.heap.size w' g l.length cap l ∧ Kept w w' := by
  obtain ⟨i0, hi0, hz0, hz1, hz2⟩ := info_parts Try.infoByte
  obtain ⟨ab, off, rfl, -, -⟩ := hl 0 (l[0]'h0) (List.getElem?_eq_getElem _)
  have hr := run_append_grow (P := Try.prog) (w := w) 22 ty 5 i0 _ Try.underlying22 hi0 hz0 b 0 0 [] (by simp) (by simp) ⟨ab, off, none⟩ l.length c (byt l) (by rw [length_byt, hz1, Nat.mul_one])
    (fun j u hu => by
      rw [byt_get] at hu
      obtain ⟨x, hx, rfl⟩ := Option.map_eq_some_iff.1 hu
      obtain ⟨b', off', e, _, hc⟩ := hl _ _ hx
      cases e
      rw [Addr.add_lit]
      exact hc) (by omega) (by omega) (by rw [hz2]; exact growslice_fits (by omega) (by omega))
  have hge := grownCap_ge w (0 + l.length) 0 5
  rw [Nat.zero_add] at hr hge
  refine ⟨_, _, hr, w.heap.size, _, rfl, ⟨by simp [byt], .inr ⟨_, _, _, rfl, Nat.le_refl _, heap_new w.drew _, hge, grownCap_le_maxLen _ _ _ _ (by unfold maxLen; omega), ?_, ?_⟩⟩, ((Same.refl _ w).drew).alloc _⟩
  · have hz : (Value.int IntKind.u8 0).cells.size = 1 := rfl
    simp only [Array.size_append, List.size_toArray, size_zeroCells, hz, length_byt]
    simp
    omega
  · simp only [Array.toList_append, List.nil_append]
    rw [List.take_append_of_le_length (by simp [byt]), List.take_of_length_le (by simp [byt])]
end Go.Proofs.Ytaegbchcfnbngaa
