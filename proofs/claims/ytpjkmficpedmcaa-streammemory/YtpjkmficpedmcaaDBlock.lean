/- What is proved: block copies a block of a region's bytes into a row of its own; the device lies in memory. -/
import Derived.Test.YtpjkmficpedmcaaDRead
namespace Go.Proofs.Ytpjkmficpedmcaa
open Go.RowKit

theorem Try.infoByte : (Try.prog.info? 5).map (fun i => (i.zero, i.size, i.bytes)) = some (some (.int .u8 0), 1, 1) := by kernel_rfl
theorem Try.sizeByte : (Try.prog.info? 5).map (·.size) = some 1 := by kernel_rfl

theorem made_byt (n : Nat) : madeCells #[.int .u8 0] n = (byt (List.replicate n 0)).toArray := by
  apply Array.ext
  · simp [madeCells, byt]
  · intro j h1 h2
    simp [madeCells, byt, Nat.mod_one]
/-- 'make' of a row of bytes. -/
theorem make_bytes (w : World) (n : Nat) (hn : n ≤ 4194304) : (Instr.makeSlice 22 (.int .i64 (n : Int)) (.int .i64 (n : Int))).run Try.prog w = .ok (.slice (some ⟨w.heap.size, 0, none⟩) n n) (w.alloc (rowObj (List.replicate n 0))) := by
  obtain ⟨i0, hi0, hz0, hz1, hz2⟩ := info_parts Try.infoByte
  have hr := run_make (P := Try.prog) w 22 5 i0 _ Try.underlying22 hi0 hz0 .i64 .i64 n n (by omega) (Int.le_refl _) (by rw [hz2]; omega) (by omega)
  simp only [Int.toNat_natCast, hz1, Nat.mul_one] at hr
  rw [hr, rowObj, ← made_byt]
  rfl

theorem splice_byt (L cs : List Int) (off : Nat) : splice (byt L) off (byt cs) = byt (splice L off cs) := by simp [splice, byt]
theorem splice_all {α : Type} (L cs : List α) (h : L.length = cs.length) : splice L 0 cs = cs := by simp [splice, h]

/-- Block b of a region's bytes. -/
def cut (B : Nat) (l : List Int) (b : Nat) : List Int := (l.drop (b * B)).take B
theorem length_cut (B : Nat) (l : List Int) (b : Nat) : (cut B l b).length = min B (l.length - b * B) := by simp [cut]
theorem cut_get {B : Nat} {l : List Int} {b i : Nat} {x : Int} (h : (cut B l b)[i]? = some x) : l[b * B + i]? = some x := by
  have hi := (List.getElem?_eq_some_iff.1 h).1
  rw [length_cut] at hi
  rw [cut, List.getElem?_take_of_lt (by omega), List.getElem?_drop] at h
  exact h

theorem BytesAt.cut {w : World} {ab off : Nat} {l : List Int} (h : BytesAt w (some ⟨ab, off, none⟩) l) (B b : Nat) : BytesAt w (some ⟨ab, off + b * B, none⟩) (cut B l b) := fun i x hx => by
  obtain ⟨b', off', e, hb, hc⟩ := h _ _ (cut_get hx)
  cases e
  exact ⟨ab, _, rfl, hb, by rw [Nat.add_assoc]; exact hc⟩

/-- 'copy' into a row that is known whole. -/
theorem copy_bytes {w : World} {g off : Nat} {cur cs : List Int} {dp sp : Option Addr} {dLen dCap sLen sCap : Nat} (hg : w.heap[g]? = some (rowObj cur)) (hn : cs.length = Nat.min sLen dLen) (hs : BytesAt w sp cs) (hfit : off + cs.length ≤ cur.length)
    (hd : 0 < cs.length → dp = some ⟨g, off, none⟩) :
    ∃ w', (Builtin.copy_ #[22, 22] 3 #[.slice dp dLen dCap, .slice sp sLen sCap]).run Try.prog w = .ok (goInt cs.length) w' ∧ w'.heap[g]? = some (rowObj (splice cur off cs)) ∧ Same (fun k => k = g) w w' := by
  by_cases h0 : cs.length = 0
  · obtain rfl : cs = [] := List.eq_nil_of_length_eq_zero h0
    refine ⟨w, run_copy_none (P := Try.prog) w 22 22 3 5 dp sp dLen dCap sLen sCap Try.underlying22 Try.sizeByte hn.symm, ?_, Same.refl _ _⟩
    simpa [splice] using hg
  · obtain rfl := hd (by omega)
    obtain ⟨b, so, rfl, hb, -⟩ := hs 0 cs[0] (List.getElem?_eq_getElem (by omega))
    have hrun := run_copy_row (P := Try.prog) w 22 22 3 5 g off dLen dCap ⟨b, so, none⟩ sLen sCap (byt cur).toArray 5 (byt cs) Try.underlying22 Try.sizeByte hg (by rw [length_byt]; exact hn)
      (fun j v hv => by
        rw [byt_get] at hv
        obtain ⟨x, hx, rfl⟩ := Option.map_eq_some_iff.1 hv
        obtain ⟨b', off', e, _, hc⟩ := hs _ _ hx
        cases e
        rw [Addr.add_lit]
        exact hc) (by simpa [length_byt] using hfit) (byt_one _)
    refine ⟨_, by rw [hrun, length_byt], ?_, ?_⟩
    · rw [setRow_heap w g _ _ 5 _ hg, rowObj, ← splice_byt]
      simp [splice, length_byt]
    · exact ⟨rfl, rfl, rfl, by simp [World.setRow], fun k _ hk => setRow_other w g k _ hk⟩

set_option maxRecDepth 100000 in
set_option maxHeartbeats 1600000 in
theorem block_any {w : World} {m : M} {p : Pl} (h : Dv w m p) (a : Option Addr) (cap : Nat) (l : List Int) (hl : BytesAt w a l) (hlen : l.length ≤ 4194304) (hcap : l.length ≤ cap) (b : Nat) (hb : b * m.B < l.length) :
    Calls Try.prog 75 #[.pointer (some ⟨p.db, 0, none⟩), .int .i64 b, .slice a l.length cap] w fun e w' => e = .returned (.slice (some ⟨w.heap.size, 0, none⟩) (cut m.B l b).length (cut m.B l b).length) ∧ w'.heap[w.heap.size]? = some (rowObj (cut m.B l b)) ∧ Kept w w' := by
  obtain ⟨c0, -, -, -, -, -⟩ := h.cells
  have b1 := h.good.b1
  have b2 := h.good.b2
  have hdl : p.db < w.heap.size := lt_of_heap h.dev
  clear h
  obtain ⟨B, eB⟩ : ∃ B, B = m.B := ⟨_, rfl⟩
  rw [← eB] at c0 b1 b2 hb ⊢
  obtain ⟨n, en⟩ : ∃ n, n = l.length := ⟨_, rfl⟩
  rw [← en] at hb hcap hlen ⊢
  obtain ⟨ab, off, rfl, hab, -⟩ := hl 0 l[0] (List.getElem?_eq_getElem (by omega))
  obtain ⟨L, eL⟩ : ∃ L, L = (cut B l b).length := ⟨_, rfl⟩
  have eL2 : L = min B (n - b * B) := by rw [eL, length_cut, en]
  rw [← eL]
  obtain ⟨fr, ef⟩ : ∃ fr, fr = b * B := ⟨_, rfl⟩
  have hfr : (b : Int) * (B : Int) = (fr : Int) := by rw [ef]; simp
  rw [← ef] at eL2 hb
  have hmk := make_bytes w L (by omega)
  have hlt : L = (cut B l b).length := eL
  have hcpy : ∀ (n' c' : Nat), n' = L → ∃ w2, (Builtin.copy_ #[22, 22] 3 #[.slice (some ⟨w.heap.size, 0, none⟩) L L, .slice (some ⟨ab, off + fr, none⟩) n' c']).run Try.prog (w.alloc (rowObj (List.replicate L 0))) = .ok (goInt L) w2 ∧ w2.heap[w.heap.size]? = some (rowObj (cut B l b)) ∧ Kept w w2 := by
    intro n' c' e
    have hb0 := (hl.kept ((Same.refl (fun _ => False) w).alloc (rowObj (List.replicate L 0))) (fun _ _ h => h)).cut B b
    rw [← ef] at hb0
    obtain ⟨w2, h1, h2, h3⟩ := copy_bytes (off := 0) (dp := some ⟨w.heap.size, 0, none⟩) (dLen := L) (dCap := L) (sLen := n') (sCap := c') (heap_new w (rowObj (List.replicate L 0))) (show (cut B l b).length = Nat.min n' L by rw [e, ← hlt]; exact (Nat.min_self _).symm) hb0 (by simp; omega) (fun _ => rfl)
    rw [splice_all _ _ (by simp; omega)] at h2
    rw [← hlt] at h1
    exact ⟨w2, h1, h2, ((Same.refl _ w).alloc _).trans h3 (fun i hi e => by omega)⟩
  have HC : Hid _ := hcpy
  have hLp : 0 < L := by omega
  have hLn : fr + L ≤ n := by omega
  clear hl eB en eL ef hlt hcpy
  by_cases hle : (fr : Int) + B ≤ n
  · have hsub : (fr : Int) + B - fr = (L : Int) := by omega
    obtain ⟨w2, hcp, hg2, k2⟩ := HC.out B (cap - fr) (by omega)
    clear eL2
    go_enter Try.func75, Try.ntmps75
    go_wp2_with fail
    go_ret
    exact ⟨rfl, hg2, k2⟩
  · have hsub : (n : Int) - fr = (L : Int) := by omega
    have hle' : ¬ ((fr : Int) + B ≤ n) := hle
    obtain ⟨w2, hcp, hg2, k2⟩ := HC.out (n - fr) (cap - fr) (by omega)
    clear eL2
    go_enter Try.func75, Try.ntmps75
    go_wp2_with fail
    go_ret
    exact ⟨rfl, hg2, k2⟩
end Go.Proofs.Ytpjkmficpedmcaa
