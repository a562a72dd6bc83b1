/- What is proved: what Read answers and leaves: the next bytes, or the device's error; the reader and its device lie in memory. -/
import Derived.Test.YtpjkmficpedmcaaSHold
namespace Go.Proofs.Ytpjkmficpedmcaa
open Go.RowKit

/-- Parts of a slice of bytes. -/
theorem cut_to {oa : Option Addr} {n c : Nat} (hc : n ≤ c) (hnil : oa = none → n = 0 ∧ c = 0) (q : Nat) (hq : q ≤ n) (W : World) :
    (Instr.sliceAt 22 (.slice oa n c) none (some (.int .i64 (q : Int))) none).run Try.prog W = .ok (.slice oa q c) W := by
  cases oa with
  | none =>
    obtain ⟨rfl, rfl⟩ := hnil rfl
    obtain rfl : q = 0 := by omega
    go_simp
  | some ad =>
    have h1 : (q : Int) ≤ (c : Int) := by omega
    have h2 : 0 ≤ (q : Int) := by omega
    go_simp
theorem cut_from {w : World} {oa : Option Addr} {c : Nat} {l : List Int} (hb : BytesAt w oa l) (hc : l.length ≤ c) (hnil : oa = none → l.length = 0 ∧ c = 0) (hsp : ∀ ad, oa = some ad → ad.spot = none) (q : Nat) (hq : q ≤ l.length) :
    ∃ a', (∀ W, (Instr.sliceAt 22 (.slice oa l.length c) (some (.int .i64 (q : Int))) none none).run Try.prog W = .ok (.slice a' (l.length - q) (c - q)) W) ∧ BytesAt w a' (l.drop q) ∧ (a' = none → l.length - q = 0 ∧ c - q = 0) ∧ (∀ ad, a' = some ad → ad.spot = none) ∧ ∀ k, InB a' (l.length - q) k → InB oa l.length k := by
  have hq' : (q : Int) ≤ (l.length : Int) := by omega
  cases oa with
  | none =>
    obtain ⟨h0, rfl⟩ := hnil rfl
    obtain rfl : l = [] := List.eq_nil_of_length_eq_zero h0
    obtain rfl : q = 0 := by simpa using hq
    refine ⟨none, fun W => ?_, BytesAt.nil _ _, fun _ => ⟨rfl, rfl⟩, (fun ad e => by cases e), fun k hk => absurd hk.1 (by simp)⟩
    go_simp
  | some ad =>
    obtain ⟨g, off, sp⟩ := ad
    obtain rfl : sp = none := hsp _ rfl
    by_cases hpc : c = q
    · refine ⟨some ⟨g, off, none⟩, fun W => ?_, ?_, (fun e => by cases e), (fun ad e => by cases e; rfl), fun k hk => ?_⟩
      · go_simp
      · rw [List.drop_eq_nil_of_le (by omega)]
        exact BytesAt.nil _ _
      · obtain ⟨h0, off', e⟩ := hk
        exact ⟨by omega, off', e⟩
    · refine ⟨some ⟨g, off + q, none⟩, fun W => ?_, fun i x hx => ?_, (fun e => by cases e), (fun ad e => by cases e; rfl), fun k hk => ?_⟩
      · go_simp
      · rw [List.getElem?_drop] at hx
        obtain ⟨b, off', e, h1, h2⟩ := hb _ _ hx
        cases e
        exact ⟨g, _, rfl, h1, by rw [Nat.add_assoc]; exact h2⟩
      · obtain ⟨h0, off', e⟩ := hk
        cases e
        exact ⟨by omega, off, rfl⟩
theorem take_at {w : World} {oa : Option Addr} {l : List Int} (h : BytesAt w oa l) (n : Nat) : BytesAt w oa (l.take n) := fun j x hx => by
  have hj := (List.getElem?_eq_some_iff.1 hx).1
  simp only [List.length_take] at hj
  rw [List.getElem?_take_of_lt (by omega)] at hx
  exact h j x hx

/-- A reader's place fits its source: c bytes of size are answered. -/
structure RI (f : Src) (m : M) (size c nx : Nat) (held : List Int) : Prop where
  le : c ≤ size
  len : size ≤ 9223372036854775807
  inp : f = .inp → size = m.inp.length ∧ held.length + c = min (nx * m.B) size
  file : ∀ L, f = .file L → held.length + c = nx * m.B ∧ size ≤ L.length * m.B ∧ ∀ b ∈ L, 0 ≤ b ∧ b < (m.S : Int)
theorem RI.index {f : Src} {m : M} {size c nx : Nat} (h : RI f m size c nx []) (hc : c < size) : f = .inp ∨ nx < f.nums.length := by
  cases f with
  | inp => exact .inl rfl
  | file L =>
    obtain ⟨h1, h2, -⟩ := h.file L rfl
    simp only [List.length_nil, Nat.zero_add] at h1
    refine .inr (Nat.lt_of_mul_lt_mul_right (a := m.B) ?_)
    show nx * m.B < L.length * m.B
    omega
theorem RI.nx {f : Src} {m : M} {size c nx : Nat} (h : RI f m size c nx []) (hg : Good m) (hc : c < size) (hl : f.nums.length ≤ 4611686018427387903) : nx < 4611686018427387904 := by
  cases f with
  | inp =>
    obtain ⟨h1, h2⟩ := h.inp rfl
    have := hg.inp
    have b1 := hg.b1
    simp only [List.length_nil, Nat.zero_add] at h2
    have h3 : nx * m.B = c := by omega
    have h4 : nx ≤ nx * m.B := Nat.le_mul_of_pos_right nx (by omega)
    omega
  | file L =>
    have := h.index hc
    rcases this with h' | h'
    · cases h'
    · exact Nat.lt_of_lt_of_le h' (Nat.le_trans hl (by omega))
theorem readR_zero {m : M} {r : Int} {c : M} {n : Nat} {l : List Int} {b : Int} (h : (m.readR r c n l b).1 = 0) : (m.readR r c n l b).2.1 = cut m.B l b.toNat ∧ 0 ≤ b ∧ b < (n : Int) := by
  unfold M.readR at h ⊢
  split at h
  · cases h
  · next h1 =>
    rw [if_neg h1]
    split at h
    · cases h
    · next h2 =>
      rw [if_neg h2]
      split at h
      · cases h
      · next h3 =>
        rw [if_neg h3]
        exact ⟨rfl, by omega, by omega⟩
theorem RI.blk {f : Src} {m : M} {size c nx : Nat} (h : RI f m size c nx []) (hg : Good m) (hc : c < size) (he : (f.blk m nx).1 = 0) : (f.blk m nx).2.1 ≠ [] ∧ RI f (f.blk m nx).2.2 size c (nx + 1) (f.blk m nx).2.1 := by
  have b1 := hg.b1
  obtain ⟨k1, k2, k3, k4, k5, k6⟩ := blk_keeps f m nx
  cases f with
  | inp =>
    obtain ⟨h1, h2⟩ := h.inp rfl
    simp only [List.length_nil, Nat.zero_add] at h2
    have h3 : nx * m.B = c := by omega
    obtain ⟨e1, -, -⟩ := readR_zero he
    have e1' : (Src.inp.blk m nx).2.1 = cut m.B m.inp nx := e1
    have hlen := length_cut m.B m.inp nx
    rw [e1']
    refine ⟨fun e => ?_, h.le, h.len, fun _ => ⟨by rw [k1]; exact h1, ?_⟩, fun L e => (by cases e)⟩
    · rw [e] at hlen
      simp only [List.length_nil] at hlen
      omega
    · rw [hlen, k3, Nat.succ_mul]
      omega
  | file L =>
    obtain ⟨h1, h2, h3⟩ := h.file L rfl
    simp only [List.length_nil, Nat.zero_add] at h1
    have hx : nx < L.length := by
      rcases h.index hc with e | e
      · cases e
      · exact e
    have hg0 : L.getD nx 0 = L[nx] := by rw [List.getD_eq_getElem?_getD, List.getElem?_eq_getElem hx]; rfl
    obtain ⟨q0, q1⟩ := h3 _ (List.getElem_mem hx)
    obtain ⟨e1, -, -⟩ := readR_zero he
    have e1' : (Src.file L |>.blk m nx).2.1 = cut m.B m.scr (L.getD nx 0).toNat := e1
    have hlen := length_cut m.B m.scr (L.getD nx 0).toNat
    have hS : (L.getD nx 0).toNat + 1 ≤ m.S := by rw [hg0]; omega
    have hm : ((L.getD nx 0).toNat + 1) * m.B ≤ m.B * m.S := by rw [Nat.mul_comm m.B]; exact Nat.mul_le_mul_right _ hS
    rw [Nat.succ_mul] at hm
    have hB : (cut m.B m.scr (L.getD nx 0).toNat).length = m.B := by rw [hlen, hg.scr]; omega
    rw [e1']
    refine ⟨fun e => ?_, h.le, h.len, fun e => (by cases e), fun L' e => ?_⟩
    · rw [e] at hB
      simp only [List.length_nil] at hB
      omega
    · cases e
      refine ⟨?_, by rw [k3]; exact h2, fun b hb => by rw [k4]; exact h3 b hb⟩
      rw [hB, k3, Nat.succ_mul]
      omega
theorem RI.hold {f : Src} {m : M} {size c nx : Nat} {held : List Int} (h : RI f m size c nx held) (hg : Good m) (hc : c < size) (he : ((RdS.mk m nx held).hold f).1 = 0) :
    ((RdS.mk m nx held).hold f).2.held ≠ [] ∧ RI f ((RdS.mk m nx held).hold f).2.m size c ((RdS.mk m nx held).hold f).2.nx ((RdS.mk m nx held).hold f).2.held := by
  by_cases h0 : held = []
  · subst h0
    unfold RdS.hold at he ⊢
    rw [if_neg (by simp)] at he ⊢
    split at he
    · next h1 => exact absurd he h1
    · next h1 =>
      rw [if_neg h1]
      exact h.blk hg hc (Classical.not_not.1 h1)
  · rw [hold_some h0]
    exact ⟨h0, h⟩
theorem RI.take {f : Src} {m : M} {size c nx : Nat} {held : List Int} (h : RI f m size c nx held) {q : Nat} (hq : q ≤ held.length) (hc : c + q ≤ size) : RI f m size (c + q) nx (held.drop q) :=
  ⟨hc, h.len, fun e => ⟨(h.inp e).1, by have := (h.inp e).2; rw [List.length_drop]; omega⟩, fun L e => ⟨by have := (h.file L e).1; rw [List.length_drop]; omega, (h.file L e).2⟩⟩
theorem hold_k (f : Src) (s : RdS) : (s.hold f).2.m.k ≤ s.m.k + 3 := by
  have := (blk_keeps f s.m s.nx).2.2.2.2.2
  unfold RdS.hold
  split
  · exact Nat.le_add_right _ _
  · split <;> exact this

theorem make_to (w : World) (n : Nat) (hn : n ≤ 4194304) : (Instr.makeSlice 22 (.int .i64 0) (.int .i64 (n : Int))).run Try.prog w = .ok (.slice (some ⟨w.heap.size, 0, none⟩) 0 n) (w.alloc (rowObj (List.replicate n 0))) := by
  obtain ⟨i0, hi0, hz0, hz1, hz2⟩ := info_parts Try.infoByte
  have hr := run_make (P := Try.prog) w 22 5 i0 _ Try.underlying22 hi0 hz0 .i64 .i64 0 n (by omega) (by omega) (by rw [hz2]; omega) (by omega)
  simp only [Int.toNat_natCast, hz1, Nat.mul_one] at hr
  rw [hr, rowObj, ← made_byt]
  rfl

/-- The value v is a row of the bytes l of one's own, in a block from base on. -/
abbrev OwnB8 (base : Nat) (w : World) (v : Value) (l : List Int) : Prop := w.ownsRow base 5 1 v l.length (byt l)
def slen : Value → Nat
  | .slice _ n _ => n
  | _ => 0
/-- What stands while bytes are read: W the world when it began. -/
def RdL (W : World) (o : Nat → Nat) (t : Nat) (m : M) (p : Pl) (rb : Nat) (f : Src) (nx : Nat) (held : List Int) (off left k : Nat) (pv : Value) (wr : World) : Prop :=
  ∃ (pl : List Int) (s : RdS) (ow : Nat → Nat), rd f pl.length ⟨m, nx, held⟩ = (0, pl, s) ∧ pl.length ≤ k ∧ OwnB8 W.heap.size wr pv pl ∧ (∀ g, pv.ownBlock = some g → ow g = t + 2) ∧ Step (fun n => n = 1 ∨ n = t) o W ow wr ∧
    DvT ow wr s.m p ∧ Rdr ow t wr p rb f s.nx s.held off left 0 ∧ RI f s.m (off + left) (off + pl.length) s.nx s.held ∧ s.m.k ≤ m.k + 3 * pl.length
end Go.Proofs.Ytpjkmficpedmcaa
