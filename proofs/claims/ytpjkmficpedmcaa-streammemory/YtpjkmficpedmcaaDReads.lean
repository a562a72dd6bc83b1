/- What is proved: ReadInput and ReadScratch answer as the plain device M does; the device lies in memory. -/
import Derived.Test.YtpjkmficpedmcaaDRd
namespace Go.Proofs.Ytpjkmficpedmcaa
open Go.RowKit

def M.cI1 (m : M) : M := { m with cI := m.cI + 1, k := m.k + 1 }
def M.cS1 (m : M) : M := { m with cS := m.cS + 1, k := m.k + 1 }
def M.cW1 (m : M) : M := { m with cW := m.cW + 1, k := m.k + 1 }
theorem Good.cI1 {m : M} (h : Good m) : Good m.cI1 :=
  ⟨h.b1, h.b2, h.s2, h.inp, h.scr, h.F, h.fine, Nat.succ_le_succ h.cI, Nat.le_succ_of_le h.cS, Nat.le_succ_of_le h.cW, Nat.le_succ_of_le h.cT, fun r b => Nat.le_succ_of_le (h.R r b)⟩
theorem Good.cS1 {m : M} (h : Good m) : Good m.cS1 :=
  ⟨h.b1, h.b2, h.s2, h.inp, h.scr, h.F, h.fine, Nat.le_succ_of_le h.cI, Nat.succ_le_succ h.cS, Nat.le_succ_of_le h.cW, Nat.le_succ_of_le h.cT, fun r b => Nat.le_succ_of_le (h.R r b)⟩
theorem Good.cW1 {m : M} (h : Good m) : Good m.cW1 :=
  ⟨h.b1, h.b2, h.s2, h.inp, h.scr, h.F, h.fine, Nat.le_succ_of_le h.cI, Nat.le_succ_of_le h.cS, Nat.succ_le_succ h.cW, Nat.le_succ_of_le h.cT, fun r b => Nat.le_succ_of_le (h.R r b)⟩
theorem Dv.cI1 {w : World} {m : M} {p : Pl} (h : Dv w m p) : Dv (w.setCell ⟨p.db, 6, none⟩ (.int .i64 ((m.cI : Int) + 1))) m.cI1 p :=
  h.turn (Same.setCell (S := fun k => k = p.db) (Same.refl _ w) _ (.inr rfl) _) ((setCell_at h.dev 6 _).trans (by simp [M.cI1, devObj])) rfl rfl rfl rfl (Nat.le_succ _) h.good.cI1
theorem Dv.cS1 {w : World} {m : M} {p : Pl} (h : Dv w m p) : Dv (w.setCell ⟨p.db, 7, none⟩ (.int .i64 ((m.cS : Int) + 1))) m.cS1 p :=
  h.turn (Same.setCell (S := fun k => k = p.db) (Same.refl _ w) _ (.inr rfl) _) ((setCell_at h.dev 7 _).trans (by simp [M.cS1, devObj])) rfl rfl rfl rfl (Nat.le_succ _) h.good.cS1
theorem Dv.cW1 {w : World} {m : M} {p : Pl} (h : Dv w m p) : Dv (w.setCell ⟨p.db, 8, none⟩ (.int .i64 ((m.cW : Int) + 1))) m.cW1 p :=
  h.turn (Same.setCell (S := fun k => k = p.db) (Same.refl _ w) _ (.inr rfl) _) ((setCell_at h.dev 8 _).trans (by simp [M.cW1, devObj])) rfl rfl rfl rfl (Nat.le_succ _) h.good.cW1

theorem bytes_row {w : World} {g : Nat} {l : List Int} (h : w.heap[g]? = some (rowObj l)) : BytesAt w (some ⟨g, 0, none⟩) l := fun i x hx => by
  refine ⟨g, 0, rfl, lt_of_heap h, ?_⟩
  rw [cell_of h, Nat.zero_add]
  have := byt_get l i
  rw [hx] at this
  simpa using this

/-- How many blocks n bytes take. -/
def nblk (n B : Nat) : Nat := (n + B - 1) / B
theorem lt_nblk {n B b : Nat} (hB : 0 < B) : b < nblk n B ↔ b * B < n := by
  unfold nblk
  rw [Nat.lt_iff_add_one_le, Nat.le_div_iff_mul_le hB, Nat.succ_mul]
  omega

/-- What a read answers, and what it leaves: the code, the bytes, the device. -/
def M.readR (m : M) (r : Int) (c : M) (n : Nat) (l : List Int) (b : Int) : Int × List Int × M :=
  if m.down = true then (34, [], m) else if b < 0 ∨ (n : Int) ≤ b then (35, [], m) else if Hits m.F r b (m.R r b + 1) = true then (37, [], (c.rd r b).hit) else (0, cut m.B l b.toNat, c.rd r b)
def M.readIn (m : M) (b : Int) : Int × List Int × M := m.readR 1 m.cI1 (nblk m.inp.length m.B) m.inp b
def M.readSc (m : M) (b : Int) : Int × List Int × M := m.readR 2 m.cS1 m.S m.scr b

/-- The post of a read. -/
def RPost (p : Pl) (w : World) (x : Int × List Int × M) (e : Ending) (w' : World) : Prop :=
  ∃ a cap, e = .returned (.tuple #[.slice a x.2.1.length cap, .int .i64 x.1]) ∧ BytesAt w' a x.2.1 ∧ (∀ k, InB a x.2.1.length k → w.heap.size ≤ k) ∧ Dv w' x.2.2 p ∧ Same (Own p) w w'

theorem RPost.none {p : Pl} {w w' : World} {m : M} {c : Int} (h : Dv w' m p) (hs : Same (Own p) w w') : RPost p w (c, [], m) (.returned (.tuple #[.slice none 0 0, .int .i64 c])) w' :=
  ⟨.none, 0, rfl, BytesAt.nil _ _, fun k hk => absurd hk.1 (by simp), h, hs⟩

set_option maxRecDepth 100000 in
set_option maxHeartbeats 1600000 in
theorem ri_no {w : World} {m : M} {p : Pl} (h : Dv w m p) (b c : Int) (hc : c ≠ 0) (HR : ∀ w1, Kept w w1 → Calls Try.prog 35 #[.pointer (some ⟨p.db, 0, none⟩), .int .i64 b, .int .i64 (nblk m.inp.length m.B : Nat)] w1 fun e w' => e = .returned (.int .i64 c) ∧ w' = w1) :
    Calls Try.prog 77 #[.pointer (some ⟨p.db, 0, none⟩), .int .i64 b] w fun e w' => e = .returned (.tuple #[.slice none 0 0, .int .i64 c]) ∧ Kept w w' := by
  have HB : Hid (Calls Try.prog 67 #[.pointer (some ⟨p.db, 0, none⟩)] w fun e w' => e = .returned (.int .i64 (nblk m.inp.length m.B : Nat)) ∧ Kept w w') := blocks_any h
  have hc' : (c != 0) = true := by simpa using hc
  have HR' : Hid _ := HR
  clear h HR hc
  go_enter Try.func77, Try.ntmps77
  go_wp2_with fail
  refine Calls.mono HB.out ?_
  rintro e w1 ⟨rfl, k1⟩
  have K1 : Hid _ := k1
  clear k1
  go_wp2_with fail
  refine Calls.mono (HR'.out w1 K1.out) ?_
  rintro e w2 ⟨rfl, hw⟩
  subst w2
  go_wp2_with fail
  go_ret2
  exact ⟨rfl, K1.out⟩

set_option maxRecDepth 100000 in
set_option maxHeartbeats 1600000 in
theorem ri_yes {w : World} {m : M} {p : Pl} (h : Dv w m p) (b : Int) (hk : m.k < 4611686018427387904) (P : Option Addr → Nat → Nat → Int → World → Prop) (HR : ∀ w1, Kept w w1 → Calls Try.prog 35 #[.pointer (some ⟨p.db, 0, none⟩), .int .i64 b, .int .i64 (nblk m.inp.length m.B : Nat)] w1 fun e w' => e = .returned (.int .i64 0) ∧ w' = w1)
    (HG : ∀ w1, Kept w w1 → Calls Try.prog 73 #[.pointer (some ⟨p.db, 0, none⟩), .int .i64 1, .int .i64 b, .slice p.ia m.inp.length p.icap] (w1.setCell ⟨p.db, 6, none⟩ (.int .i64 ((m.cI : Int) + 1))) fun e w' => ∃ a n cap c, e = .returned (.tuple #[.slice a n cap, .int .i64 c]) ∧ P a n cap c w') :
    Calls Try.prog 77 #[.pointer (some ⟨p.db, 0, none⟩), .int .i64 b] w fun e w' => ∃ a n cap c, e = .returned (.tuple #[.slice a n cap, .int .i64 c]) ∧ P a n cap c w' := by
  have HB : Hid (Calls Try.prog 67 #[.pointer (some ⟨p.db, 0, none⟩)] w fun e w' => e = .returned (.int .i64 (nblk m.inp.length m.B : Nat)) ∧ Kept w w') := blocks_any h
  have hI := h.good.cI
  have hcl : ∀ w1, Kept w w1 → w1.cell? ⟨p.db, 6, none⟩ = some (.int .i64 m.cI) ∧ w1.frozen? ⟨p.db, 6, none⟩ = false ∧ w1.cell? ⟨p.db, 2, none⟩ = some (.slice p.ia m.inp.length p.icap) := fun w1 k1 => by
    have hd1 := h.kept0 k1
    exact ⟨(cell_of hd1.dev 6).trans rfl, frozen_of hd1.dev 6, (cell_of hd1.dev 2).trans rfl⟩
  have HC : Hid _ := hcl
  have HR' : Hid _ := HR
  have HG' : Hid _ := HG
  clear h HR HG hcl
  go_enter Try.func77, Try.ntmps77
  go_wp2_with fail
  refine Calls.mono HB.out ?_
  rintro e w1 ⟨rfl, k1⟩
  have K1 : Hid _ := k1
  clear k1
  obtain ⟨t1, t2, t3⟩ := HC.out w1 K1.out
  go_wp2_with fail
  refine Calls.mono (HR'.out w1 K1.out) ?_
  rintro e w2 ⟨rfl, hw⟩
  subst w2
  go_wp2_with fail
  refine Calls.mono (HG'.out w1 K1.out) ?_
  rintro e w2 ⟨a, n, cap, c, rfl, r1⟩
  have R1 : Hid _ := r1
  clear r1
  go_wp2_with fail
  go_ret2
  exact ⟨a, n, cap, c, rfl, R1.out⟩

set_option maxRecDepth 100000 in
set_option maxHeartbeats 1600000 in
theorem rs_no {w : World} {m : M} {p : Pl} (h : Dv w m p) (b c : Int) (hc : c ≠ 0) (HR : ∀ w1, Kept w w1 → Calls Try.prog 35 #[.pointer (some ⟨p.db, 0, none⟩), .int .i64 b, .int .i64 m.S] w1 fun e w' => e = .returned (.int .i64 c) ∧ w' = w1) :
    Calls Try.prog 72 #[.pointer (some ⟨p.db, 0, none⟩), .int .i64 b] w fun e w' => e = .returned (.tuple #[.slice none 0 0, .int .i64 c]) ∧ Kept w w' := by
  obtain ⟨-, c1, -, -, -, -⟩ := h.cells
  have K1 : Hid (Kept w w) := Same.refl _ w
  have hc' : (c != 0) = true := by simpa using hc
  have HR' : Hid _ := HR
  clear h HR hc
  go_enter Try.func72, Try.ntmps72
  go_wp2_with fail
  refine Calls.mono (HR'.out w K1.out) ?_
  rintro e w2 ⟨rfl, hw⟩
  subst w2
  go_wp2_with fail
  go_ret2
  exact ⟨rfl, K1.out⟩

set_option maxRecDepth 100000 in
set_option maxHeartbeats 1600000 in
theorem rs_yes {w : World} {m : M} {p : Pl} (h : Dv w m p) (b : Int) (hk : m.k < 4611686018427387904) (P : Option Addr → Nat → Nat → Int → World → Prop) (HR : ∀ w1, Kept w w1 → Calls Try.prog 35 #[.pointer (some ⟨p.db, 0, none⟩), .int .i64 b, .int .i64 m.S] w1 fun e w' => e = .returned (.int .i64 0) ∧ w' = w1)
    (HG : ∀ w1, Kept w w1 → Calls Try.prog 73 #[.pointer (some ⟨p.db, 0, none⟩), .int .i64 2, .int .i64 b, .slice (some ⟨p.sb, 0, none⟩) (m.B * m.S) (m.B * m.S)] (w1.setCell ⟨p.db, 7, none⟩ (.int .i64 ((m.cS : Int) + 1))) fun e w' => ∃ a n cap c, e = .returned (.tuple #[.slice a n cap, .int .i64 c]) ∧ P a n cap c w') :
    Calls Try.prog 72 #[.pointer (some ⟨p.db, 0, none⟩), .int .i64 b] w fun e w' => ∃ a n cap c, e = .returned (.tuple #[.slice a n cap, .int .i64 c]) ∧ P a n cap c w' := by
  obtain ⟨-, c1, -, -, -, -⟩ := h.cells
  have K1 : Hid (Kept w w) := Same.refl _ w
  have hI := h.good.cS
  have hcl : ∀ w1, Kept w w1 → w1.cell? ⟨p.db, 7, none⟩ = some (.int .i64 m.cS) ∧ w1.frozen? ⟨p.db, 7, none⟩ = false ∧ w1.cell? ⟨p.db, 3, none⟩ = some (.slice (some ⟨p.sb, 0, none⟩) (m.B * m.S) (m.B * m.S)) := fun w1 k1 => by
    have hd1 := h.kept0 k1
    exact ⟨(cell_of hd1.dev 7).trans rfl, frozen_of hd1.dev 7, (cell_of hd1.dev 3).trans rfl⟩
  have HC : Hid _ := hcl
  have HR' : Hid _ := HR
  have HG' : Hid _ := HG
  clear h HR HG hcl
  go_enter Try.func72, Try.ntmps72
  obtain ⟨t1, t2, t3⟩ := HC.out w K1.out
  go_wp2_with fail
  refine Calls.mono (HR'.out w K1.out) ?_
  rintro e w2 ⟨rfl, hw⟩
  subst w2
  go_wp2_with fail
  refine Calls.mono (HG'.out w K1.out) ?_
  rintro e w2 ⟨a, n, cap, c, rfl, r1⟩
  have R1 : Hid _ := r1
  clear r1
  go_wp2_with fail
  go_ret2
  exact ⟨a, n, cap, c, rfl, R1.out⟩


theorem readInput_any {w : World} {m : M} {p : Pl} (h : Dv w m p) (b : Int) (hk : m.k + 1 < 4611686018427387904) :
    Calls Try.prog 77 #[.pointer (some ⟨p.db, 0, none⟩), .int .i64 b] w (RPost p w (m.readIn b)) := by
  have b1 := h.good.b1
  have hn := h.good.inp
  unfold M.readIn M.readR
  by_cases hd : m.down = true
  · rw [if_pos hd]
    refine (ri_no h b 34 (by decide) fun w1 k1 => refuse_down (h.kept0 k1) b _ hd).mono ?_
    rintro e w1 ⟨rfl, k1⟩
    exact RPost.none (h.kept0 k1) (k1.to _)
  · rw [if_neg hd]
    have hd' : m.down = false := by simpa using hd
    by_cases ho : b < 0 ∨ (nblk m.inp.length m.B : Int) ≤ b
    · rw [if_pos ho]
      refine (ri_no h b 35 (by decide) fun w1 k1 => refuse_out (h.kept0 k1) b _ hd' ho).mono ?_
      rintro e w1 ⟨rfl, k1⟩
      exact RPost.none (h.kept0 k1) (k1.to _)
    · rw [if_neg ho]
      obtain ⟨n, rfl⟩ := Int.eq_ofNat_of_zero_le (show 0 ≤ b by omega)
      have hlt : n < nblk m.inp.length m.B := by omega
      have hbl : n * m.B < m.inp.length := (lt_nblk (by omega)).1 hlt
      have hln : m.inp.length ≤ 4194304 := hn
      have hn64 : n ≤ 4194304 := Nat.le_trans (Nat.le_trans (Nat.le_mul_of_pos_right n (by omega)) (Nat.le_of_lt hbl)) hln
      have hi : I64 (n : Int) := I64.mk (by omega) (by omega)
      rw [show ((n : Nat) : Int).toNat = n from rfl]
      refine Calls.mono (ri_yes h n (by omega) (fun a x cap c w' => RPost p w (if Hits m.F 1 n (m.R 1 n + 1) = true then (37, [], (m.cI1.rd 1 n).hit) else (0, cut m.B m.inp n, m.cI1.rd 1 n)) (.returned (.tuple #[.slice a x cap, .int .i64 c])) w') (fun w1 k1 => refuse_no (h.kept0 k1) (n : Int) _ hd' (by omega) (by omega)) ?_) ?_
      · intro w1 k1
        have hd1 := (h.kept0 k1).cI1
        have s1 : Same (Own p) w (w1.setCell ⟨p.db, 6, none⟩ (.int .i64 ((m.cI : Int) + 1))) := Same.setCell (k1.to _) _ (.inr (.inl rfl)) _
        by_cases hh : Hits m.F 1 n (m.R 1 n + 1) = true
        · rw [if_pos hh]
          refine (read_hit hd1 1 n (.slice p.ia m.inp.length p.icap) (by rfl) hi (show m.k + 1 < _ by omega) hh).mono ?_
          rintro e w2 ⟨rfl, h2, s2⟩
          exact ⟨_, _, _, _, rfl, RPost.none h2 (s1.trans' s2)⟩
        · rw [if_neg hh]
          refine Calls.mono (read_ok hd1 1 n p.ia p.icap m.inp hd1.inp hn hd1.icap hbl (fun k hk => (hd1.api k hk).2.2) (by rfl) hi (show m.k + 1 < _ by omega) (Bool.eq_false_iff.2 hh)) ?_
          rintro e w2 ⟨g, rfl, hg, h2, h3, s2⟩
          refine ⟨_, _, _, _, rfl, _, _, rfl, bytes_row h2, fun k hk => ?_, h3, s1.trans' s2⟩
          obtain ⟨_, off, e⟩ := hk
          cases e
          exact Nat.le_trans s1.size hg
      · rintro e w' ⟨a, x, cap, c, rfl, hp⟩
        exact hp

theorem readScratch_any {w : World} {m : M} {p : Pl} (h : Dv w m p) (b : Int) (hk : m.k + 1 < 4611686018427387904) :
    Calls Try.prog 72 #[.pointer (some ⟨p.db, 0, none⟩), .int .i64 b] w (RPost p w (m.readSc b)) := by
  have b1 := h.good.b1
  have hn := h.good.inp
  unfold M.readSc M.readR
  by_cases hd : m.down = true
  · rw [if_pos hd]
    refine (rs_no h b 34 (by decide) fun w1 k1 => refuse_down (h.kept0 k1) b _ hd).mono ?_
    rintro e w1 ⟨rfl, k1⟩
    exact RPost.none (h.kept0 k1) (k1.to _)
  · rw [if_neg hd]
    have hd' : m.down = false := by simpa using hd
    by_cases ho : b < 0 ∨ (m.S : Int) ≤ b
    · rw [if_pos ho]
      refine (rs_no h b 35 (by decide) fun w1 k1 => refuse_out (h.kept0 k1) b _ hd' ho).mono ?_
      rintro e w1 ⟨rfl, k1⟩
      exact RPost.none (h.kept0 k1) (k1.to _)
    · rw [if_neg ho]
      obtain ⟨n, rfl⟩ := Int.eq_ofNat_of_zero_le (show 0 ≤ b by omega)
      have hlt : n < m.S := by omega
      have hbl : n * m.B < m.scr.length := by rw [h.good.scr, Nat.mul_comm]; exact Nat.mul_lt_mul_of_pos_left hlt (by omega)
      have hln : m.scr.length ≤ 4194304 := by rw [h.good.scr]; exact Nat.le_trans (Nat.mul_le_mul h.good.b2 h.good.s2) (by decide)
      have hn64 : n ≤ 4194304 := Nat.le_trans (Nat.le_trans (Nat.le_mul_of_pos_right n (by omega)) (Nat.le_of_lt hbl)) hln
      have hi : I64 (n : Int) := I64.mk (by omega) (by omega)
      rw [show ((n : Nat) : Int).toNat = n from rfl]
      refine Calls.mono (rs_yes h n (by omega) (fun a x cap c w' => RPost p w (if Hits m.F 2 n (m.R 2 n + 1) = true then (37, [], (m.cS1.rd 2 n).hit) else (0, cut m.B m.scr n, m.cS1.rd 2 n)) (.returned (.tuple #[.slice a x cap, .int .i64 c])) w') (fun w1 k1 => refuse_no (h.kept0 k1) (n : Int) _ hd' (by omega) (by omega)) ?_) ?_
      · intro w1 k1
        have hd1 := (h.kept0 k1).cS1
        have s1 : Same (Own p) w (w1.setCell ⟨p.db, 7, none⟩ (.int .i64 ((m.cS : Int) + 1))) := Same.setCell (k1.to _) _ (.inr (.inl rfl)) _
        by_cases hh : Hits m.F 2 n (m.R 2 n + 1) = true
        · rw [if_pos hh]
          refine (read_hit hd1 2 n (.slice (some ⟨p.sb, 0, none⟩) (m.B * m.S) (m.B * m.S)) (by rfl) hi (show m.k + 1 < _ by omega) hh).mono ?_
          rintro e w2 ⟨rfl, h2, s2⟩
          exact ⟨_, _, _, _, rfl, RPost.none h2 (s1.trans' s2)⟩
        · rw [if_neg hh]
          refine Calls.mono (by
            have hx := read_ok hd1 2 n (some ⟨p.sb, 0, none⟩) (m.B * m.S) m.scr (bytes_row hd1.scr) hln (Nat.le_of_eq h.good.scr) hbl (fun k hk e => by obtain ⟨_, off, e'⟩ := hk; cases e'; exact hd1.sb_mb e) (by rfl) hi (show m.k + 1 < _ by omega) (Bool.eq_false_iff.2 hh)
            rw [h.good.scr] at hx
            exact hx) ?_
          rintro e w2 ⟨g, rfl, hg, h2, h3, s2⟩
          refine ⟨_, _, _, _, rfl, _, _, rfl, bytes_row h2, fun k hk => ?_, h3, s1.trans' s2⟩
          obtain ⟨_, off, e⟩ := hk
          cases e
          exact Nat.le_trans s1.size hg
      · rintro e w' ⟨a, x, cap, c, rfl, hp⟩
        exact hp
end Go.Proofs.Ytpjkmficpedmcaa
