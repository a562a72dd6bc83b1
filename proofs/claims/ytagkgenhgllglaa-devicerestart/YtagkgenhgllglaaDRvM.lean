/- What is proved: one step of a script on both devices: the law's step answers true, and both are alike behind it; both lie in memory, the data too. -/
import Derived.Test.YtagkgenhgllglaaDRvL
namespace Go.Proofs.Ytagkgenhgllglaa
open Go.RowKit

/-- A step of a script. -/
structure St where
  k : Int
  at' : Int
  da : Option Addr
  dc : Nat
  d : List Int
abbrev stV (o : St) : Value := .agg #[.int .i64 o.k, .int .i64 o.at', .slice o.da o.d.length o.dc]
abbrev stO (o : St) : Obj := .cells #[.int .i64 o.k, .int .i64 o.at', .slice o.da o.d.length o.dc] 55 (0, 0)
/-- What no step turns. -/
def Fx (m m' : M) : Prop := m'.B = m.B ∧ m'.S = m.S ∧ m'.inp = m.inp
/-- What a step leaves. -/
def Stp (base : Nat) (w : World) (m : M) (p : Pl) (q : RP) (Q : List Rb) (w' : World) : Prop :=
  ∃ m' v Q', Two base w' m' p { q with sv := v } Q' ∧ Left base w w' ∧ Q'.length ≤ Q.length + 1 ∧ m'.k ≤ m.k + 3 ∧ Fx m m'
theorem k_readR (m : M) (r : Int) (c : M) (n : Nat) (l : List Int) (b : Int) (h : c.k ≤ m.k + 1) (hB : c.B = m.B) (hS : c.S = m.S) (hI : c.inp = m.inp) : (m.readR r c n l b).2.2.k ≤ m.k + 3 ∧ Fx m (m.readR r c n l b).2.2 := by
  unfold M.readR
  split
  · exact ⟨by show m.k ≤ _; omega, rfl, rfl, rfl⟩
  · split
    · exact ⟨by show m.k ≤ _; omega, rfl, rfl, rfl⟩
    · split
      · exact ⟨by show c.k + 1 + 1 ≤ _; omega, hB, hS, hI⟩
      · exact ⟨by show c.k + 1 ≤ _; omega, hB, hS, hI⟩
theorem k_write (m : M) (b : Int) (d : List Int) : (m.write b d).2.k ≤ m.k + 3 ∧ Fx m (m.write b d).2 := by
  unfold M.write
  split
  · exact ⟨by show m.k ≤ _; omega, rfl, rfl, rfl⟩
  · split
    · exact ⟨by show m.k ≤ _; omega, rfl, rfl, rfl⟩
    · split
      · exact ⟨by show m.k ≤ _; omega, rfl, rfl, rfl⟩
      · split
        · exact ⟨by show m.k + 1 + 1 ≤ _; omega, rfl, rfl, rfl⟩
        · split
          · exact ⟨by show m.k + 1 + 1 ≤ _; omega, rfl, rfl, rfl⟩
          · exact ⟨by show m.k + 1 ≤ _; omega, rfl, rfl, rfl⟩

theorem len_readR (m : M) (r : Int) (c : M) (n : Nat) (l : List Int) (b : Int) : (m.readR r c n l b).2.1.length ≤ l.length := by
  unfold M.readR
  split
  · exact Nat.zero_le _
  · split
    · exact Nat.zero_le _
    · split
      · exact Nat.zero_le _
      · show (cut m.B l b.toNat).length ≤ _
        rw [length_cut]
        omega

set_option maxRecDepth 100000 in
set_option maxHeartbeats 800000 in
theorem step_in {base : Nat} {w : World} {m : M} {p : Pl} {q : RP} {Q : List Rb} (h : Two base w m p q Q) (hb : base ≤ w.heap.size) (o : St) (hq : Q.length + 1 ≤ 8796093022208) (hk : m.k + 1 < 4611686018427387904) (hok : o.k = 1) :
    Calls Try.prog 21 #[.pointer (some ⟨p.db, 0, none⟩), .pointer (some ⟨q.db, 0, none⟩), stV o] w fun e w' => e = .returned (.bool true) ∧ Stp base w m p q Q w' := by
  have h0 : Two base (w.alloc (stO o)) m p q Q := h.on ((Same.refl _ _).alloc _)
  have H0 : Hid _ := h0
  have HB : Hid (base ≤ (w.alloc (stO o)).heap.size) := by rw [World.size_alloc]; exact Nat.le_trans hb (Nat.le_succ _)
  have HBX : Hid ((w.alloc (stO o)).heap[w.heap.size]? = some (stO o)) := heap_new _ _
  have HLT : Hid (∀ k, (Own p k ∨ ROwn q k) → k < w.heap.size) := fun k hk => hk.elim (fun e => h.d.lt (.inl e)) (fun e => h.r.lt (.inl e))
  have HC : Hid _ := readInput_any h0.d o.at' hk
  have HIF : Hid _ := inp_readR m 1 m.cI1 (nblk m.inp.length m.B) m.inp o.at' rfl rfl
  have HKK : Hid _ := k_readR m 1 m.cI1 (nblk m.inp.length m.B) m.inp o.at' (Nat.le_refl _) rfl rfl rfl
  obtain ⟨X, eX⟩ : ∃ X, X = m.readIn o.at' := ⟨_, rfl⟩
  rw [← eX] at HC
  have EX : Hid _ := eX
  have HQ : Hid _ := hq
  have HK : Hid _ := hk
  have e1 : (o.k == 1) = true := by simp [hok]
  clear h h0 hb hq hk hok eX
  unfold stV stO at *
  go_enter Try.func21, Try.ntmps21
  go_wp2_with fail
  refine Calls.mono HC.out ?_
  rintro e w1 ⟨a1, cap1, rfl, b1, f1, d1, s1⟩
  have hbx1 : w1.heap[w.heap.size]? = some (stO o) := (s1.block _ (by simp) (fun e => by have := HLT.out _ (.inl e); omega)).trans HBX.out
  have x1 : w1.cell? ⟨w.heap.size, 1, none⟩ = some (.int .i64 o.at') := (cell_of hbx1 1).trans rfl
  have xl := lt_of_heap hbx1
  have r1 : Rv w1 m q Q := H0.out.r.kept s1 H0.out.a2
  have HC2 : Hid _ := rreadIn_any r1 o.at' HQ.out HK.out
  rw [← EX.out] at HC2
  have S1 : Hid _ := s1
  have D1 : Hid _ := d1
  have B1 : Hid _ := b1
  have F1 : Hid _ := f1
  obtain ⟨nX, enX⟩ : ∃ n, n = X.2.1.length := ⟨_, rfl⟩
  rw [← enX]
  have ENX : Hid _ := enX
  obtain ⟨cX, ecX⟩ : ∃ c, c = X.1 := ⟨_, rfl⟩
  rw [← ecX]
  have ECX : Hid _ := ecX
  clear hbx1 r1 s1 d1 b1 f1 HC enX ecX
  go_wp2_with fail
  refine Calls.mono HC2.out ?_
  rintro e w2 ⟨a2, cap2, v, Q', rfl, b2, f2, r2, s2, n2, l2⟩
  have hlen : X.2.1.length ≤ 9223372036854775807 := by
    rcases Nat.lt_or_ge 9223372036854775807 X.2.1.length with q | q
    · exfalso
      have hy := B1.out
      rw [EX.out] at q
      have := len_readR m 1 m.cI1 (nblk m.inp.length m.B) m.inp o.at'
      have h9 : m.inp.length ≤ 4194304 := H0.out.d.good.inp
      unfold M.readIn at q
      omega
    · exact q
  have HSM : Hid _ := same_true w2 a1 a2 cap1 cap2 X.2.1 (BytesAt.kept B1.out s2 fun k hk e => by have h1 := F1.out k hk; have h2 := HLT.out k (.inr e); rw [World.size_alloc] at h1; omega) b2 hlen
  have HT : Hid _ := Two.next H0.out HB.out D1.out S1.out (Same.refl _ _) r2 s2 (n2.imp id fun ⟨k, z1, z2⟩ => ⟨k, z1, Nat.le_trans S1.out.size z2⟩) (by rw [EX.out]; exact HIF.out.1) (by rw [EX.out]; exact HIF.out.2)
  have HL2 : Hid _ := l2
  have HK2 : Hid (X.2.2.k ≤ m.k + 3 ∧ Fx m X.2.2) := by rw [EX.out]; exact HKK.out
  rw [← ENX.out, ← ECX.out]
  rw [← ENX.out] at HSM
  clear b2 f2 r2 s2 n2 l2 hlen HC2
  go_wp2_with fail
  refine Calls.mono HSM.out ?_
  rintro e w3 ⟨rfl, hw3⟩
  subst w3
  go_wp2_with fail
  go_ret
  exact ⟨rfl, _, v, Q', HT.out.1, ((Same.refl _ _).alloc _).trans' HT.out.2, HL2.out, HK2.out⟩

set_option maxRecDepth 100000 in
set_option maxHeartbeats 800000 in
theorem step_sc {base : Nat} {w : World} {m : M} {p : Pl} {q : RP} {Q : List Rb} (h : Two base w m p q Q) (hb : base ≤ w.heap.size) (o : St) (hq : Q.length + 1 ≤ 8796093022208) (hk : m.k + 1 < 4611686018427387904) (hok : o.k = 2) :
    Calls Try.prog 21 #[.pointer (some ⟨p.db, 0, none⟩), .pointer (some ⟨q.db, 0, none⟩), stV o] w fun e w' => e = .returned (.bool true) ∧ Stp base w m p q Q w' := by
  have h0 : Two base (w.alloc (stO o)) m p q Q := h.on ((Same.refl _ _).alloc _)
  have H0 : Hid _ := h0
  have HB : Hid (base ≤ (w.alloc (stO o)).heap.size) := by rw [World.size_alloc]; exact Nat.le_trans hb (Nat.le_succ _)
  have HBX : Hid ((w.alloc (stO o)).heap[w.heap.size]? = some (stO o)) := heap_new _ _
  have HLT : Hid (∀ k, (Own p k ∨ ROwn q k) → k < w.heap.size) := fun k hk => hk.elim (fun e => h.d.lt (.inl e)) (fun e => h.r.lt (.inl e))
  have HC : Hid _ := readScratch_any h0.d o.at' hk
  have HIF : Hid _ := inp_readR m 2 m.cS1 (m.S) m.scr o.at' rfl rfl
  have HKK : Hid _ := k_readR m 2 m.cS1 (m.S) m.scr o.at' (Nat.le_refl _) rfl rfl rfl
  obtain ⟨X, eX⟩ : ∃ X, X = m.readSc o.at' := ⟨_, rfl⟩
  rw [← eX] at HC
  have EX : Hid _ := eX
  have HQ : Hid _ := hq
  have HK : Hid _ := hk
  have e1 : (o.k == 1) = false := by simp [hok]
  have e2 : (o.k == 2) = true := by simp [hok]
  clear h h0 hb hq hk hok eX
  unfold stV stO at *
  go_enter Try.func21, Try.ntmps21
  go_wp2_with fail
  refine Calls.mono HC.out ?_
  rintro e w1 ⟨a1, cap1, rfl, b1, f1, d1, s1⟩
  have hbx1 : w1.heap[w.heap.size]? = some (stO o) := (s1.block _ (by simp) (fun e => by have := HLT.out _ (.inl e); omega)).trans HBX.out
  have x1 : w1.cell? ⟨w.heap.size, 1, none⟩ = some (.int .i64 o.at') := (cell_of hbx1 1).trans rfl
  have xl := lt_of_heap hbx1
  have r1 : Rv w1 m q Q := H0.out.r.kept s1 H0.out.a2
  have HC2 : Hid _ := rreadSc_any r1 o.at' HQ.out HK.out
  rw [← EX.out] at HC2
  have S1 : Hid _ := s1
  have D1 : Hid _ := d1
  have B1 : Hid _ := b1
  have F1 : Hid _ := f1
  obtain ⟨nX, enX⟩ : ∃ n, n = X.2.1.length := ⟨_, rfl⟩
  rw [← enX]
  have ENX : Hid _ := enX
  obtain ⟨cX, ecX⟩ : ∃ c, c = X.1 := ⟨_, rfl⟩
  rw [← ecX]
  have ECX : Hid _ := ecX
  clear hbx1 r1 s1 d1 b1 f1 HC enX ecX
  go_wp2_with fail
  refine Calls.mono HC2.out ?_
  rintro e w2 ⟨a2, cap2, v, Q', rfl, b2, f2, r2, s2, n2, l2⟩
  have hlen : X.2.1.length ≤ 9223372036854775807 := by
    rcases Nat.lt_or_ge 9223372036854775807 X.2.1.length with q | q
    · exfalso
      have hy := B1.out
      rw [EX.out] at q
      have := len_readR m 2 m.cS1 (m.S) m.scr o.at'
      have h9 : m.scr.length ≤ 4194304 := by rw [H0.out.d.good.scr]; exact Nat.le_trans (Nat.mul_le_mul H0.out.d.good.b2 H0.out.d.good.s2) (by decide)
      unfold M.readSc at q
      omega
    · exact q
  have HSM : Hid _ := same_true w2 a1 a2 cap1 cap2 X.2.1 (BytesAt.kept B1.out s2 fun k hk e => by have h1 := F1.out k hk; have h2 := HLT.out k (.inr e); rw [World.size_alloc] at h1; omega) b2 hlen
  have HT : Hid _ := Two.next H0.out HB.out D1.out S1.out (Same.refl _ _) r2 s2 (n2.imp id fun ⟨k, z1, z2⟩ => ⟨k, z1, Nat.le_trans S1.out.size z2⟩) (by rw [EX.out]; exact HIF.out.1) (by rw [EX.out]; exact HIF.out.2)
  have HL2 : Hid _ := l2
  have HK2 : Hid (X.2.2.k ≤ m.k + 3 ∧ Fx m X.2.2) := by rw [EX.out]; exact HKK.out
  rw [← ENX.out, ← ECX.out]
  rw [← ENX.out] at HSM
  clear b2 f2 r2 s2 n2 l2 hlen HC2
  go_wp2_with fail
  refine Calls.mono HSM.out ?_
  rintro e w3 ⟨rfl, hw3⟩
  subst w3
  go_wp2_with fail
  go_ret
  exact ⟨rfl, _, v, Q', HT.out.1, ((Same.refl _ _).alloc _).trans' HT.out.2, HL2.out, HK2.out⟩
end Go.Proofs.Ytagkgenhgllglaa
