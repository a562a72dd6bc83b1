/- What is proved: WriteScratch answers as the plain device M does; the device and the data lie in memory, the data outside the device. -/
import Derived.Test.YtpjkmficpedmcaaDFault
namespace Go.Proofs.Ytpjkmficpedmcaa
open Go.RowKit

/-- The bytes cs are laid over the scratch region from off on; dn: whether the device is down. -/
def M.torn (m : M) (off : Nat) (cs : List Int) (dn : Bool) : M := { m with scr := splice m.scr off cs, down := dn }
/-- What a write answers, and what it leaves. -/
def M.write (m : M) (b : Int) (d : List Int) : Int × M :=
  if m.down = true then (34, m) else if b < 0 ∨ (m.S : Int) ≤ b then (35, m) else if d.length ≠ m.B then (36, m) else
  match crash m.F (m.cW + 1) with
  | some f => (34, m.cW1.hit.torn (b.toNat * m.B) (d.take f.p.toNat) true)
  | none => if fails m.F (m.cW + 1) = true then (38, m.cW1.hit) else (0, m.cW1.torn (b.toNat * m.B) d false)

theorem Good.torn {m : M} (h : Good m) {off : Nat} {cs : List Int} (dn : Bool) (hf : off + cs.length ≤ m.B * m.S) : Good (m.torn off cs dn) :=
  ⟨h.b1, h.b2, h.s2, h.inp, (length_splice _ _ _ (by rw [h.scr]; exact hf)).trans h.scr, h.F, h.fine, h.cI, h.cS, h.cW, h.cT, h.R⟩
/-- The scratch region's row turns. -/
theorem Dv.torn {w w' : World} {m : M} {p : Pl} (h : Dv w m p) {off : Nat} {cs : List Int} (dn : Bool) (hf : off + cs.length ≤ m.B * m.S) (hs : Same (fun k => k = p.sb) w w') (hg : w'.heap[p.sb]? = some (rowObj (splice m.scr off cs))) (hdn : m.down = dn) : Dv w' (m.torn off cs dn) p where
  dev := by subst hdn; exact (hs.block _ (h.lt (.inl (.inl rfl))) h.db_sb).trans h.dev
  inp := h.inp.kept hs fun k hk e => (h.api k hk).1 e
  scr := hg
  flt := h.flt.kept hs fun k hk e => (h.apf k hk).1 e
  map := h.map.kept hs h.sb_mb.symm
  good := h.good.torn dn hf
  icap := h.icap
  inil := h.inil
  api := h.api
  apf := h.apf
/-- The power goes. -/
theorem Dv.dies {w : World} {m : M} {p : Pl} {off : Nat} {cs : List Int} {dn : Bool} (h : Dv w (m.torn off cs dn) p) : Dv (w.setCell ⟨p.db, 10, none⟩ (.bool true)) (m.torn off cs true) p :=
  h.turn (m' := m.torn off cs true) (Same.setCell (S := fun k => k = p.db) (Same.refl _ w) _ (.inr rfl) _) ((setCell_at h.dev 10 _).trans (by simp [M.torn, devObj])) rfl rfl rfl rfl (Nat.le_refl _)
    ⟨h.good.b1, h.good.b2, h.good.s2, h.good.inp, h.good.scr, h.good.F, h.good.fine, h.good.cI, h.good.cS, h.good.cW, h.good.cT, h.good.R⟩

theorem crash_some {l : List Fl} {n : Nat} {f : Fl} (h : crash l n = some f) : f ∈ l ∧ f.k = 4 := by
  refine ⟨List.mem_of_find?_eq_some h, ?_⟩
  have := List.find?_some h
  simp only [isCrash, Bool.and_eq_true, beq_iff_eq] at this
  exact this.1

set_option maxRecDepth 100000 in
set_option maxHeartbeats 1600000 in
theorem ws_no {w : World} {m : M} {p : Pl} (h : Dv w m p) (b c : Int) (sv : Value) (hc : c ≠ 0) (HR : Calls Try.prog 35 #[.pointer (some ⟨p.db, 0, none⟩), .int .i64 b, .int .i64 m.S] w fun e w' => e = .returned (.int .i64 c) ∧ w' = w) :
    Calls Try.prog 31 #[.pointer (some ⟨p.db, 0, none⟩), .int .i64 b, sv] w fun e w' => e = .returned (.int .i64 c) ∧ w' = w := by
  obtain ⟨-, c1, -, -, -, -⟩ := h.cells
  have hc' : (c != 0) = true := by simpa using hc
  have HR' : Hid _ := HR
  clear h HR hc
  go_enter Try.func31, Try.ntmps31
  go_wp2_with fail
  refine Calls.mono HR'.out ?_
  rintro e w2 ⟨rfl, hw⟩
  subst w2
  go_wp2_with fail
  go_ret
  exact ⟨rfl, rfl⟩

set_option maxRecDepth 100000 in
set_option maxHeartbeats 1600000 in
theorem ws_size {w : World} {m : M} {p : Pl} (h : Dv w m p) (b : Int) (a : Option Addr) (n cap : Nat) (hn : n ≠ m.B) (HR : Calls Try.prog 35 #[.pointer (some ⟨p.db, 0, none⟩), .int .i64 b, .int .i64 m.S] w fun e w' => e = .returned (.int .i64 0) ∧ w' = w) :
    Calls Try.prog 31 #[.pointer (some ⟨p.db, 0, none⟩), .int .i64 b, .slice a n cap] w fun e w' => e = .returned (.int .i64 36) ∧ w' = w := by
  obtain ⟨c0, c1, -, -, -, -⟩ := h.cells
  have HR' : Hid _ := HR
  have t1 : ¬ n = m.B := hn
  have t2 : ¬ (n : Int) = (m.B : Int) := by omega
  have t3 : ((n : Int) != (m.B : Int)) = true := by simpa using t2
  clear h HR
  go_enter Try.func31, Try.ntmps31
  go_wp2_with fail
  refine Calls.mono HR'.out ?_
  rintro e w2 ⟨rfl, hw⟩
  subst w2
  go_wp2_with fail
  go_ret
  exact ⟨rfl, rfl⟩

theorem write_in {m : M} {n : Nat} {d : List Int} (hd : m.down = false) (hn : n < m.S) (hl : d.length = m.B) : m.write n d = match crash m.F (m.cW + 1) with
    | some f => (34, m.cW1.hit.torn (n * m.B) (d.take f.p.toNat) true)
    | none => if fails m.F (m.cW + 1) = true then (38, m.cW1.hit) else (0, m.cW1.torn (n * m.B) d false) := by
  unfold M.write
  rw [if_neg (by rw [hd]; decide), if_neg (by omega), if_neg (by simpa using hl)]
  rfl

set_option maxRecDepth 100000 in
set_option maxHeartbeats 3200000 in
theorem ws_yes {w : World} {m : M} {p : Pl} (h : Dv w m p) (n : Nat) (hn : n < m.S) (a : Option Addr) (cap : Nat) (d : List Int) (hdl : d.length = m.B) (ha : BytesAt w a d) (hcap : d.length ≤ cap) (hap : ∀ k, InB a d.length k → k ≠ p.db) (hk : m.k + 1 < 4611686018427387904) (hd : m.down = false) :
    Calls Try.prog 31 #[.pointer (some ⟨p.db, 0, none⟩), .int .i64 n, .slice a d.length cap] w fun e w' => e = .returned (.int .i64 (m.write n d).1) ∧ Dv w' (m.write n d).2 p ∧ Same (Own p) w w' := by
  obtain ⟨c0, c1, -, c3, -, -⟩ := h.cells
  obtain ⟨-, -, c8, -, -⟩ := h.counts
  have z8 : w.frozen? ⟨p.db, 8, none⟩ = false := frozen_of h.dev 8
  have hl : p.db < w.heap.size := lt_of_heap h.dev
  have hW := h.good.cW
  have b1 := h.good.b1
  have b2 := h.good.b2
  have s2 := h.good.s2
  have hwr := write_in hd hn hdl
  have HR : Hid _ := refuse_no h (n : Int) (m.S : Int) hd (by omega) (by omega)
  have hd1 := h.cW1
  have s1 : Same (Own p) w (w.setCell ⟨p.db, 8, none⟩ (.int .i64 ((m.cW : Int) + 1))) := Same.setCell (Same.refl _ w) _ (.inr (.inl rfl)) _
  have s1' : Same (fun k => k = p.db) w (w.setCell ⟨p.db, 8, none⟩ (.int .i64 ((m.cW : Int) + 1))) := Same.setCell (S := fun k => k = p.db) (Same.refl _ w) _ (.inr rfl) _
  have ha1 := ha.kept s1' hap
  generalize hw1 : w.setCell ⟨p.db, 8, none⟩ (.int .i64 ((m.cW : Int) + 1)) = w1 at hd1 s1 ha1
  clear s1'
  have HF : Hid (∀ k, Calls Try.prog 36 #[.pointer (some ⟨p.db, 0, none⟩)] (w1.drewN k) fun e w' => ∃ f s, e = .returned (.tuple #[fagg f, .bool s]) ∧ WF m.F (m.cW + 1) f s ∧ Kept w1 w') := fun k =>
    (wfault_any (hd1.kept0 (Same.drewN (Same.refl _ w1) k))).mono fun e w' ⟨f, s, he, hf, hk⟩ => ⟨f, s, he, hf, (Same.drewN (Same.refl _ w1) k).trans' hk⟩
  obtain ⟨d0, -, -, d3, -, -⟩ := hd1.cells
  obtain ⟨fr, ef⟩ : ∃ fr, fr = n * m.B := ⟨_, rfl⟩
  have hfr : (n : Int) * (m.B : Int) = (fr : Int) := by rw [ef]; simp
  obtain ⟨tot, et⟩ : ∃ t, t = m.B * m.S := ⟨_, rfl⟩
  have hfit : fr + m.B ≤ tot := by rw [ef, et, Nat.mul_comm n]; exact (Nat.mul_succ m.B n) ▸ Nat.mul_le_mul_left _ hn
  have htot : tot ≤ 4194304 := by rw [et]; exact Nat.le_trans (Nat.mul_le_mul b2 s2) (by decide)
  have e1 : m.cW1.B = m.B := rfl
  have e2 : m.cW1.S = m.S := rfl
  rw [e1] at d0
  rw [e1, e2] at d3
  rw [← et] at d3 c3
  clear e1 e2
  have H1 : Hid _ := hd1
  have S1 : Hid _ := s1
  have A1 : Hid _ := ha1
  have HW1 : Hid _ := hw1
  have HD : Hid _ := hdl
  obtain ⟨L, eL⟩ : ∃ L, L = d.length := ⟨_, rfl⟩
  have hLB : (L : Int) = (m.B : Int) := by omega
  have hLB' : ((L : Int) != (m.B : Int)) = false := by simpa using hLB
  rw [← eL] at hcap ⊢
  have HL : Hid _ := eL
  rw [← ef] at hwr
  have HWR : Hid _ := hwr
  have HDN : Hid _ := hd
  have HAP : Hid _ := hap
  have HFN : Hid (∀ f ∈ m.F, Fine m.B f) := h.good.fine
  have HE : Hid _ := ef
  have HT : Hid _ := et
  clear h hd1 s1 ha1 ha hap hdl eL ef et hwr hd
  go_enter Try.func31, Try.ntmps31
  go_wp2_with fail
  refine Calls.mono HR.out ?_
  rintro e w2 ⟨rfl, hw⟩
  subst w2
  go_wp2_with fail
  go_quiet (fail)
  go_wp2_with fail
  refine Calls.mono (HF.out _) ?_
  rintro e w3 ⟨f, s, rfl, hf, k3⟩
  have hk4 : Kept w1 (w3.alloc (fobj f)) := k3.alloc _
  have hd4 := H1.out.kept0 hk4
  have ha4 := BytesAt.kept A1.out hk4 (fun _ _ h => h)
  have hl3 : p.db < w3.heap.size := Nat.lt_of_lt_of_le hl (Nat.le_trans S1.out.size k3.size)
  have s4 : Same (Own p) w (w3.alloc (fobj f)) := S1.out.trans' (hk4.to _)
  have S4 : Hid _ := s4
  have H4 : Hid _ := hd4
  obtain ⟨-, -, -, t9, -⟩ := hd4.counts
  have z9 : (w3.alloc (fobj f)).frozen? ⟨p.db, 9, none⟩ = false := frozen_of hd4.dev 9
  have t9' : (w3.alloc (fobj f)).cell? ⟨p.db, 9, none⟩ = some (.int .i64 m.cT) := t9
  have hT := hd4.good.cT
  have hT' : m.cT ≤ m.k + 1 := hT
  have g4 : (w3.alloc (fobj f)).heap[w3.heap.size]? = some (fobj f) := heap_new w3 _
  simp only [fagg]
  rcases hf with ⟨hc, rfl⟩ | ⟨hc, hfl, rfl, h3⟩ | ⟨hc, hfl, rfl⟩
  · -- the power goes
    obtain ⟨hmem, h4⟩ := crash_some hc
    have hp := (HFN.out f hmem).p
    have hkB : f.p.toNat ≤ m.B := by omega
    obtain ⟨ab, ao, rfl, -, -⟩ := A1.out 0 (d[0]'(by have := HD.out; omega)) (List.getElem?_eq_getElem _)
    have h3' : (f.k == 3) = false := by rw [h4]; rfl
    have hd5 : Dv ((w3.alloc (fobj f)).setCell ⟨p.db, 9, none⟩ (.int .i64 ((m.cT : Int) + 1))) m.cW1.hit p := hd4.hits
    have sx : Same (Own p) (w3.alloc (fobj f)) ((w3.alloc (fobj f)).setCell ⟨p.db, 9, none⟩ (.int .i64 ((m.cT : Int) + 1))) := Same.setCell (Same.refl _ _) _ (.inr (.inl rfl)) _
    have ha5 : BytesAt ((w3.alloc (fobj f)).setCell ⟨p.db, 9, none⟩ (.int .i64 ((m.cT : Int) + 1))) (some ⟨ab, ao, none⟩) d := ha4.kept (S := fun k => k = p.db) (Same.setCell (S := fun k => k = p.db) (Same.refl _ _) _ (.inr rfl) _) HAP.out
    have ha6 : BytesAt ((w3.alloc (fobj f)).setCell ⟨p.db, 9, none⟩ (.int .i64 ((m.cT : Int) + 1))) (some ⟨ab, ao, none⟩) (d.take f.p.toNat) := fun i x hx => ha5 i x (by
      have := (List.getElem?_eq_some_iff.1 hx).1
      rw [List.length_take] at this
      rwa [List.getElem?_take_of_lt (by omega)] at hx)
    have hlen : (d.take f.p.toNat).length = f.p.toNat := by rw [List.length_take, HD.out]; omega
    obtain ⟨w6, hcp, hg6, s6⟩ := copy_bytes (off := fr) (dp := some ⟨p.sb, fr, none⟩) (dLen := tot - fr) (dCap := tot - fr) (sLen := f.p.toNat) (sCap := cap) hd5.scr (show (d.take f.p.toNat).length = Nat.min f.p.toNat (tot - fr) by rw [hlen]; exact (Nat.min_eq_left (by omega)).symm) ha6 (by rw [hlen, hd5.good.scr]; show fr + f.p.toNat ≤ m.B * m.S; rw [← HT.out]; omega) (fun _ => rfl)
    have hd6 := hd5.torn (off := fr) (cs := d.take f.p.toNat) false (by rw [hlen]; show fr + f.p.toNat ≤ m.B * m.S; rw [← HT.out]; omega) s6 hg6 HDN.out
    obtain ⟨-, -, -, -, t10⟩ := hd6.counts
    have z10 : w6.frozen? ⟨p.db, 10, none⟩ = false := frozen_of hd6.dev 10
    have HM : Hid (m.write n d = (34, m.cW1.hit.torn fr (d.take f.p.toNat) true)) := by
      show m.write n d = _
      rw [HWR.out, hc]
    have k0 : (w3.alloc (fobj f)).cell? ⟨w3.heap.size, 0, none⟩ = some (.int .i64 f.k) := (cell_of g4 0).trans rfl
    have k3' : (w3.alloc (fobj f)).cell? ⟨w3.heap.size, 3, none⟩ = some (.int .i64 f.p) := (cell_of g4 3).trans rfl
    have H6 : Hid (Dv (w6.setCell ⟨p.db, 10, none⟩ (.bool true)) (m.cW1.hit.torn fr (d.take f.p.toNat) true) p) := hd6.dies
    have S6 : Hid (Same (Own p) w (w6.setCell ⟨p.db, 10, none⟩ (.bool true))) := Same.setCell ((S4.out.trans' sx).trans (S' := fun k => k = p.sb) s6 (fun _ _ e => .inr (.inl e))) _ (.inr (.inl rfl)) _
    rw [hlen, World.setCell_alloc_past (w := w3) (fobj f) p.db 9 (.int .i64 ((m.cT : Int) + 1)) hl3] at hcp
    simp only [goInt] at hcp
    have t10' : w6.cell? ⟨p.db, 10, none⟩ = some (.bool false) := t10
    clear hc h4 hd4 hd5 hd6 ha4 ha5 ha6 s4 sx t9 g4 hk4 k3 hmem s6 hg6 t10 H4
    have hkc : f.p.toNat ≤ cap := by have := HD.out; have := HL.out; omega
    have hkz : 0 ≤ f.p := hp.1
    have hkw : f.p ≤ (cap : Int) := by omega
    go_wp2_with fail
    go_ret
    rw [HM.out]
    exact ⟨rfl, H6.out, S6.out⟩
  · -- the write fails
    have h3' : (f.k == 3) = true := by rw [h3]; rfl
    have HM : Hid (m.write n d = (38, m.cW1.hit)) := by
      show m.write n d = _
      rw [HWR.out, hc]
      exact if_pos hfl
    have k0 : (w3.alloc (fobj f)).cell? ⟨w3.heap.size, 0, none⟩ = some (.int .i64 f.k) := (cell_of g4 0).trans rfl
    clear hc hfl h3 hd4 ha4 s4 t9 g4 hk4 k3
    go_wp2_with fail
    go_ret
    rw [HM.out]
    have hcm := World.setCell_alloc_past (w := w3) (fobj f) p.db 9 (.int .i64 ((m.cT : Int) + 1)) hl3
    rw [← hcm]
    exact ⟨rfl, Dv.hits H4.out, Same.setCell S4.out _ (.inr (.inl rfl)) _⟩
  · -- all is written
    obtain ⟨w6, hcp, hg6, s6⟩ := copy_bytes (off := fr) (dp := some ⟨p.sb, fr, none⟩) (dLen := tot - fr) (dCap := tot - fr) (sLen := L) (sCap := cap) hd4.scr (show d.length = Nat.min L (tot - fr) by have := HD.out; rw [← HL.out]; exact (Nat.min_eq_left (by have := HL.out; omega)).symm) ha4 (by rw [hd4.good.scr]; show fr + d.length ≤ m.B * m.S; rw [← HT.out, HD.out]; omega) (fun _ => rfl)
    have hd6 := hd4.torn (off := fr) (cs := d) false (by show fr + d.length ≤ m.B * m.S; rw [← HT.out, HD.out]; omega) s6 hg6 HDN.out
    have HM : Hid (m.write n d = (0, m.cW1.torn fr d false)) := by
      show m.write n d = _
      rw [HWR.out, hc]
      exact if_neg (by rw [hfl]; decide)
    have H6 : Hid _ := hd6
    have S6 : Hid (Same (Own p) w w6) := S4.out.trans (S' := fun k => k = p.sb) s6 (fun _ _ e => .inr (.inl e))
    rw [← HL.out] at hcp
    simp only [goInt] at hcp
    clear hc hfl hd4 ha4 s4 t9 g4 hk4 k3 hd6 s6 hg6
    go_wp2_with fail
    go_ret
    rw [HM.out]
    exact ⟨rfl, H6.out, S6.out⟩
end Go.Proofs.Ytpjkmficpedmcaa
