/- What is proved: tells answers true of two devices that are alike; both lie in memory. -/
import Derived.Test.YtagkgenhgllglaaDRvJ
import Derived.Deep.RegionHeld3
namespace Go.Proofs.Ytagkgenhgllglaa
open Go.RowKit

set_option maxRecDepth 100000 in
set_option maxHeartbeats 1600000 in
theorem blocks_q {w : World} {m : M} {p : Pl} (h : Dv w m p) : Calls Try.prog 25 #[.pointer (some ⟨p.db, 0, none⟩)] w fun e w' => e = .returned (.int .i64 (nblk m.inp.length m.B : Nat)) ∧ ∃ n, w' = w.drewN n := by
  obtain ⟨c0, -, c2, -, -, -⟩ := h.cells
  have b1 := h.good.b1
  have b2 := h.good.b2
  have b3 := h.good.inp
  clear h
  unfold nblk
  obtain ⟨B, eB⟩ : ∃ B, B = m.B := ⟨_, rfl⟩
  obtain ⟨n, en⟩ : ∃ n, n = m.inp.length := ⟨_, rfl⟩
  rw [← eB] at c0 b1 b2 ⊢
  rw [← en] at c2 b3 ⊢
  clear eB en
  obtain ⟨q, eq⟩ : ∃ q, q = (n + B - 1) / B := ⟨_, rfl⟩
  have hq : ((n : Int) + B - 1).tdiv (B : Int) = (q : Int) := by
    rw [eq, show ((n : Int) + B - 1) = ((n + B - 1 : Nat) : Int) by omega]; rfl
  have hq2 : q ≤ 4195328 := by rw [eq]; exact Nat.le_trans (Nat.div_le_self _ _) (by omega)
  rw [← eq]
  have hB : ((B : Int) == 0) = false := by simp; omega
  clear eq
  have c0' := c0
  have c2' := c2
  go_enter Try.func25, Try.ntmps25
  go_wp2_with fail
  go_quiet (fail)
  go_wp2_with fail
  go_ret
  exact ⟨rfl, _, rfl⟩

set_option maxRecDepth 100000 in
set_option maxHeartbeats 800000 in
theorem tells_any {w : World} {m : M} {p : Pl} {q : RP} {Q : List Rb} (hd : Dv w m p) (hr : Rv w m q Q) : Calls Try.prog 11 #[.pointer (some ⟨p.db, 0, none⟩), .pointer (some ⟨q.db, 0, none⟩)] w fun e w' => e = .returned (.bool true) ∧ Kept w w' := by
  have HD : Hid _ := hd
  have HR : Hid _ := hr
  have HC : Hid _ := counts_any hd
  have b1 := hd.good.b1
  have b2 := hd.good.b2
  have i2 := hd.good.inp
  obtain ⟨cI, eI⟩ : ∃ x, x = m.cI := ⟨_, rfl⟩
  obtain ⟨cS, eS⟩ : ∃ x, x = m.cS := ⟨_, rfl⟩
  obtain ⟨cW, eW⟩ : ∃ x, x = m.cW := ⟨_, rfl⟩
  obtain ⟨cT, eT⟩ : ∃ x, x = m.cT := ⟨_, rfl⟩
  rw [← eI, ← eS, ← eW, ← eT] at HC
  have EE : Hid (cI = m.cI ∧ cS = m.cS ∧ cW = m.cW ∧ cT = m.cT) := ⟨eI, eS, eW, eT⟩
  clear hd hr eI eS eW eT
  go_enter Try.func11, Try.ntmps11
  go_wp2_with fail
  refine Calls.mono HC.out ?_
  rintro e w1 ⟨rfl, k1⟩
  have kA : Kept w (w1.alloc (.cells #[.int .i64 cI, .int .i64 cS, .int .i64 cW, .int .i64 cT] 59 (0, 0))) := k1.alloc _
  have hb := heap_new w1 (.cells #[.int .i64 cI, .int .i64 cS, .int .i64 cW, .int .i64 cT] 59 (0, 0))
  have KA : Hid _ := kA
  have HBX : Hid _ := hb
  clear k1 kA hb HC
  go_upto_region 2 with fail
  generalize hw2 : (w1.alloc (.cells #[.int .i64 cI, .int .i64 cS, .int .i64 cW, .int .i64 cT] 59 (0, 0))) = w2 at KA HBX ⊢
  generalize w1.heap.size = bx at HBX ⊢
  clear hw2
  have D2 : Hid _ := Dv.kept0 HD.out KA.out
  have R2 : Hid _ := Rv.on HR.out KA.out
  obtain ⟨q1, q2, q3, q4⟩ := EE.out
  have x0 : w2.cell? ⟨bx, 0, none⟩ = some (.int .i64 cI) := (cell_of HBX.out 0).trans rfl
  have x1 : w2.cell? ⟨bx, 1, none⟩ = some (.int .i64 cS) := (cell_of HBX.out 1).trans rfl
  have x2 : w2.cell? ⟨bx, 2, none⟩ = some (.int .i64 cW) := (cell_of HBX.out 2).trans rfl
  have x3 : w2.cell? ⟨bx, 3, none⟩ = some (.int .i64 cT) := (cell_of HBX.out 3).trans rfl
  have xl := lt_of_heap HBX.out
  have y6 : w2.cell? ⟨q.db, 6, none⟩ = some (.int .i64 cI) := by rw [q1]; exact R2.out.counts.1
  have y7 : w2.cell? ⟨q.db, 7, none⟩ = some (.int .i64 cS) := by rw [q2]; exact R2.out.counts.2.1
  have y8 : w2.cell? ⟨q.db, 8, none⟩ = some (.int .i64 cW) := by rw [q3]; exact R2.out.counts.2.2.1
  have y9 : w2.cell? ⟨q.db, 9, none⟩ = some (.int .i64 cT) := by rw [q4]; exact R2.out.counts.2.2.2.1
  obtain ⟨dn, edn⟩ : ∃ dn, dn = m.down := ⟨_, rfl⟩
  have y10 : w2.cell? ⟨q.db, 10, none⟩ = some (.bool dn) := by rw [edn]; exact R2.out.counts.2.2.2.2
  have yl : q.db < w2.heap.size := lt_of_heap R2.out.dev
  have HDN : Hid (∀ n, Calls Try.prog 23 #[.pointer (some ⟨p.db, 0, none⟩)] (w2.drewN n) fun e w' => e = .returned (.bool dn) ∧ w' = w2.drewN n) := fun n => by rw [edn]; exact down_any (Dv.kept0 D2.out ((Same.refl _ _).drewN n))
  clear q1 q2 q3 q4 edn
  go_quiet ((go_at_call 23; exact Calls.quiet_of_same (HDN.out _)))
  have K3 : Hid (Kept w (w2.drewN nq)) := KA.out.drewN nq
  have HG : Hid _ := geometry_any (Dv.kept0 HD.out K3.out)
  obtain ⟨B, eB⟩ : ∃ B, B = m.B := ⟨_, rfl⟩
  obtain ⟨S, eS⟩ : ∃ S, S = m.S := ⟨_, rfl⟩
  rw [← eB, ← eS] at HG
  rw [← eB] at b1 b2
  have EBS : Hid (B = m.B ∧ S = m.S) := ⟨eB, eS⟩
  clear x0 x1 x2 x3 xl y6 y7 y8 y9 y10 yl HDN D2 R2 HBX KA eB eS
  go_wp2_with fail
  refine Calls.mono HG.out ?_
  rintro e w4 ⟨rfl, k4⟩
  have kA : Kept w (w4.alloc (.cells #[.int .i64 B, .int .i64 S] 44 (0, 0))) := (K3.out.trans' k4).alloc _
  have hb := heap_new w4 (.cells #[.int .i64 B, .int .i64 S] 44 (0, 0))
  have KA : Hid _ := kA
  have HBX : Hid _ := hb
  clear k4 kA hb HG K3
  go_upto_region 5 with fail
  generalize hw5 : (w4.alloc (.cells #[.int .i64 B, .int .i64 S] 44 (0, 0))) = w5 at KA HBX ⊢
  generalize w4.heap.size = by' at HBX ⊢
  clear hw5
  have D5 : Hid _ := Dv.kept0 HD.out KA.out
  have R5 : Hid _ := Rv.on HR.out KA.out
  obtain ⟨q1, q2⟩ := EBS.out
  have x0 : w5.cell? ⟨by', 0, none⟩ = some (.int .i64 B) := (cell_of HBX.out 0).trans rfl
  have x1 : w5.cell? ⟨by', 1, none⟩ = some (.int .i64 S) := (cell_of HBX.out 1).trans rfl
  have xl := lt_of_heap HBX.out
  have y0 : w5.cell? ⟨q.db, 0, none⟩ = some (.int .i64 B) := by rw [q1]; exact R5.out.cells.1
  have y1 : w5.cell? ⟨q.db, 1, none⟩ = some (.int .i64 S) := by rw [q2]; exact R5.out.cells.2.1
  obtain ⟨NI, eN⟩ : ∃ NI, NI = m.inp.length := ⟨_, rfl⟩
  have y2 : w5.cell? ⟨q.db, 2, none⟩ = some (.slice q.ia NI q.icap) := by rw [eN]; exact R5.out.cells.2.2.1
  have yl : q.db < w5.heap.size := lt_of_heap R5.out.dev
  rw [← eN] at i2
  obtain ⟨nb, enb⟩ : ∃ nb, nb = nblk NI B := ⟨_, rfl⟩
  have hq : ((NI : Int) + B - 1).tdiv (B : Int) = (nb : Int) := by
    rw [enb, show ((NI : Int) + B - 1) = ((NI + B - 1 : Nat) : Int) by omega]; rfl
  have hq2 : nb ≤ 4195328 := by rw [enb]; exact Nat.le_trans (Nat.div_le_self _ _) (by omega)
  have hB : ((B : Int) == 0) = false := by simp; omega
  have HBL : Hid (∀ n, Calls Try.prog 25 #[.pointer (some ⟨p.db, 0, none⟩)] (w5.drewN n) fun e w' => e = .returned (.int .i64 nb) ∧ ∃ k, w' = (w5.drewN n).drewN k) := fun n => by
    have := blocks_q (Dv.kept0 D5.out ((Same.refl _ _).drewN n))
    rw [← eN, ← q1, ← enb] at this
    exact this
  have EN : Hid _ := eN
  clear q1 q2 eN enb
  go_quiet ((go_at_call 25; exact Calls.quiet_of (HBL.out _)))
  have K6 : Hid (Kept w (w5.drewN nq)) := KA.out.drewN nq
  clear x0 x1 xl y0 y1 y2 yl HBL D5 R5 HBX KA hq hB
  generalize hw6 : w5.drewN nq = w6 at K6 ⊢
  clear hw6
  have HS6 : Hid (m.scr.length = m.B * m.S) := HD.out.good.scr
  obtain ⟨NS', eNS⟩ : ∃ n, n = m.scr.length := ⟨_, rfl⟩
  have ENS : Hid _ := eNS
  have HIN : Hid (∀ W, Kept w6 W → Calls Try.prog 18 #[.pointer (some ⟨p.db, 0, none⟩)] W fun e w' => ∃ a cap, e = .returned (.slice a NI cap) ∧ BytesAt w' a m.inp ∧ Kept W w') := fun W k => by
    rw [EN.out]
    exact Calls.mono (input_any (Dv.kept0 HD.out (K6.out.trans' k))) fun e w' ⟨a, cap, q1, q2, _, q3⟩ => ⟨a, cap, q1, q2, q3⟩
  have HIM : Hid (∀ W, Kept w6 W → Calls Try.prog 17 #[.pointer (some ⟨p.db, 0, none⟩)] W fun e w' => ∃ a cap, e = .returned (.slice a NS' cap) ∧ BytesAt w' a m.scr ∧ Kept W w') := fun W k => by
    rw [ENS.out]
    exact Calls.mono (image_any (Dv.kept0 HD.out (K6.out.trans' k))) fun e w' ⟨a, cap, q1, q2, _, q3⟩ => ⟨a, cap, q1, q2, q3⟩
  have HSI : Hid (∀ W a ca, Kept w6 W → BytesAt W a m.inp → Calls Try.prog 13 #[.slice a NI ca, .slice q.ia NI q.icap] W fun e w' => e = .returned (.bool true) ∧ Kept W w') := fun W a ca k h => by
    rw [EN.out]
    exact Calls.mono (same_true W a q.ia ca q.icap m.inp h (Rv.on HR.out (K6.out.trans' k)).inp (by have := HD.out.good.inp; omega)) fun e w' ⟨q1, q2⟩ => ⟨q1, by rw [q2]; exact Same.refl _ _⟩
  have HSS : Hid (∀ W a ca, Kept w6 W → BytesAt W a m.scr → Calls Try.prog 13 #[.slice a NS' ca, .slice (some ⟨q.sb, 0, none⟩) NS' NS'] W fun e w' => e = .returned (.bool true) ∧ Kept W w') := fun W a ca k h => by
    rw [ENS.out]
    exact Calls.mono (same_true W a (some ⟨q.sb, 0, none⟩) ca _ m.scr h (bytes_row (Rv.on HR.out (K6.out.trans' k)).scr) (by rw [HS6.out]; exact Nat.le_trans (Nat.mul_le_mul HD.out.good.b2 HD.out.good.s2) (by decide))) fun e w' ⟨q1, q2⟩ => ⟨q1, by rw [q2]; exact Same.refl _ _⟩
  have HBX : Hid (∀ W, Kept w6 W → Kept w6 W ∧ W.cell? ⟨q.db, 2, none⟩ = some (.slice q.ia NI q.icap) ∧ W.cell? ⟨q.db, 3, none⟩ = some (.slice (some ⟨q.sb, 0, none⟩) NS' NS')) := fun W k => by
    have hr := Rv.on HR.out (K6.out.trans' k)
    refine ⟨k, ?_, ?_⟩
    · rw [EN.out]; exact hr.cells.2.2.1
    · rw [ENS.out, HS6.out]; exact hr.cells.2.2.2.1
  clear eNS
  go_wp2_with fail
  go_region_held3 (fun w' => Kept w6 w' ∧ w'.cell? ⟨q.db, 2, none⟩ = some (.slice q.ia NI q.icap) ∧ w'.cell? ⟨q.db, 3, none⟩ = some (.slice (some ⟨q.sb, 0, none⟩) NS' NS'))
    (exact HBX.out _ (by (repeat (first | exact Same.refl _ _ | apply Same.alloc | apply Same.drew | apply Same.drewN | refine Same.trans' ?_ k6 | refine Same.trans' ?_ k7 | refine Same.trans' ?_ k8 | refine Same.trans' ?_ k9)); done))
    (first
      | (go_at_call 18; refine Calls.mono (HIN.out _ (by (repeat (first | exact Same.refl _ _ | apply Same.alloc | apply Same.drew | apply Same.drewN | refine Same.trans' ?_ k6 | refine Same.trans' ?_ k7 | refine Same.trans' ?_ k8 | refine Same.trans' ?_ k9)); done)) ?_; rintro e w7 ⟨a7, c7, rfl, b7, k7⟩)
      | (go_at_call 17; refine Calls.mono (HIM.out _ (by (repeat (first | exact Same.refl _ _ | apply Same.alloc | apply Same.drew | apply Same.drewN | refine Same.trans' ?_ k6 | refine Same.trans' ?_ k7 | refine Same.trans' ?_ k8 | refine Same.trans' ?_ k9)); done)) ?_; rintro e w8 ⟨a8, c8, rfl, b8, k8⟩)
      | (go_at_call 13; have hx := b8; refine Calls.mono (HSS.out _ a8 c8 (by (repeat (first | exact Same.refl _ _ | apply Same.alloc | apply Same.drew | apply Same.drewN | refine Same.trans' ?_ k6 | refine Same.trans' ?_ k7 | refine Same.trans' ?_ k8 | refine Same.trans' ?_ k9)); done) (BytesAt.kept (S := fun _ => False) b8 (by (repeat (first | exact Same.refl _ _ | apply Same.alloc | apply Same.drew | apply Same.drewN | refine Same.trans' ?_ k6 | refine Same.trans' ?_ k7 | refine Same.trans' ?_ k8 | refine Same.trans' ?_ k9)); done) (fun _ _ h => h))) ?_; rintro e w9 ⟨rfl, k9⟩)
      | (go_at_call 13; refine Calls.mono (HSI.out _ a7 c7 (by (repeat (first | exact Same.refl _ _ | apply Same.alloc | apply Same.drew | apply Same.drewN | refine Same.trans' ?_ k6 | refine Same.trans' ?_ k7 | refine Same.trans' ?_ k8 | refine Same.trans' ?_ k9)); done) (BytesAt.kept (S := fun _ => False) b7 (by (repeat (first | exact Same.refl _ _ | apply Same.alloc | apply Same.drew | apply Same.drewN | refine Same.trans' ?_ k6 | refine Same.trans' ?_ k7 | refine Same.trans' ?_ k8 | refine Same.trans' ?_ k9)); done) (fun _ _ h => h))) ?_; rintro e w10 ⟨rfl, k6⟩))
  all_goals
    go_wp2_with fail
    go_ret
    exact ⟨rfl, K6.out.trans' (by (repeat (first | exact Same.refl _ _ | apply Same.alloc | apply Same.drew | apply Same.drewN | refine Same.trans' ?_ k6 | refine Same.trans' ?_ k7 | refine Same.trans' ?_ k8 | refine Same.trans' ?_ k9)); done)⟩
end Go.Proofs.Ytagkgenhgllglaa
