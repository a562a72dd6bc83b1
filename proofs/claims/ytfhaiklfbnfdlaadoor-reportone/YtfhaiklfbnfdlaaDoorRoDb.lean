/- What is proved: report's Valid, three of its ways; condition: the list's length. -/
import Derived.Test.YtfhaiklfbnfdlaaDoorRoA
namespace Go.Proofs.YtfhaiklfbnfdlaaDoor
open Go.RowKit

set_option maxRecDepth 100000 in
set_option maxHeartbeats 3200000 in
theorem valid22_4 (w : World) (kd cd off tn tt : Int) (ls : List Vi.Vl) (a : Option Addr) (cap : Nat) (h : Vi.At Vi.vl1 12 w a ls) (hlen : ls.length ≤ 1172812402961) (t0 : Vi.wi kd 1 9 = true) (t1 : fit (hc kd) cd 1 999 = true) (t2 : fit (ho kd) off 0 4194304 = true) (t3 : fit (ht kd) tn 0 4096 = true) (t4 : fit (hl kd) tt 1 1099511627776 = false) :
    Calls Tryd.prog 13 #[.agg #[.int .i64 kd, .int .i64 cd, .int .i64 off, .int .i64 tn, .int .i64 tt, .slice a ls.length cap]] w fun e w' => e = .returned (.bool false) ∧ Vi.Grw w w' := by
  have HK : Hid (∀ W, _) := fun W => grw_of (isKind22 kd W)
  have HC : Hid (∀ W, _) := fun W => grw_of (hasCode22 kd W)
  have HO : Hid (∀ W, _) := fun W => grw_of (hasOffset22 kd W)
  have HT : Hid (∀ W, _) := fun W => grw_of (hasTxns22 kd W)
  have HLI : Hid (∀ W, _) := fun W => grw_of (hasList22 kd W)
  have HF : Hid (∀ th n a b W, _) := fun th n a b W => grw_of (fits22 th n a b W)
  have HV : Hid (∀ W, Kept w W → _) := fun W (k : Kept w W) => validViols22 W a cap ls (h.on k) hlen
  obtain ⟨n, en⟩ : ∃ n, n = ls.length := ⟨_, rfl⟩
  rw [← en] at HV ⊢
  have hni : (n : Int) ≤ 1172812402961 := by omega
  obtain ⟨W0, e0⟩ : ∃ W0, W0 = w.alloc (ouO (.int .i64 kd) (.int .i64 cd) (.int .i64 off) (.int .i64 tn) (.int .i64 tt) (.slice a n cap)) := ⟨_, rfl⟩
  have B0 : Hid (W0.heap[w.heap.size]? = some (ouO (.int .i64 kd) (.int .i64 cd) (.int .i64 off) (.int .i64 tn) (.int .i64 tt) (.slice a n cap))) := by rw [e0]; exact heap_new w _
  have G0 : Hid (Vi.Grw w W0) := by rw [e0]; exact (Vi.Grw.refl w).alloc _
  have HVW : Hid (∀ q os, _) := fun q os => HV.out (Sort.grow (W0.drewN q) os) (Vi.Grw.kept (G0.out.grow q os))
  clear en h hlen HV
  rw [t0] at HK
  generalize hc kd = b1 at *
  generalize ho kd = b2 at *
  generalize ht kd = b3 at *
  generalize hl kd = b4 at *
  generalize (allV ls && Vi.srd ls) = bv at *
  obtain ⟨c0, c1, c2, c3, c4, c5⟩ := ou_obj B0.out
  have l0 := lt_of_heap B0.out
  have mixed : Tryd.prog.follows .mixedOrders = true := by kernel_rfl
  have q0 : ∀ n os, _ := fun n os => cell_grown (a := ⟨w.heap.size, 0, none⟩) l0 c0 n os
  have q1 : ∀ n os, _ := fun n os => cell_grown (a := ⟨w.heap.size, 1, none⟩) l0 c1 n os
  have q2 : ∀ n os, _ := fun n os => cell_grown (a := ⟨w.heap.size, 2, none⟩) l0 c2 n os
  have q3 : ∀ n os, _ := fun n os => cell_grown (a := ⟨w.heap.size, 3, none⟩) l0 c3 n os
  have q4 : ∀ n os, _ := fun n os => cell_grown (a := ⟨w.heap.size, 4, none⟩) l0 c4 n os
  have q5 : ∀ n os, _ := fun n os => cell_grown (a := ⟨w.heap.size, 5, none⟩) l0 c5 n os
  clear c0 c1 c2 c3 c4 c5
  go_enter Tryd.func13, Tryd.ntmps13
  go_upto_region 1 with fail
  rw [← e0]
  clear e0 HVW
  go_quiet_grown (first | (go_at_call 24; refine Calls.grown_of (HK.out _)) | (go_at_call 26; refine Calls.grown_of (HC.out _)) | (go_at_call 25; refine Calls.grown_of (HF.out _ _ _ _ _)) | (go_at_call 27; refine Calls.grown_of (HO.out _)) | (go_at_call 28; refine Calls.grown_of (HT.out _)) | (go_at_call 29; refine Calls.grown_of (HLI.out _)))
  have G : Hid (Vi.Grw W0 (Sort.grow (W0.drewN nq) osq)) := ⟨nq, osq, rfl⟩
  generalize Sort.grow (W0.drewN nq) osq = W5 at G ⊢
  go_wp2_with fail
  go_ret
  exact ⟨rfl, Vi.Grw.trans G0.out G.out⟩
set_option maxRecDepth 100000 in
set_option maxHeartbeats 3200000 in
theorem valid22_5 (w : World) (kd cd off tn tt : Int) (ls : List Vi.Vl) (a : Option Addr) (cap : Nat) (h : Vi.At Vi.vl1 12 w a ls) (hlen : ls.length ≤ 1172812402961) (t0 : Vi.wi kd 1 9 = true) (t1 : fit (hc kd) cd 1 999 = true) (t2 : fit (ho kd) off 0 4194304 = true) (t3 : fit (ht kd) tn 0 4096 = true) (t4 : fit (hl kd) tt 1 1099511627776 = true) (t5 : decide ((ls.length : Int) ≤ min tt 10000) = false) :
    Calls Tryd.prog 13 #[.agg #[.int .i64 kd, .int .i64 cd, .int .i64 off, .int .i64 tn, .int .i64 tt, .slice a ls.length cap]] w fun e w' => e = .returned (.bool false) ∧ Vi.Grw w w' := by
  have HK : Hid (∀ W, _) := fun W => grw_of (isKind22 kd W)
  have HC : Hid (∀ W, _) := fun W => grw_of (hasCode22 kd W)
  have HO : Hid (∀ W, _) := fun W => grw_of (hasOffset22 kd W)
  have HT : Hid (∀ W, _) := fun W => grw_of (hasTxns22 kd W)
  have HLI : Hid (∀ W, _) := fun W => grw_of (hasList22 kd W)
  have HF : Hid (∀ th n a b W, _) := fun th n a b W => grw_of (fits22 th n a b W)
  have HV : Hid (∀ W, Kept w W → _) := fun W (k : Kept w W) => validViols22 W a cap ls (h.on k) hlen
  obtain ⟨n, en⟩ : ∃ n, n = ls.length := ⟨_, rfl⟩
  rw [← en] at HV t5 ⊢
  have hni : (n : Int) ≤ 1172812402961 := by omega
  obtain ⟨W0, e0⟩ : ∃ W0, W0 = w.alloc (ouO (.int .i64 kd) (.int .i64 cd) (.int .i64 off) (.int .i64 tn) (.int .i64 tt) (.slice a n cap)) := ⟨_, rfl⟩
  have B0 : Hid (W0.heap[w.heap.size]? = some (ouO (.int .i64 kd) (.int .i64 cd) (.int .i64 off) (.int .i64 tn) (.int .i64 tt) (.slice a n cap))) := by rw [e0]; exact heap_new w _
  have G0 : Hid (Vi.Grw w W0) := by rw [e0]; exact (Vi.Grw.refl w).alloc _
  have HVW : Hid (∀ q os, _) := fun q os => HV.out (Sort.grow (W0.drewN q) os) (Vi.Grw.kept (G0.out.grow q os))
  clear en h hlen HV
  rw [t0] at HK
  generalize hc kd = b1 at *
  generalize ho kd = b2 at *
  generalize ht kd = b3 at *
  generalize hl kd = b4 at *
  generalize (allV ls && Vi.srd ls) = bv at *
  obtain ⟨c0, c1, c2, c3, c4, c5⟩ := ou_obj B0.out
  have l0 := lt_of_heap B0.out
  have mixed : Tryd.prog.follows .mixedOrders = true := by kernel_rfl
  have q0 : ∀ n os, _ := fun n os => cell_grown (a := ⟨w.heap.size, 0, none⟩) l0 c0 n os
  have q1 : ∀ n os, _ := fun n os => cell_grown (a := ⟨w.heap.size, 1, none⟩) l0 c1 n os
  have q2 : ∀ n os, _ := fun n os => cell_grown (a := ⟨w.heap.size, 2, none⟩) l0 c2 n os
  have q3 : ∀ n os, _ := fun n os => cell_grown (a := ⟨w.heap.size, 3, none⟩) l0 c3 n os
  have q4 : ∀ n os, _ := fun n os => cell_grown (a := ⟨w.heap.size, 4, none⟩) l0 c4 n os
  have q5 : ∀ n os, _ := fun n os => cell_grown (a := ⟨w.heap.size, 5, none⟩) l0 c5 n os
  clear c0 c1 c2 c3 c4 c5
  have t5i : ¬ (n : Int) ≤ min tt 10000 := by simpa using t5
  go_enter Tryd.func13, Tryd.ntmps13
  go_upto_region 1 with fail
  rw [← e0]
  clear e0 HVW
  go_quiet_grown (first | (go_at_call 24; refine Calls.grown_of (HK.out _)) | (go_at_call 26; refine Calls.grown_of (HC.out _)) | (go_at_call 25; refine Calls.grown_of (HF.out _ _ _ _ _)) | (go_at_call 27; refine Calls.grown_of (HO.out _)) | (go_at_call 28; refine Calls.grown_of (HT.out _)) | (go_at_call 29; refine Calls.grown_of (HLI.out _)))
  have G : Hid (Vi.Grw W0 (Sort.grow (W0.drewN nq) osq)) := ⟨nq, osq, rfl⟩
  generalize Sort.grow (W0.drewN nq) osq = W5 at G ⊢
  go_wp2_with fail
  go_ret
  exact ⟨rfl, Vi.Grw.trans G0.out G.out⟩
end Go.Proofs.YtfhaiklfbnfdlaaDoor

namespace Go.Proofs.YtfhaiklfbnfdlaaDoor
open Go.RowKit

set_option maxRecDepth 100000 in
set_option maxHeartbeats 3200000 in
theorem valid22_6 (w : World) (kd cd off tn tt : Int) (ls : List Vi.Vl) (a : Option Addr) (cap : Nat) (h : Vi.At Vi.vl1 12 w a ls) (hlen : ls.length ≤ 1172812402961) (t0 : Vi.wi kd 1 9 = true) (t1 : fit (hc kd) cd 1 999 = true) (t2 : fit (ho kd) off 0 4194304 = true) (t3 : fit (ht kd) tn 0 4096 = true) (t4 : fit (hl kd) tt 1 1099511627776 = true) (t5 : decide ((ls.length : Int) ≤ min tt 10000) = true) :
    Calls Tryd.prog 13 #[.agg #[.int .i64 kd, .int .i64 cd, .int .i64 off, .int .i64 tn, .int .i64 tt, .slice a ls.length cap]] w fun e w' => e = .returned (.bool (allV ls && Vi.srd ls)) ∧ Vi.Grw w w' := by
  have HK : Hid (∀ W, _) := fun W => grw_of (isKind22 kd W)
  have HC : Hid (∀ W, _) := fun W => grw_of (hasCode22 kd W)
  have HO : Hid (∀ W, _) := fun W => grw_of (hasOffset22 kd W)
  have HT : Hid (∀ W, _) := fun W => grw_of (hasTxns22 kd W)
  have HLI : Hid (∀ W, _) := fun W => grw_of (hasList22 kd W)
  have HF : Hid (∀ th n a b W, _) := fun th n a b W => grw_of (fits22 th n a b W)
  have HV : Hid (∀ W, Kept w W → _) := fun W (k : Kept w W) => validViols22 W a cap ls (h.on k) hlen
  obtain ⟨n, en⟩ : ∃ n, n = ls.length := ⟨_, rfl⟩
  rw [← en] at HV t5 ⊢
  have hni : (n : Int) ≤ 1172812402961 := by omega
  obtain ⟨W0, e0⟩ : ∃ W0, W0 = w.alloc (ouO (.int .i64 kd) (.int .i64 cd) (.int .i64 off) (.int .i64 tn) (.int .i64 tt) (.slice a n cap)) := ⟨_, rfl⟩
  have B0 : Hid (W0.heap[w.heap.size]? = some (ouO (.int .i64 kd) (.int .i64 cd) (.int .i64 off) (.int .i64 tn) (.int .i64 tt) (.slice a n cap))) := by rw [e0]; exact heap_new w _
  have G0 : Hid (Vi.Grw w W0) := by rw [e0]; exact (Vi.Grw.refl w).alloc _
  have HVW : Hid (∀ q os, _) := fun q os => HV.out (Sort.grow (W0.drewN q) os) (Vi.Grw.kept (G0.out.grow q os))
  clear en h hlen HV
  rw [t0] at HK
  generalize hc kd = b1 at *
  generalize ho kd = b2 at *
  generalize ht kd = b3 at *
  generalize hl kd = b4 at *
  generalize (allV ls && Vi.srd ls) = bv at *
  obtain ⟨c0, c1, c2, c3, c4, c5⟩ := ou_obj B0.out
  have l0 := lt_of_heap B0.out
  have mixed : Tryd.prog.follows .mixedOrders = true := by kernel_rfl
  have q0 : ∀ n os, _ := fun n os => cell_grown (a := ⟨w.heap.size, 0, none⟩) l0 c0 n os
  have q1 : ∀ n os, _ := fun n os => cell_grown (a := ⟨w.heap.size, 1, none⟩) l0 c1 n os
  have q2 : ∀ n os, _ := fun n os => cell_grown (a := ⟨w.heap.size, 2, none⟩) l0 c2 n os
  have q3 : ∀ n os, _ := fun n os => cell_grown (a := ⟨w.heap.size, 3, none⟩) l0 c3 n os
  have q4 : ∀ n os, _ := fun n os => cell_grown (a := ⟨w.heap.size, 4, none⟩) l0 c4 n os
  have q5 : ∀ n os, _ := fun n os => cell_grown (a := ⟨w.heap.size, 5, none⟩) l0 c5 n os
  clear c0 c1 c2 c3 c4 c5
  have t5i : (n : Int) ≤ min tt 10000 := by simpa using t5
  go_enter Tryd.func13, Tryd.ntmps13
  go_upto_region 1 with fail
  rw [← e0]
  clear e0 
  go_quiet_grown (first | (go_at_call 24; refine Calls.grown_of (HK.out _)) | (go_at_call 26; refine Calls.grown_of (HC.out _)) | (go_at_call 25; refine Calls.grown_of (HF.out _ _ _ _ _)) | (go_at_call 27; refine Calls.grown_of (HO.out _)) | (go_at_call 28; refine Calls.grown_of (HT.out _)) | (go_at_call 29; refine Calls.grown_of (HLI.out _)) | (go_at_call 30; refine Calls.grown_of (HVW.out _ _)))
  have G : Hid (Vi.Grw W0 (Sort.grow (W0.drewN nq) osq)) := ⟨nq, osq, rfl⟩
  generalize Sort.grow (W0.drewN nq) osq = W5 at G ⊢
  go_wp2_with fail
  go_ret
  exact ⟨rfl, Vi.Grw.trans G0.out G.out⟩
end Go.Proofs.YtfhaiklfbnfdlaaDoor
