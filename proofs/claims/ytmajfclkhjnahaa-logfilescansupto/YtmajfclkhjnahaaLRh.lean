/- What is proved: the document's scanner in memory: Next at the head, and Next; no condition. -/
import Derived.Test.YtmajfclkhjnahaaLRn
namespace Go.Proofs.Ytmajfclkhjnahaa
open Go.RowKit

section
variable {w w' : World} {rb : Nat} {oa : Option Addr} {c : Nat} {d : List Int} {en : Bool} {s : Sc}
theorem next_at {p : Nat} {e : Int} (h0 : s.er = 0) (hp : s.pl = 0) (hm : mg head4 d 0 = some (p, e)) : next7 d en s = (none, s.stop en p e) := by
  unfold next7
  rw [if_neg (by simpa using h0), if_pos hp, hm]
theorem next_on (h0 : s.er = 0) (hp : s.pl = 0) (hm : mg head4 d 0 = none) : next7 d en s = goOn d en { s with pl := 4 } := by
  unfold next7
  rw [if_neg (by simpa using h0), if_pos hp, hm]
set_option maxRecDepth 100000 in
set_option maxHeartbeats 1600000 in
theorem rnext_head (h : Rs w rb oa c d en s) (h0 : s.er = 0) (hp : s.pl = 0) (hf : s.ft = false) : Calls Try.prog 9 #[.pointer (some ⟨rb, 0, none⟩)] w fun x w' => RsR w rb oa c d en (next7 d en s) x w' := by
  obtain ⟨c0, -, c2, -, c4, c5⟩ := h.cells
  have hlt := h.lt
  have hlt1 : rb < w.heap.size + 1 := by omega
  have hlt2 : rb < w.heap.size + 1 + 1 := by omega
  have hne : ¬ w.heap.size = rb := by omega
  have hne1 : ¬ w.heap.size + 1 = rb := by omega
  have B0 : Hid ((((w.alloc (.cells txz 37 (0, 0))).alloc (.cells txz 37 (0, 0))).alloc mgo).heap[w.heap.size]? = some (.cells txz 37 (0, 0)) ∧ (((w.alloc (.cells txz 37 (0, 0))).alloc (.cells txz 37 (0, 0))).alloc mgo).heap[w.heap.size + 1]? = some (.cells txz 37 (0, 0))) := Same.two (S := fun _ => False) ((Same.refl _ _).alloc _) (fun h => h) (fun h => h)
  have BM : Hid ((((w.alloc (.cells txz 37 (0, 0))).alloc (.cells txz 37 (0, 0))).alloc mgo).heap[w.heap.size + 1 + 1]? = some mgo) := by
    show _ = _
    have := heap_new ((w.alloc (.cells txz 37 (0, 0))).alloc (.cells txz 37 (0, 0))) mgo
    simpa only [World.size_alloc] using this
  have KA : Hid (Kept w (((w.alloc (.cells txz 37 (0, 0))).alloc (.cells txz 37 (0, 0))).alloc mgo)) := (((Same.refl _ w).alloc _).alloc _).alloc _
  have hle := h.arg.le
  have hd : Hid (∀ k, InB oa d.length k → k < w.heap.size) := fun k hk => h.arg.data.lt hk
  rw [h0] at c5
  rw [hp] at c2
  rw [hf] at c4
  have H : Hid _ := h
  have H0 : Hid _ := h0
  have HP : Hid _ := hp
  have HF : Hid _ := hf
  have HR : Hid (∀ W, Kept (((w.alloc (.cells txz 37 (0, 0))).alloc (.cells txz 37 (0, 0))).alloc mgo) W → Rs W rb oa c d en s) := fun W k => h.on (KA.out.trans' k)
  obtain ⟨n, en'⟩ : ∃ n, n = d.length := ⟨_, rfl⟩
  have EN : Hid _ := en'
  rw [← en'] at c0 hle
  have hni : (n : Int) ≤ 140737488351232 := by omega
  clear h h0 hp hf en'
  go_enter Try.func9, Try.ntmps9
  go_wp2_with fail
  go_loopw [7] (fun i W => ∃ k : Nat, i = .int .i64 k ∧ k ≤ 4 ∧ k ≤ n ∧ Kept (((w.alloc (.cells txz 37 (0, 0))).alloc (.cells txz 37 (0, 0))).alloc mgo) W ∧ mg head4 d 0 = mg (head4.drop k) (d.drop k) k) (fun i _ => 4 - (intOf i).toNat)
  case atStart => exact ⟨0, rfl, by omega, by omega, Same.refl _ _, rfl⟩
  case round =>
    obtain ⟨k, rfl, hk4, hkr, hkw, hmg⟩ := hrel
    have KW : Hid _ := hkw
    have MG : Hid _ := hmg
    have c0' : wr.cell? ⟨rb, 0, none⟩ = some (.slice oa n c) := by rw [EN.out]; exact (HR.out _ hkw).cells.1
    have c2' : wr.cell? ⟨rb, 2, none⟩ = some (.int .i64 0) := by have := (HR.out _ hkw).cells.2.2.1; rw [HP.out] at this; exact this
    have c4' : wr.cell? ⟨rb, 4, none⟩ = some (.bool false) := by have := (HR.out _ hkw).cells.2.2.2.2.1; rw [HF.out] at this; exact this
    have fr2 := (HR.out _ hkw).fro 2
    have hltw := (HR.out _ hkw).lt
    have x1 := (hkw.block _ (lt_of_heap B0.out.1) (fun h => h)).trans B0.out.1
    have x2 := (hkw.block _ (lt_of_heap B0.out.2) (fun h => h)).trans B0.out.2
    have x3 := (hkw.block _ (lt_of_heap BM.out) (fun h => h)).trans BM.out
    have hx1 := lt_of_heap x1
    have hx2 := lt_of_heap x2
    have hx3 := lt_of_heap x3
    obtain ⟨⟨y0, y1, y2, y3, y4, y5, y6, y7⟩, -⟩ := tx_obj x2
    have X1 : Hid _ := x1
    have HKR : Hid (k ≤ d.length) := by rw [← EN.out]; exact hkr
    have hx3c : ∀ j, wr.cell? ⟨w.heap.size + 1 + 1, j, none⟩ = #[Value.int .u8 80, .int .u8 82, .int .u8 79, .int .u8 1][j]? := fun j => cell_of x3 j
    have HX3 : Hid _ := hx3c
    clear hkw hmg c0 c2 c4 c5 x1 x2 x3 hx3c
    by_cases hk : k < 4
    · have d1 : decide ((k : Int) < 4) = true := decide_eq_true (by omega)
      have hki : (k : Int) < 4 := by omega
      have HK4 : Hid _ := hk
      by_cases he : n = k
      · have e1 : decide ((k : Int) ≥ (n : Int)) = true := decide_eq_true (by omega)
        have e1' : (n : Int) ≤ (k : Int) := by omega
        have HE : Hid (d.length = k) := by rw [← EN.out]; exact he
        clear he hk hk4
        go_wp2_with fail
        go_region_with (go_at_call 18; refine Calls.mono (rmiss_any (HR.out _ (by (repeat (first | exact KW.out | apply Same.drewN | apply Same.drew)); done)) H0.out k HKR.out) ?_; rintro x w2 ⟨rfl, s2, k2⟩; have k3 : Same (fun k => k = rb) (((w.alloc (.cells txz 37 (0, 0))).alloc (.cells txz 37 (0, 0))).alloc mgo) w2 := Same.trans' (Kept.to (by (repeat (first | exact KW.out | apply Same.drewN | apply Same.drew)); done) _) k2; have b1 := (k3.block _ (lt_of_heap B0.out.1) hne).trans B0.out.1; have b2 := (k3.block _ (lt_of_heap B0.out.2) hne1).trans B0.out.2; obtain ⟨⟨m0, m1, m2, m3, m4, m5, m6, m7⟩, f0, f1, f2, f3, f4, f5, f6, f7⟩ := tx_obj b1; obtain ⟨⟨u0, u1, u2, u3, u4, u5, u6, u7⟩, -⟩ := tx_obj b2; have S2 : Hid _ := s2; have K3 : Hid (Same (fun k => k = rb) w w2) := (Kept.to KA.out _).trans' k3; have B1 : Hid _ := b1; clear s2 k2 k3 b1 b2)
        all_goals go_wp2_with fail
        all_goals refine bodyPost_ret (res_ctt (a := 2) (t := 37) (u := 3) (s := 4) rfl rfl (loadVar_tx (put8_at B1.out _ _ _ _ _ _ _ _))) rfl ?_
        all_goals rw [next_at H0.out HP.out (MG.out.trans (mg_end HK4.out HE.out))]
        all_goals exact rs_none0 K3.out hlt S2.out hd.out _ (put8_same _ _ _ _ _ _ _ _ _ _)
      · have e1 : decide ((k : Int) ≥ (n : Int)) = false := decide_eq_false (by omega)
        have e1' : (k : Int) < (n : Int) := by omega
        have hkn : k < n := by omega
        have hen := EN.out
        obtain ⟨y, hy⟩ : ∃ y, d[k]? = some y := ⟨_, List.getElem?_eq_getElem (by omega)⟩
        obtain ⟨g, off, rfl, hgl, hcell⟩ := (HR.out _ KW.out).arg.data _ _ hy
        obtain ⟨z0, z1⟩ := Byts.get H.out.arg.byts hy
        obtain ⟨x, hx, hxc⟩ : ∃ x, head4[k]? = some x ∧ wr.cell? ⟨w.heap.size + 1 + 1, k, none⟩ = some (.int .u8 x) := by
          rw [HX3.out k]
          rcases (by omega : k = 0 ∨ k = 1 ∨ k = 2 ∨ k = 3) with rfl | rfl | rfl | rfl
          · exact ⟨80, rfl, rfl⟩
          · exact ⟨82, rfl, rfl⟩
          · exact ⟨79, rfl, rfl⟩
          · exact ⟨1, rfl, rfl⟩
        have HX : Hid _ := hx
        have HY : Hid _ := hy
        clear he hk4 hx hy hen
        by_cases hyx : y = x
        · have HN : Hid _ := mg_next MG.out HX.out HY.out hyx
          have hyx' : (y != x) = false := by simpa using hyx
          have hk5 : k + 1 ≤ 4 ∧ k + 1 ≤ n := by omega
          clear HX HY MG hyx
          go_wp2_with fail
          go_quiet (fail)
          go_wp2_with fail
          go_roundw
          case rel => exact ⟨k + 1, by congr 1, hk5.1, hk5.2, KW.out.drewN _, HN.out⟩
          case measure => simp only [intOf]; omega
        · have hyx' : (y != x) = true := by simpa using hyx
          have HYX : Hid _ := hyx
          clear hyx
          go_wp2_with fail
          go_quiet (fail)
          go_wp2_with fail
          go_region_with (go_at_call 19; refine Calls.mono (rfail_any (HR.out _ (by (repeat (first | exact KW.out | apply Same.drewN | apply Same.drew)); done)) k HKR.out 70) ?_; rintro x w2 ⟨rfl, s2, k2⟩; have k3 : Same (fun k => k = rb) (((w.alloc (.cells txz 37 (0, 0))).alloc (.cells txz 37 (0, 0))).alloc mgo) w2 := Same.trans' (Kept.to (by (repeat (first | exact KW.out | apply Same.drewN | apply Same.drew)); done) _) k2; have b1 := (k3.block _ (lt_of_heap B0.out.1) hne).trans B0.out.1; have b2 := (k3.block _ (lt_of_heap B0.out.2) hne1).trans B0.out.2; obtain ⟨⟨m0, m1, m2, m3, m4, m5, m6, m7⟩, f0, f1, f2, f3, f4, f5, f6, f7⟩ := tx_obj b1; obtain ⟨⟨u0, u1, u2, u3, u4, u5, u6, u7⟩, -⟩ := tx_obj b2; have S2 : Hid _ := s2; have K3 : Hid (Same (fun k => k = rb) w w2) := (Kept.to KA.out _).trans' k3; have B1 : Hid _ := b1; clear s2 k2 k3 b1 b2)
          all_goals go_wp2_with fail
          all_goals refine bodyPost_ret (res_ctt (a := 2) (t := 37) (u := 3) (s := 4) rfl rfl (loadVar_tx (put8_at B1.out _ _ _ _ _ _ _ _))) rfl ?_
          all_goals rw [next_at H0.out HP.out (MG.out.trans ((mg_step HX.out HY.out).trans (if_neg HYX.out))), stop_ne _ _ _ (by decide)]
          all_goals exact rs_none0 K3.out hlt S2.out hd.out _ (put8_same _ _ _ _ _ _ _ _ _ _)
    · obtain rfl : k = 4 := by omega
      clear hk hk4
      have hs4 : Same (fun k => k = rb) wr (wr.setCell ⟨rb, 2, none⟩ (.int .i64 4)) := Same.setCell (S := fun k => k = rb) (Same.refl _ wr) _ (.inr rfl) _
      have r4 : Rs (wr.setCell ⟨rb, 2, none⟩ (.int .i64 4)) rb oa c d en { s with pl := 4 } := (HR.out _ KW.out).turn hs4 (setCell_at (HR.out _ KW.out).obj 2 _) HKR.out H.out.cts
      have HEN : Hid _ := rentry_any r4 H0.out
      have z1 := (hs4.block _ (lt_of_heap X1.out) hne).trans X1.out
      have Z1 : Hid _ := z1
      have S4 : Hid _ := hs4
      clear hs4 r4 z1
      go_wp2_with fail
      refine Calls.mono HEN.out ?_
      rintro x w2 ⟨tv, rfl, n2, r2, k2⟩
      obtain ⟨u, ua, un, uc, rfl⟩ := n2.agg
      have b1 := (k2.block _ (lt_of_heap Z1.out) hne).trans Z1.out
      obtain ⟨⟨m0, m1, m2, m3, m4, m5, m6, m7⟩, f0, f1, f2, f3, f4, f5, f6, f7⟩ := tx_obj b1
      have hb1 := lt_of_heap b1
      have B1 : Hid _ := b1
      have N2 : Hid (NxV (w.heap.size + 1) w2 (entry d en { s with pl := 4 }).1 (.agg #[.int .i64 u.f0, .int .i64 u.f1, .int .i64 u.f2, .int .i64 u.f3, .int .i64 u.f4, .int .i64 u.f5, .int .i64 u.f6, .slice ua un uc])) := NxV.lower n2 (lt_of_heap Z1.out)
      have R2 : Hid _ := r2
      have K2 : Hid (Same (fun k => k = rb) w w2) := ((Kept.to (KA.out.trans' KW.out) _).trans' S4.out).trans' k2
      clear b1 n2 r2 k2
      go_wp2_with fail
      refine bodyPost_ret (res_ctt (a := 2) (t := 37) (u := 3) (s := 4) rfl rfl (loadVar_tx (put8_at B1.out _ _ _ _ _ _ _ _))) rfl ?_
      have q8 := put8_same w2 w.heap.size (.int .i64 u.f0) (.int .i64 u.f1) (.int .i64 u.f2) (.int .i64 u.f3) (.int .i64 u.f4) (.int .i64 u.f5) (.int .i64 u.f6) (.slice ua un uc)
      rw [next_on H0.out HP.out MG.out, go_entry (s := { s with pl := 4 }) HF.out]
      exact ⟨_, rfl, NxV.lower (NxV.kept N2.out q8 (fun k hk (e : k = w.heap.size) => by omega)) (Nat.le_succ _), R2.out.past q8 (fun e => hne e.symm) hd.out, K2.out.trans q8 (fun i hi e => absurd hi (by rw [e]; exact Nat.lt_irrefl _))⟩
/-- Next of the document's scanner. -/
theorem rnext_any (h : Rs w rb oa c d en s) (hf : s.pl = 0 → s.ft = false) : Calls Try.prog 9 #[.pointer (some ⟨rb, 0, none⟩)] w fun x w' => RsR w rb oa c d en (next7 d en s) x w' := by
  by_cases h0 : s.er = 0
  · by_cases hp : s.pl = 0
    · exact rnext_head h h0 hp (hf hp)
    · rw [next_go h0 hp]
      exact rnext_go h h0 hp
  · have e : next7 d en s = (none, s) := by unfold next7; rw [if_pos h0]
    rw [e]
    exact rnext_er h h0
end
end Go.Proofs.Ytmajfclkhjnahaa
