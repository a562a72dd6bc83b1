/- What is proved: the law LosersMemory answers true and leaves all that was there as it was: what Merge and Waiting answer is memory of their own; the list is one that memory can hold. -/
import Derived.Test.YtolaeiagfnhllaaTMeA
import Derived.Test.YtolaeiagfnhllaaNPln
namespace Go.Proofs.Ytolaeiagfnhllaa
open Go.RowKit

theorem neq_row3 (r : RwM) (w : World) : (binOp .neq 32 (rowV r) (rowV r)).run Try.prog w = .ok (.bool false) w := by
  obtain ⟨kind, time, seq, index, frm, til, body⟩ := r
  unfold rowV
  go_simp
set_option maxRecDepth 100000 in
set_option maxHeartbeats 4000000 in
theorem memory_law (w : World) (a : Option Addr) (cap : Nat) (l : List RwM) (h : ArgR w a cap l) : Calls Try.prog 8 #[.slice a l.length cap] w fun e w' => e = .returned (.bool true) ∧ Kept w w' := by
  have HA : Hid (∀ W, _) := anchor11_any
  have HR : Hid _ := h
  obtain ⟨n, en⟩ : ∃ n, n = l.length := ⟨_, rfl⟩
  rw [← en]
  by_cases hn : n < 1 ∨ 60 < n
  · have hn2 : n ≤ 2199023255552 := by rw [en]; have := h.len; omega
    clear h en
    rcases hn with hn | hn
    · have d1 : (n : Int) < 1 := by omega
      have d2 : decide ((n : Int) < 1) = true := decide_eq_true d1
      go_enter Try.func8, Try.ntmps8
      go_wp2_with fail
      refine Calls.mono (HA.out _) ?_
      rintro e w1 ⟨rfl, k1⟩
      have K1 : Hid _ := k1
      clear k1
      go_wp2_with fail
      go_ret
      exact ⟨rfl, K1.out⟩
    · have d1 : ¬ (n : Int) < 1 := by omega
      have d2 : decide ((n : Int) < 1) = false := decide_eq_false d1
      have d3 : (60 : Int) < (n : Int) := by omega
      have d4 : decide ((60 : Int) < (n : Int)) = true := decide_eq_true d3
      go_enter Try.func8, Try.ntmps8
      go_wp2_with fail
      refine Calls.mono (HA.out _) ?_
      rintro e w1 ⟨rfl, k1⟩
      have K1 : Hid _ := k1
      clear k1
      go_wp2_with fail
      go_ret
      exact ⟨rfl, K1.out⟩
  have d1 : ¬ (n : Int) < 1 := by omega
  have d3 : ¬ (60 : Int) < (n : Int) := by omega
  have hn0 : 1 ≤ n := by omega
  have hn6 : n ≤ 60 := by omega
  have HV : Hid (∀ r W, _) := validR9_any
  have HP : Hid (∀ k t s i f u y W, _) := plain_f
  have HB : Hid (∀ x y W, _) := before_any 1
  have EN : Hid _ := en
  have HF0 : Hid (lookF 1 none l = lookF 1 (prv l 0) (l.drop 0)) := rfl
  clear h en hn
  go_enter Try.func8, Try.ntmps8
  go_wp2_with fail
  refine Calls.mono (HA.out _) ?_
  rintro e w1 ⟨rfl, k1⟩
  have K1 : Hid _ := k1
  clear k1 HA
  go_wp2_with fail
  go_loopw [35] (fun i wr => ∃ q : Nat, q ≤ n ∧ i = .int .i64 (q : Int) ∧ lookF 1 none l = lookF 1 (prv l q) (l.drop q) ∧ Kept w wr) (fun i _ => n - (intOf i).toNat)
  case atStart => exact ⟨0, Nat.zero_le _, rfl, HF0.out, K1.out⟩
  case round =>
    clear HF0 K1
    obtain ⟨q, hq, rfl, hf, kk⟩ := hrel
    by_cases hlt : q < n
    · have e1 : decide ((q : Int) < (n : Int)) = true := decide_eq_true (by omega)
      have e1' : (q : Int) < (n : Int) := by omega
      have HQ : Hid _ := hlt
      obtain ⟨r, hl⟩ : ∃ r, l[q]? = some r := ⟨_, List.getElem?_eq_getElem (by rw [← EN.out]; exact hlt)⟩
      obtain ⟨g, off, ea, hg, c0, c1, c2, c3, c4, c5, c6⟩ := (RowsAt.on HR.out.rows kk) q r hl
      subst ea
      have hd : l.drop q = r :: l.drop (q + 1) := by
        rw [List.drop_eq_getElem_cons (by rw [← EN.out]; exact hlt)]
        rw [(List.getElem?_eq_some_iff.1 hl).2]
      rw [hd] at hf
      obtain ⟨wb, ewb⟩ : ∃ wb, wb = wr.alloc (.cells #[.int .i64 r.kind, .int .i64 r.time, .int .i64 r.seq, .int .i64 r.index, .int .i64 r.frm, .int .i64 r.til, .string r.body] 32) := ⟨_, rfl⟩
      have hbx : wb.heap[wr.heap.size]? = some (.cells #[.int .i64 r.kind, .int .i64 r.time, .int .i64 r.seq, .int .i64 r.index, .int .i64 r.frm, .int .i64 r.til, .string r.body] 32 (0, 0)) := by rw [ewb]; exact heap_new wr _
      have kb : Kept wr wb := by rw [ewb]; exact (Same.refl _ wr).alloc _
      have KB : Hid _ := kk.trans' kb
      have HPL : Hid (∀ k t s i f u y W, Kept wb W → Calls _ _ _ _ fun e w' => _ ∧ Kept wb w') := fun k t s i f u y W (kw : Kept wb W) => Calls.mono (HP.out k t s i f u y W) fun e w' hh => ⟨hh.1, kw.trans' hh.2⟩
      have HVr : Hid (∀ W, Kept wb W → Calls _ _ _ _ fun e w' => _ ∧ Kept wb w') := fun W (kw : Kept wb W) => Calls.mono (HV.out r W) fun e w' hh => ⟨hh.1, kw.trans' hh.2⟩
      obtain ⟨⟨y0, y1, y2, y3, y4, y5, y6⟩, -⟩ := row_obj hbx
      have hh := lt_of_heap hbx
      by_cases hv : rightR r
      · rw [decide_eq_true hv] at HVr
        by_cases hq0 : q = 0
        · have HF : Hid (lookF 1 none l = lookF 1 (prv l (q + 1)) (l.drop (q + 1))) := by
            have h1 : prv l (q + 1) = some r := hl
            have h2 : prv l q = none := by rw [hq0]; rfl
            rw [h1, hf, h2]
            show lookF 1 none (r :: _) = _
            rw [lookF, if_pos hv]
          have z1 : ¬ (0 : Int) < (q : Int) := by omega
          have z2 : decide ((0 : Int) < (q : Int)) = false := decide_eq_false z1
          have z3 : ¬ 0 < q := by omega
          have z4 : decide (0 < q) = false := decide_eq_false z3
          clear hq0
          have HT : Hid (∀ W, Kept wb W → Kept wb W ∧ W.cell? ⟨wr.heap.size, 0, none⟩ = some (.int .i64 r.kind) ∧ W.cell? ⟨wr.heap.size, 1, none⟩ = some (.int .i64 r.time) ∧ W.cell? ⟨wr.heap.size, 2, none⟩ = some (.int .i64 r.seq) ∧ W.cell? ⟨wr.heap.size, 3, none⟩ = some (.int .i64 r.index) ∧ W.cell? ⟨wr.heap.size, 4, none⟩ = some (.int .i64 r.frm) ∧ W.cell? ⟨wr.heap.size, 5, none⟩ = some (.int .i64 r.til) ∧ W.cell? ⟨wr.heap.size, 6, none⟩ = some (.string r.body)) := fun W k => by
            have t : ∀ o, W.cell? ⟨wr.heap.size, o, none⟩ = wb.cell? ⟨wr.heap.size, o, none⟩ := fun o => k.cell (p := ⟨wr.heap.size, o, none⟩) hh (fun e => e)
            exact ⟨k, (t _).trans y0, (t _).trans y1, (t _).trans y2, (t _).trans y3, (t _).trans y4, (t _).trans y5, (t _).trans y6⟩
          clear hf hd kk hl hv HV HP HB hq hg hbx kb hh
          obtain ⟨akind, atime, aseq, aindex, afrm, atil, abody⟩ := r
          unfold rowV at HVr
          simp only at *
          go_wp2_with fail
          rw [← ewb]
          generalize wr.heap.size = h at *
          clear ewb
          refine wp_region_held_drew (S := fun W => Kept wb W ∧ W.cell? ⟨h, 0, none⟩ = some (.int .i64 akind) ∧ W.cell? ⟨h, 1, none⟩ = some (.int .i64 atime) ∧ W.cell? ⟨h, 2, none⟩ = some (.int .i64 aseq) ∧ W.cell? ⟨h, 3, none⟩ = some (.int .i64 aindex) ∧ W.cell? ⟨h, 4, none⟩ = some (.int .i64 afrm) ∧ W.cell? ⟨h, 5, none⟩ = some (.int .i64 atil) ∧ W.cell? ⟨h, 6, none⟩ = some (.string abody)) (by kernel_rfl) (HT.out _ (by (repeat (first | assumption | exact Same.refl _ _ | apply Same.alloc | apply Same.drew | apply Same.drewN)); done)) (fun hHeld0 => ?_)
          refine wpAnyH_take (i := 0) (v := (.agg #[.int .i64 akind, .int .i64 atime, .int .i64 aseq, .int .i64 aindex, .int .i64 afrm, .int .i64 atil, .string abody])) rfl (by kernel_rfl) (by kernel_rfl) (by kernel_rfl) (fun _ _ _ h => h) (Or.inl ⟨by rfl, fun w hSw => by (dsimp only at hSw; go_simp)⟩) (by assumption) ?_
          (try simp only [Act.put, List.getElem_toArray, List.getElem_cons_zero, List.setIfInBounds_toArray, List.set_cons_zero, List.set_cons_succ])
          refine wpAnyH_ready (rs := [1]) (by kernel_rfl) (by simp) (AllReadyH.cons rfl (fun K hK => ?_) AllReadyH.nil)
          go_simp
          refine Calls.mono (HPL.out _ _ _ _ _ _ _ _ (by (repeat (first | assumption | exact Same.refl _ _ | apply Same.alloc | apply Same.drew | apply Same.drewN)); done)) ?_
          rintro e w5 ⟨rfl, k5⟩
          go_wp2_with fail
          refine hK.out _ _ (HT.out _ k5) (fun hHeld1 => ?_)
          clear hK K hHeld0
          (try simp only [Act.put, List.getElem_toArray, List.getElem_cons_zero, List.getElem_cons_succ, List.setIfInBounds_toArray, List.set_cons_zero, List.set_cons_succ])
          refine wpAnyH_ready (rs := [2]) (by kernel_rfl) (by simp) (AllReadyH.cons rfl (fun K hK => ?_) AllReadyH.nil)
          go_simp
          refine Calls.mono (HVr.out _ k5) ?_
          rintro e w6 ⟨rfl, k6⟩
          go_wp2_with fail
          refine hK.out _ _ (HT.out _ k6) (fun hHeld2 => ?_)
          clear hK K hHeld1
          (try simp only [Act.put, List.getElem_toArray, List.getElem_cons_zero, List.getElem_cons_succ, List.setIfInBounds_toArray, List.set_cons_zero, List.set_cons_succ])
          refine wpAnyH_take (i := 3) (v := .bool false) rfl (by kernel_rfl) (by kernel_rfl) (by kernel_rfl) (fun _ _ _ h => h) (Or.inl ⟨by rfl, fun w hSw => by (dsimp only at hSw; go_simp)⟩) (by assumption) ?_
          (try simp only [Act.put, List.getElem_toArray, List.getElem_cons_zero, List.getElem_cons_succ, List.setIfInBounds_toArray, List.set_cons_zero, List.set_cons_succ])
          refine wpAnyH_take (i := 4) (v := .bool false) rfl (by kernel_rfl) (by kernel_rfl) (by kernel_rfl) (fun _ _ _ h => h) (Or.inl ⟨by rfl, fun w hSw => by (dsimp only at hSw; go_simp)⟩) (by assumption) ?_
          (try simp only [Act.put, List.getElem_toArray, List.getElem_cons_zero, List.getElem_cons_succ, List.setIfInBounds_toArray, List.set_cons_zero, List.set_cons_succ])
          refine wpAnyH_take (i := 5) (v := .int .i64 (q : Int)) rfl (by kernel_rfl) (by kernel_rfl) (by kernel_rfl) (fun _ _ _ h => h) (Or.inl ⟨by rfl, fun w hSw => by (dsimp only at hSw; go_simp)⟩) (by assumption) ?_
          (try simp only [Act.put, List.getElem_toArray, List.getElem_cons_zero, List.getElem_cons_succ, List.setIfInBounds_toArray, List.set_cons_zero, List.set_cons_succ])
          refine wpAnyH_take (i := 6) (v := .bool false) rfl (by kernel_rfl) (by kernel_rfl) (by kernel_rfl) (fun _ _ _ h => h) (Or.inl ⟨by rfl, fun w hSw => by (dsimp only at hSw; go_simp)⟩) (by assumption) ?_
          (try simp only [Act.put, List.getElem_toArray, List.getElem_cons_zero, List.getElem_cons_succ, List.setIfInBounds_toArray, List.set_cons_zero, List.set_cons_succ])
          refine wpAnyH_take (i := 7) (v := .bool false) rfl (by kernel_rfl) (by kernel_rfl) (by kernel_rfl) (fun _ _ _ h => h) (Or.inl ⟨by rfl, fun w hSw => by (dsimp only at hSw; go_simp)⟩) (by assumption) ?_
          (try simp only [Act.put, List.getElem_toArray, List.getElem_cons_zero, List.getElem_cons_succ, List.setIfInBounds_toArray, List.set_cons_zero, List.set_cons_succ])
          refine wpAnyH_take (i := 8) (v := undef) rfl (by kernel_rfl) (by kernel_rfl) (by kernel_rfl) (fun _ _ _ h => h) (Or.inr ⟨by rfl, rfl⟩) (by assumption) ?_
          (try simp only [Act.put, List.getElem_toArray, List.getElem_cons_zero, List.getElem_cons_succ, List.setIfInBounds_toArray, List.set_cons_zero, List.set_cons_succ])
          refine wpAnyH_take (i := 9) (v := undef) rfl (by kernel_rfl) (by kernel_rfl) (by kernel_rfl) (fun _ _ _ h => h) (Or.inr ⟨by rfl, rfl⟩) (by assumption) ?_
          (try simp only [Act.put, List.getElem_toArray, List.getElem_cons_zero, List.getElem_cons_succ, List.setIfInBounds_toArray, List.set_cons_zero, List.set_cons_succ])
          refine wpAnyH_take (i := 10) (v := undef) rfl (by kernel_rfl) (by kernel_rfl) (by kernel_rfl) (fun _ _ _ h => h) (Or.inr ⟨by rfl, rfl⟩) (by assumption) ?_
          (try simp only [Act.put, List.getElem_toArray, List.getElem_cons_zero, List.getElem_cons_succ, List.setIfInBounds_toArray, List.set_cons_zero, List.set_cons_succ])
          refine wpAnyH_take (i := 11) (v := undef) rfl (by kernel_rfl) (by kernel_rfl) (by kernel_rfl) (fun _ _ _ h => h) (Or.inr ⟨by rfl, rfl⟩) (by assumption) ?_
          (try simp only [Act.put, List.getElem_toArray, List.getElem_cons_zero, List.getElem_cons_succ, List.setIfInBounds_toArray, List.set_cons_zero, List.set_cons_succ])
          refine wpAnyH_take (i := 12) (v := undef) rfl (by kernel_rfl) (by kernel_rfl) (by kernel_rfl) (fun _ _ _ h => h) (Or.inr ⟨by rfl, rfl⟩) (by assumption) ?_
          (try simp only [Act.put, List.getElem_toArray, List.getElem_cons_zero, List.getElem_cons_succ, List.setIfInBounds_toArray, List.set_cons_zero, List.set_cons_succ])
          refine wpAnyH_take (i := 13) (v := undef) rfl (by kernel_rfl) (by kernel_rfl) (by kernel_rfl) (fun _ _ _ h => h) (Or.inr ⟨by rfl, rfl⟩) (by assumption) ?_
          (try simp only [Act.put, List.getElem_toArray, List.getElem_cons_zero, List.getElem_cons_succ, List.setIfInBounds_toArray, List.set_cons_zero, List.set_cons_succ])
          refine wpAnyH_take (i := 14) (v := undef) rfl (by kernel_rfl) (by kernel_rfl) (by kernel_rfl) (fun _ _ _ h => h) (Or.inr ⟨by rfl, rfl⟩) (by assumption) ?_
          (try simp only [Act.put, List.getElem_toArray, List.getElem_cons_zero, List.getElem_cons_succ, List.setIfInBounds_toArray, List.set_cons_zero, List.set_cons_succ])
          refine wpAnyH_take (i := 15) (v := undef) rfl (by kernel_rfl) (by kernel_rfl) (by kernel_rfl) (fun _ _ _ h => h) (Or.inr ⟨by rfl, rfl⟩) (by assumption) ?_
          (try simp only [Act.put, List.getElem_toArray, List.getElem_cons_zero, List.getElem_cons_succ, List.setIfInBounds_toArray, List.set_cons_zero, List.set_cons_succ])
          refine wpAnyH_take (i := 16) (v := undef) rfl (by kernel_rfl) (by kernel_rfl) (by kernel_rfl) (fun _ _ _ h => h) (Or.inr ⟨by rfl, rfl⟩) (by assumption) ?_
          (try simp only [Act.put, List.getElem_toArray, List.getElem_cons_zero, List.getElem_cons_succ, List.setIfInBounds_toArray, List.set_cons_zero, List.set_cons_succ])
          refine wpAnyH_take (i := 17) (v := .bool false) rfl (by kernel_rfl) (by kernel_rfl) (by kernel_rfl) (fun _ _ _ h => h) (Or.inl ⟨by rfl, fun w hSw => by (dsimp only at hSw; go_simp)⟩) (by assumption) ?_
          (try simp only [Act.put, List.getElem_toArray, List.getElem_cons_zero, List.getElem_cons_succ, List.setIfInBounds_toArray, List.set_cons_zero, List.set_cons_succ])
          refine wpAnyH_take (i := 18) (v := .bool false) rfl (by kernel_rfl) (by kernel_rfl) (by kernel_rfl) (fun _ _ _ h => h) (Or.inl ⟨by rfl, fun w hSw => by (dsimp only at hSw; go_simp)⟩) (by assumption) ?_
          (try simp only [Act.put, List.getElem_toArray, List.getElem_cons_zero, List.getElem_cons_succ, List.setIfInBounds_toArray, List.set_cons_zero, List.set_cons_succ])
          refine wpAnyH_done (by kernel_rfl) ?_ _
          all_goals
            have KF : Hid (Kept w _) := KB.out.trans' k6
            clear k5 k6
            go_wp2_with fail
            go_roundw
            case rel => exact ⟨q + 1, HQ.out, by rw [Int.natCast_add]; rfl, HF.out, by first | exact KF.out | exact Same.drew KF.out | exact Same.drewN KF.out _⟩
            case measure => simp only [intOf]; omega
        · obtain ⟨p, rfl⟩ : ∃ p, q = p + 1 := ⟨q - 1, by omega⟩
          obtain ⟨x, hx⟩ : ∃ x, l[p]? = some x := ⟨_, List.getElem?_eq_getElem (by rw [← EN.out]; omega)⟩
          obtain ⟨g', off', eb, hg', x0, x1, x2, x3, x4, x5, x6⟩ := (RowsAt.on HR.out.rows (kk.trans' kb)) p x hx
          cases eb
          have hpx : prv l (p + 1) = some x := hx
          rw [hpx] at hf
          have HBF : Hid (∀ W, Kept wb W → Calls _ _ _ _ fun e w' => _ ∧ Kept wb w') := fun W (kw : Kept wb W) => Calls.mono (HB.out r x W) fun e w' hh => ⟨hh.1, kw.trans' hh.2⟩
          have HF : Hid (lookF 1 none l = if bef 1 r x = true then 115 else lookF 1 (prv l (p + 1 + 1)) (l.drop (p + 1 + 1))) := by
            have : prv l (p + 1 + 1) = some r := hl
            rw [this, hf]
            show lookF 1 (some x) (r :: _) = _
            rw [lookF, if_pos hv]
          obtain ⟨h, eh⟩ : ∃ h, h = wr.heap.size := ⟨_, rfl⟩
          have EH : Hid _ := eh
          rw [← eh] at y0 y1 y2 y3 y4 y5 y6 hh
          clear hf hd hl hv HV HP HB hq hx hpx kk kb hbx hg hq0
          obtain ⟨akind, atime, aseq, aindex, afrm, atil, abody⟩ := r
          obtain ⟨bkind, btime, bseq, bindex, bfrm, btil, bbody⟩ := x
          unfold rowV at HVr HBF
          simp only at *
          have HT : Hid (∀ W, Kept wb W → Kept wb W ∧ W.cell? ⟨h, 0, none⟩ = some (.int .i64 akind) ∧ W.cell? ⟨h, 1, none⟩ = some (.int .i64 atime) ∧ W.cell? ⟨h, 2, none⟩ = some (.int .i64 aseq) ∧ W.cell? ⟨h, 3, none⟩ = some (.int .i64 aindex) ∧ W.cell? ⟨h, 4, none⟩ = some (.int .i64 afrm) ∧ W.cell? ⟨h, 5, none⟩ = some (.int .i64 atil) ∧ W.cell? ⟨h, 6, none⟩ = some (.string abody) ∧ W.cell? ⟨g, off + p * 7, none⟩ = some (.int .i64 bkind) ∧ W.cell? ⟨g, off + p * 7 + 1, none⟩ = some (.int .i64 btime) ∧ W.cell? ⟨g, off + p * 7 + 2, none⟩ = some (.int .i64 bseq) ∧ W.cell? ⟨g, off + p * 7 + 3, none⟩ = some (.int .i64 bindex) ∧ W.cell? ⟨g, off + p * 7 + 4, none⟩ = some (.int .i64 bfrm) ∧ W.cell? ⟨g, off + p * 7 + 5, none⟩ = some (.int .i64 btil) ∧ W.cell? ⟨g, off + p * 7 + 6, none⟩ = some (.string bbody)) := fun W k => by
            have t : ∀ o, W.cell? ⟨h, o, none⟩ = wb.cell? ⟨h, o, none⟩ := fun o => k.cell (p := ⟨h, o, none⟩) hh (fun e => e)
            have t2 : ∀ o, W.cell? ⟨g, o, none⟩ = wb.cell? ⟨g, o, none⟩ := fun o => k.cell (p := ⟨g, o, none⟩) hg' (fun e => e)
            exact ⟨k, (t _).trans y0, (t _).trans y1, (t _).trans y2, (t _).trans y3, (t _).trans y4, (t _).trans y5, (t _).trans y6, (t2 _).trans x0, (t2 _).trans x1, (t2 _).trans x2, (t2 _).trans x3, (t2 _).trans x4, (t2 _).trans x5, (t2 _).trans x6⟩
          rw [Int.natCast_add, Int.natCast_one] at *
          have e2 : decide ((0 : Int) < (p : Int) + 1) = true := decide_eq_true (by omega)
          have e2' : (0 : Int) < (p : Int) + 1 := by omega
          have hw1 : IntKind.i64.wrap ((p : Int) + 1 - 1) = (p : Int) := by rw [IntKind.wrap_i64]; omega
          have hw2 : IntKind.i64.wrap (p : Int) = (p : Int) := by rw [IntKind.wrap_i64]; omega
          have p1 : (p : Int) < (n : Int) := by omega
          have p5 : p + 1 < n := by omega
          have p6 : (0 : Int) ≤ (p : Int) + 1 := by omega
          have hN : ((p : Int) + 1).toNat = p + 1 := by omega
          have p3 : (0 : Int) ≤ (p : Int) := by omega
          have p4 : p < n := by omega
          clear x0 x1 x2 x3 x4 x5 x6 y0 y1 y2 y3 y4 y5 y6 hh hg' eh
          go_wp2_with fail
          rw [← ewb, ← EH.out]
          clear ewb EH
          generalize bef 1 _ _ = bb at HF HBF
          go_region_held3 (fun W => Kept wb W ∧ W.cell? ⟨h, 0, none⟩ = some (.int .i64 akind) ∧ W.cell? ⟨h, 1, none⟩ = some (.int .i64 atime) ∧ W.cell? ⟨h, 2, none⟩ = some (.int .i64 aseq) ∧ W.cell? ⟨h, 3, none⟩ = some (.int .i64 aindex) ∧ W.cell? ⟨h, 4, none⟩ = some (.int .i64 afrm) ∧ W.cell? ⟨h, 5, none⟩ = some (.int .i64 atil) ∧ W.cell? ⟨h, 6, none⟩ = some (.string abody) ∧ W.cell? ⟨g, off + p * 7, none⟩ = some (.int .i64 bkind) ∧ W.cell? ⟨g, off + p * 7 + 1, none⟩ = some (.int .i64 btime) ∧ W.cell? ⟨g, off + p * 7 + 2, none⟩ = some (.int .i64 bseq) ∧ W.cell? ⟨g, off + p * 7 + 3, none⟩ = some (.int .i64 bindex) ∧ W.cell? ⟨g, off + p * 7 + 4, none⟩ = some (.int .i64 bfrm) ∧ W.cell? ⟨g, off + p * 7 + 5, none⟩ = some (.int .i64 btil) ∧ W.cell? ⟨g, off + p * 7 + 6, none⟩ = some (.string bbody))
            (exact HT.out _ (by (repeat (first | assumption | exact Same.refl _ _ | apply Same.alloc | apply Same.drew | apply Same.drewN)); done))
            ((first
            | (go_at_call 13; refine Calls.mono (HPL.out _ _ _ _ _ _ _ _ (by (repeat (first | assumption | exact Same.refl _ _ | apply Same.alloc | apply Same.drew | apply Same.drewN)); done)) ?_; rintro e w5 ⟨rfl, k5⟩)
            | (go_at_call 17; refine Calls.mono (HVr.out _ (by (repeat (first | assumption | exact Same.refl _ _ | apply Same.alloc | apply Same.drew | apply Same.drewN)); done)) ?_; rintro e w6 ⟨rfl, k6⟩)
            | (go_at_call 22; refine Calls.mono (HBF.out _ (by (repeat (first | assumption | exact Same.refl _ _ | apply Same.alloc | apply Same.drew | apply Same.drewN)); done)) ?_; rintro e w7 ⟨rfl, k7⟩)))
          all_goals
            have KF : Hid (Kept w _) := KB.out.trans' k7
            clear k5 k6 k7
            cases bb with
            | true =>
              go_wp2_with fail
              go_ret
              exact ⟨rfl, by first | exact KF.out | exact Same.drew KF.out | exact Same.drewN KF.out _⟩
            | false =>
              rw [if_neg (by decide)] at HF
              go_wp2_with fail
              go_roundw
              case rel => exact ⟨p + 1 + 1, HQ.out, by rw [Int.natCast_add]; rfl, HF.out, by first | exact KF.out | exact Same.drew KF.out | exact Same.drewN KF.out _⟩
              case measure => simp only [intOf]; omega
      · rw [decide_eq_false hv] at HVr
        have HT : Hid (∀ W, Kept wb W → Kept wb W ∧ W.cell? ⟨wr.heap.size, 0, none⟩ = some (.int .i64 r.kind) ∧ W.cell? ⟨wr.heap.size, 1, none⟩ = some (.int .i64 r.time) ∧ W.cell? ⟨wr.heap.size, 2, none⟩ = some (.int .i64 r.seq) ∧ W.cell? ⟨wr.heap.size, 3, none⟩ = some (.int .i64 r.index) ∧ W.cell? ⟨wr.heap.size, 4, none⟩ = some (.int .i64 r.frm) ∧ W.cell? ⟨wr.heap.size, 5, none⟩ = some (.int .i64 r.til) ∧ W.cell? ⟨wr.heap.size, 6, none⟩ = some (.string r.body)) := fun W k => by
          have t : ∀ o, W.cell? ⟨wr.heap.size, o, none⟩ = wb.cell? ⟨wr.heap.size, o, none⟩ := fun o => k.cell (p := ⟨wr.heap.size, o, none⟩) hh (fun e => e)
          exact ⟨k, (t _).trans y0, (t _).trans y1, (t _).trans y2, (t _).trans y3, (t _).trans y4, (t _).trans y5, (t _).trans y6⟩
        clear hf hd kk hl hv HV HP HB hq hg hbx kb hh
        obtain ⟨akind, atime, aseq, aindex, afrm, atil, abody⟩ := r
        unfold rowV at HVr
        simp only at *
        go_wp2_with fail
        rw [← ewb]
        generalize wr.heap.size = h at *
        clear ewb
        refine wp_region_held_drew (S := fun W => Kept wb W ∧ W.cell? ⟨h, 0, none⟩ = some (.int .i64 akind) ∧ W.cell? ⟨h, 1, none⟩ = some (.int .i64 atime) ∧ W.cell? ⟨h, 2, none⟩ = some (.int .i64 aseq) ∧ W.cell? ⟨h, 3, none⟩ = some (.int .i64 aindex) ∧ W.cell? ⟨h, 4, none⟩ = some (.int .i64 afrm) ∧ W.cell? ⟨h, 5, none⟩ = some (.int .i64 atil) ∧ W.cell? ⟨h, 6, none⟩ = some (.string abody)) (by kernel_rfl) (HT.out _ (by (repeat (first | assumption | exact Same.refl _ _ | apply Same.alloc | apply Same.drew | apply Same.drewN)); done)) (fun hHeld0 => ?_)
        refine wpAnyH_take (i := 0) (v := (.agg #[.int .i64 akind, .int .i64 atime, .int .i64 aseq, .int .i64 aindex, .int .i64 afrm, .int .i64 atil, .string abody])) rfl (by kernel_rfl) (by kernel_rfl) (by kernel_rfl) (fun _ _ _ h => h) (Or.inl ⟨by rfl, fun w hSw => by (dsimp only at hSw; go_simp)⟩) (by assumption) ?_
        (try simp only [Act.put, List.getElem_toArray, List.getElem_cons_zero, List.setIfInBounds_toArray, List.set_cons_zero, List.set_cons_succ])
        refine wpAnyH_ready (rs := [1]) (by kernel_rfl) (by simp) (AllReadyH.cons rfl (fun K hK => ?_) AllReadyH.nil)
        go_simp
        refine Calls.mono (HPL.out _ _ _ _ _ _ _ _ (by (repeat (first | assumption | exact Same.refl _ _ | apply Same.alloc | apply Same.drew | apply Same.drewN)); done)) ?_
        rintro e w5 ⟨rfl, k5⟩
        go_wp2_with fail
        refine hK.out _ _ (HT.out _ k5) (fun hHeld1 => ?_)
        clear hK K hHeld0
        (try simp only [Act.put, List.getElem_toArray, List.getElem_cons_zero, List.getElem_cons_succ, List.setIfInBounds_toArray, List.set_cons_zero, List.set_cons_succ])
        refine wpAnyH_ready (rs := [2]) (by kernel_rfl) (by simp) (AllReadyH.cons rfl (fun K hK => ?_) AllReadyH.nil)
        go_simp
        refine Calls.mono (HVr.out _ k5) ?_
        rintro e w6 ⟨rfl, k6⟩
        go_wp2_with fail
        refine hK.out _ _ (HT.out _ k6) (fun hHeld2 => ?_)
        clear hK K hHeld1
        (try simp only [Act.put, List.getElem_toArray, List.getElem_cons_zero, List.getElem_cons_succ, List.setIfInBounds_toArray, List.set_cons_zero, List.set_cons_succ])
        refine wpAnyH_take (i := 3) (v := .bool true) rfl (by kernel_rfl) (by kernel_rfl) (by kernel_rfl) (fun _ _ _ h => h) (Or.inl ⟨by rfl, fun w hSw => by (dsimp only at hSw; go_simp)⟩) (by assumption) ?_
        (try simp only [Act.put, List.getElem_toArray, List.getElem_cons_zero, List.getElem_cons_succ, List.setIfInBounds_toArray, List.set_cons_zero, List.set_cons_succ])
        refine wpAnyH_take (i := 4) (v := .bool true) rfl (by kernel_rfl) (by kernel_rfl) (by kernel_rfl) (fun _ _ _ h => h) (Or.inl ⟨by rfl, fun w hSw => by (dsimp only at hSw; go_simp)⟩) (by assumption) ?_
        (try simp only [Act.put, List.getElem_toArray, List.getElem_cons_zero, List.getElem_cons_succ, List.setIfInBounds_toArray, List.set_cons_zero, List.set_cons_succ])
        refine wpAnyH_take (i := 5) (v := undef) rfl (by kernel_rfl) (by kernel_rfl) (by kernel_rfl) (fun _ _ _ h => h) (Or.inr ⟨by rfl, rfl⟩) (by assumption) ?_
        (try simp only [Act.put, List.getElem_toArray, List.getElem_cons_zero, List.getElem_cons_succ, List.setIfInBounds_toArray, List.set_cons_zero, List.set_cons_succ])
        refine wpAnyH_take (i := 6) (v := undef) rfl (by kernel_rfl) (by kernel_rfl) (by kernel_rfl) (fun _ _ _ h => h) (Or.inr ⟨by rfl, rfl⟩) (by assumption) ?_
        (try simp only [Act.put, List.getElem_toArray, List.getElem_cons_zero, List.getElem_cons_succ, List.setIfInBounds_toArray, List.set_cons_zero, List.set_cons_succ])
        refine wpAnyH_take (i := 7) (v := undef) rfl (by kernel_rfl) (by kernel_rfl) (by kernel_rfl) (fun _ _ _ h => h) (Or.inr ⟨by rfl, rfl⟩) (by assumption) ?_
        (try simp only [Act.put, List.getElem_toArray, List.getElem_cons_zero, List.getElem_cons_succ, List.setIfInBounds_toArray, List.set_cons_zero, List.set_cons_succ])
        refine wpAnyH_take (i := 8) (v := undef) rfl (by kernel_rfl) (by kernel_rfl) (by kernel_rfl) (fun _ _ _ h => h) (Or.inr ⟨by rfl, rfl⟩) (by assumption) ?_
        (try simp only [Act.put, List.getElem_toArray, List.getElem_cons_zero, List.getElem_cons_succ, List.setIfInBounds_toArray, List.set_cons_zero, List.set_cons_succ])
        refine wpAnyH_take (i := 9) (v := undef) rfl (by kernel_rfl) (by kernel_rfl) (by kernel_rfl) (fun _ _ _ h => h) (Or.inr ⟨by rfl, rfl⟩) (by assumption) ?_
        (try simp only [Act.put, List.getElem_toArray, List.getElem_cons_zero, List.getElem_cons_succ, List.setIfInBounds_toArray, List.set_cons_zero, List.set_cons_succ])
        refine wpAnyH_take (i := 10) (v := undef) rfl (by kernel_rfl) (by kernel_rfl) (by kernel_rfl) (fun _ _ _ h => h) (Or.inr ⟨by rfl, rfl⟩) (by assumption) ?_
        (try simp only [Act.put, List.getElem_toArray, List.getElem_cons_zero, List.getElem_cons_succ, List.setIfInBounds_toArray, List.set_cons_zero, List.set_cons_succ])
        refine wpAnyH_take (i := 11) (v := undef) rfl (by kernel_rfl) (by kernel_rfl) (by kernel_rfl) (fun _ _ _ h => h) (Or.inr ⟨by rfl, rfl⟩) (by assumption) ?_
        (try simp only [Act.put, List.getElem_toArray, List.getElem_cons_zero, List.getElem_cons_succ, List.setIfInBounds_toArray, List.set_cons_zero, List.set_cons_succ])
        refine wpAnyH_take (i := 12) (v := undef) rfl (by kernel_rfl) (by kernel_rfl) (by kernel_rfl) (fun _ _ _ h => h) (Or.inr ⟨by rfl, rfl⟩) (by assumption) ?_
        (try simp only [Act.put, List.getElem_toArray, List.getElem_cons_zero, List.getElem_cons_succ, List.setIfInBounds_toArray, List.set_cons_zero, List.set_cons_succ])
        refine wpAnyH_take (i := 13) (v := undef) rfl (by kernel_rfl) (by kernel_rfl) (by kernel_rfl) (fun _ _ _ h => h) (Or.inr ⟨by rfl, rfl⟩) (by assumption) ?_
        (try simp only [Act.put, List.getElem_toArray, List.getElem_cons_zero, List.getElem_cons_succ, List.setIfInBounds_toArray, List.set_cons_zero, List.set_cons_succ])
        refine wpAnyH_take (i := 14) (v := undef) rfl (by kernel_rfl) (by kernel_rfl) (by kernel_rfl) (fun _ _ _ h => h) (Or.inr ⟨by rfl, rfl⟩) (by assumption) ?_
        (try simp only [Act.put, List.getElem_toArray, List.getElem_cons_zero, List.getElem_cons_succ, List.setIfInBounds_toArray, List.set_cons_zero, List.set_cons_succ])
        refine wpAnyH_take (i := 15) (v := undef) rfl (by kernel_rfl) (by kernel_rfl) (by kernel_rfl) (fun _ _ _ h => h) (Or.inr ⟨by rfl, rfl⟩) (by assumption) ?_
        (try simp only [Act.put, List.getElem_toArray, List.getElem_cons_zero, List.getElem_cons_succ, List.setIfInBounds_toArray, List.set_cons_zero, List.set_cons_succ])
        refine wpAnyH_take (i := 16) (v := undef) rfl (by kernel_rfl) (by kernel_rfl) (by kernel_rfl) (fun _ _ _ h => h) (Or.inr ⟨by rfl, rfl⟩) (by assumption) ?_
        (try simp only [Act.put, List.getElem_toArray, List.getElem_cons_zero, List.getElem_cons_succ, List.setIfInBounds_toArray, List.set_cons_zero, List.set_cons_succ])
        refine wpAnyH_take (i := 17) (v := undef) rfl (by kernel_rfl) (by kernel_rfl) (by kernel_rfl) (fun _ _ _ h => h) (Or.inr ⟨by rfl, rfl⟩) (by assumption) ?_
        (try simp only [Act.put, List.getElem_toArray, List.getElem_cons_zero, List.getElem_cons_succ, List.setIfInBounds_toArray, List.set_cons_zero, List.set_cons_succ])
        refine wpAnyH_take (i := 18) (v := .bool true) rfl (by kernel_rfl) (by kernel_rfl) (by kernel_rfl) (fun _ _ _ h => h) (Or.inl ⟨by rfl, fun w hSw => by (dsimp only at hSw; go_simp)⟩) (by assumption) ?_
        (try simp only [Act.put, List.getElem_toArray, List.getElem_cons_zero, List.getElem_cons_succ, List.setIfInBounds_toArray, List.set_cons_zero, List.set_cons_succ])
        refine wpAnyH_done (by kernel_rfl) ?_ _
        all_goals
          have KF : Hid (Kept w _) := KB.out.trans' k6
          clear k5 k6
          go_wp2_with fail
          go_ret
          exact ⟨rfl, by first | exact KF.out | exact Same.drew KF.out | exact Same.drewN KF.out _⟩
    · obtain rfl : n = q := by omega
      have e1 : decide ((n : Int) < (n : Int)) = false := by simp
      have hlk : lookF 1 none l = 0 := by
        rw [hf, EN.out, List.drop_length]
        cases prv l l.length <;> rfl
      have hn2 : l.length ≤ 2199023255552 := by rw [← EN.out]; omega
      have h0 : 0 < l.length := by rw [← EN.out]; omega
      have HNEW : Hid (Calls _ _ _ _ _) := Tl.new (order := 1) (.inl rfl) (k := 5) (by decide) (by decide) kk
      have HMG : Hid (∀ (W : World) (T : Nat), ListsAt W (some ⟨T, 0, none⟩) [l] → _) := fun W T hT => merge_one (cT := 1) hT hlk h0 hn2 EN.out
      have HCP : Hid (∀ W : World, Kept w W → ∀ ty, _) := fun W (k : Kept w W) ty => copy_rows Try.underlying39 Try.infoRow (RowsAt.on HR.out.rows k) HR.out.nil hn2 ty
      rw [← EN.out] at HCP
      have HSM : Hid (∀ (base : Nat) (W : World) (v : Value), OwnR base W v l → ∃ g c, v = .slice (some ⟨g, 0, none⟩) n c ∧ base ≤ g ∧ g < W.heap.size) := fun base W v o => by
        obtain ⟨g, c, e, h1, h2⟩ := o.some_ h0
        rw [← EN.out] at e
        exact ⟨g, c, e, h1, h2⟩
      clear hlk hf hq hlt h0 hn2 HV HP HB kk
      go_wp2_with fail
      refine Calls.mono HNEW.out ?_
      rintro e w2 ⟨b, gs, gn, rfl, t2⟩
      have T2 : Hid _ := t2
      have HC1 : Hid (∀ ty, _) := HCP.out w2 t2.kept
      have HX : Hid (∀ (v3 : Value) (w3 : World), w3.ownsRow w2.heap.size 32 7 v3 n (rwc l) → Kept w2 w3 → ∃ gA cA, v3 = .slice (some ⟨gA, 0, none⟩) n cA ∧ RowsAt w3 (some ⟨gA, 0, none⟩) l ∧ gA < w3.heap.size ∧ Kept w2 w3) := fun v3 w3 o3 k3 => by
        rw [EN.out] at o3
        have o3' : OwnR w2.heap.size w3 v3 l := o3
        obtain ⟨gA, cA, rfl, h1, h2⟩ := HSM.out _ _ _ o3'
        obtain ⟨x, c, e, hr, -⟩ := o3'.rows
        simp only [Value.slice.injEq] at e
        rw [← e.1] at hr
        exact ⟨gA, cA, rfl, hr, h2, k3⟩
      clear t2 HNEW HCP
      go_wp2_with (at_builtin; refine wpList_app rfl (.tmp 70) (.tmp 71) 39 39 rfl (.slice (some ⟨w2.heap.size, 0, none⟩) 0 0) (.slice a n cap) rfl rfl _ HC1.out ?_; rintro v3 w3 ⟨o3, k3⟩; obtain ⟨gA, cA, rfl, R3⟩ := HX.out v3 w3 o3 k3; clear o3 k3)
      obtain ⟨W4, e4⟩ : ∃ W4, W4 = w3.alloc (.cells #[.slice (some ⟨gA, 0, none⟩) n cA] 39) := ⟨_, rfl⟩
      have L4 : Hid (ListsAt W4 (some ⟨w3.heap.size, 0, none⟩) [l] ∧ Kept w2 W4 ∧ gA < w3.heap.size ∧ w3.heap.size < W4.heap.size ∧ W4.cell? ⟨w3.heap.size, 0, none⟩ = some (.slice (some ⟨gA, 0, none⟩) n cA) ∧ RowsAt W4 (some ⟨gA, 0, none⟩) l) := by
        have hc := heap_new w3 (.cells #[.slice (some ⟨gA, 0, none⟩) n cA] 39)
        have k34 : Kept w3 (w3.alloc (.cells #[.slice (some ⟨gA, 0, none⟩) n cA] 39)) := (Same.refl _ w3).alloc _
        have l4 := one_list (c := cA) R3.1
        rw [← EN.out] at l4
        rw [e4]
        exact ⟨l4, R3.2.2.trans' k34, R3.2.1, lt_of_heap hc, (cell_of hc 0).trans rfl, R3.1.on k34⟩
      rw [← e4]
      generalize w3.heap.size = T at *
      clear e4 R3 HX HC1
      refine Calls.mono (HMG.out W4 T L4.out.1) ?_
      rintro e w5 ⟨ga, ca, rfl, ga0, o5, k5⟩
      have Q5 : Hid _ := (⟨ga0, o5, k5⟩ : _ ∧ _ ∧ _)
      have HM2 : Hid _ := HMG.out w5 T (L4.out.1.on k5)
      clear ga0 o5 k5 HMG
      go_wp2_with fail
      refine Calls.mono HM2.out ?_
      rintro e w6 ⟨gb, cb, rfl, gb0, o6, k6⟩
      have Q6 : Hid _ := (⟨gb0, o6, k6⟩ : _ ∧ _ ∧ _)
      have HW1 : Hid (Calls _ _ _ _ _) := waits_five T2.out (L4.out.2.1.trans' (Q5.out.2.2.trans' k6))
      clear gb0 o6 k6 HM2
      go_wp2_with fail
      refine Calls.mono HW1.out ?_
      rintro e w7 ⟨gv, cv, rfl, gv0, o7, k7⟩
      have Q7 : Hid _ := (⟨gv0, o7, k7⟩ : _ ∧ _ ∧ _)
      have HW2 : Hid (Calls _ _ _ _ _) := waits_five T2.out (L4.out.2.1.trans' (Q5.out.2.2.trans' (Q6.out.2.2.trans' k7)))
      clear gv0 o7 k7 HW1
      go_wp2_with fail
      refine Calls.mono HW2.out ?_
      rintro e w8 ⟨gw, cw, rfl, gw0, o8, k8⟩
      have Q8 : Hid _ := (⟨gw0, o8, k8⟩ : _ ∧ _ ∧ _)
      clear gw0 o8 k8 HW2
      -- what stands behind all answers
      have FT : Hid (∀ W, Same (fun k => k = ga ∨ k = gv) w8 W → RowsAt W a l ∧ RowsAt W (some ⟨gb, 0, none⟩) l ∧ (T < W.heap.size ∧ W.cell? ⟨T, 0, none⟩ = some (.slice (some ⟨gA, 0, none⟩) n cA)) ∧ RowsAt W (some ⟨gA, 0, none⟩) l ∧ NumsAt W (some ⟨gw, 0, none⟩) [0, 1, 2, 3, 4] ∧ Tl w W b gs gn 1 (List.replicate 5 .wait) ∧ Kept w W) := fun W s => by
        obtain ⟨q51, q52, q53⟩ := Q5.out
        obtain ⟨q61, q62, q63⟩ := Q6.out
        obtain ⟨q71, q72, q73⟩ := Q7.out
        obtain ⟨q81, q82, q83⟩ := Q8.out
        obtain ⟨-, l2, l3, l4, l5, l6⟩ := L4.out
        have s5 := (q52.block (k := ga) rfl).2
        have s6 := (q62.block (k := gb) rfl).2
        have s7 := (OwnZ.block q72 (k := gv) rfl).2
        have s8 := (OwnZ.block q82 (k := gw) rfl).2
        have z2 := T2.out.same.size
        have z4 := l2.size
        have z5 := q53.size
        have z6 := q63.size
        have z7 := q73.size
        have z8 := q83.size
        have k48 := q53.trans' (q63.trans' (q73.trans' q83))
        have k28 := l2.trans' k48
        have tl8 := T2.out.on k28
        obtain ⟨t1, t3, t5⟩ := T2.out.tn.lt
        have low : ∀ k, k < W4.heap.size → ¬ (k = ga ∨ k = gv) := fun k hk e => by rcases e with e | e <;> omega
        refine ⟨(RowsAt.on HR.out.rows tl8.kept).kept s fun k hk => low k ?_, ?_, ⟨Nat.lt_of_lt_of_le l4 (Nat.le_trans k48.size s.size), ?_⟩, (l6.on k48).kept s fun k hk => low k ?_, ?_, ⟨tl8.tn.onS s (low _ (by omega)) (low _ (by omega)) (low _ (by omega)), tl8.same.trans s fun k _ e => by rcases e with e | e <;> omega, tl8.lb, tl8.ls, tl8.ln⟩, (tl8.same.trans s (fun k _ e => by rcases e with e | e <;> omega)).mono fun k hk e => by omega⟩
        · have := RowsAt.lt HR.out.rows hk
          omega
        · obtain ⟨x, c, e, hr, -⟩ := q62.rows
          simp only [Value.slice.injEq] at e
          rw [← e.1] at hr
          exact (hr.on (q73.trans' q83)).kept s fun k hk e2 => by
            obtain ⟨-, o, e3⟩ := hk
            simp only [Option.some.injEq, Addr.mk.injEq] at e3
            rcases e2 with e2 | e2 <;> omega
        · exact (s.cell (p := ⟨T, 0, none⟩) (Nat.lt_of_lt_of_le l4 k48.size) (low T l4)).trans ((k48.cell (p := ⟨T, 0, none⟩) l4 (fun e => e)).trans l5)
        · obtain ⟨-, o, e3⟩ := hk
          simp only [Option.some.injEq, Addr.mk.injEq] at e3
          omega
        · obtain ⟨x, c, e, hr, -⟩ := OwnZ.nums (q82.kept s fun k hk e2 => by
            simp [Value.ownBlock] at hk
            rcases e2 with e2 | e2 <;> omega)
          simp only [Value.slice.injEq] at e
          rw [← e.1] at hr
          exact hr
      have OA : Hid (OwnR 0 w8 (.slice (some ⟨ga, 0, none⟩) n ca) l ∧ OwnZ 0 w8 (.slice (some ⟨gv, 0, none⟩) 5 cv) [0, 1, 2, 3, 4] ∧ ga < gv ∧ gv < w8.heap.size) := by
        obtain ⟨q51, q52, q53⟩ := Q5.out
        obtain ⟨q61, q62, q63⟩ := Q6.out
        obtain ⟨q71, q72, q73⟩ := Q7.out
        obtain ⟨q81, q82, q83⟩ := Q8.out
        have s5 := (q52.block (k := ga) rfl).2
        have s7 := (OwnZ.block q72 (k := gv) rfl).2
        have z6 := q63.size
        have z8 := q83.size
        have o7 := OwnZ.kept q72 q83 (fun _ _ e => e)
        refine ⟨(q52.kept (q63.trans' (q73.trans' q83)) (fun _ _ e => e)).lower (Nat.zero_le _), ⟨o7.1, ?_⟩, by omega, by omega⟩
        rcases o7.2 with g | ⟨g, cp, cur, e, hb, rest⟩
        · exact .inl g
        · exact .inr ⟨g, cp, cur, e, Nat.zero_le _, rest⟩
      clear Q5 Q6 Q7 Q8 L4 T2 HSM
      go_wp2_with fail
      go_loopw [118] (fun i wr => ∃ q : Nat, q ≤ n ∧ i = .int .i64 (q : Int) ∧ MkR w8 wr 0 ga n ca q) (fun i _ => n - (intOf i).toNat)
      case atStart => exact ⟨0, Nat.zero_le _, rfl, ⟨l, OA.out.1, fun j hj => absurd hj (Nat.not_lt_zero j)⟩, Same.refl _ _⟩
      case round =>
        obtain ⟨q, hq, rfl, mk⟩ := hrel
        by_cases hlt : q < n
        · have e1 : decide ((q : Int) < (n : Int)) = true := decide_eq_true (by omega)
          have e1' : (q : Int) < (n : Int) := by omega
          have HQ : Hid _ := hlt
          have M1 : Hid _ := mk.put hlt
          obtain ⟨X, oX, -⟩ := mk.ex
          obtain ⟨⟨v0, v1, v2, v3, v4, v5, v6, x0, x1, x2, x3, x4, x5, x6⟩, f0, f1, f2, f3, f4, f5, f6, hgl⟩ := OwnR.slots oX (k := q) (by rw [← oX.parts.1]; exact hlt)
          clear mk oX
          go_wp2_with fail
          go_roundw
          case rel => exact ⟨q + 1, HQ.out, by rw [Int.natCast_add]; rfl, M1.out⟩
          case measure => simp only [intOf]; omega
        · obtain rfl : n = q := by omega
          have e1 : decide ((n : Int) < (n : Int)) = false := by simp
          have MR : Hid _ := mk
          have OZ : Hid (OwnZ 0 wr (.slice (some ⟨gv, 0, none⟩) 5 cv) [0, 1, 2, 3, 4]) := OwnZ.kept OA.out.2.1 mk.same fun k hk e => by
            simp [Value.ownBlock] at hk
            have := OA.out.2.2.1
            omega
          clear mk hq hlt
          go_wp2_with fail
          obtain ⟨w9, ew9⟩ : ∃ w9, w9 = wr := ⟨_, rfl⟩
          have EW9 : Hid _ := ew9
          rw [← ew9] at MR
          clear ew9
          go_loopw [128] (fun i wi => ∃ q : Nat, q ≤ 5 ∧ i = .int .i64 (q : Int) ∧ MkZ w9 wi 0 gv 5 cv q) (fun i _ => 5 - (intOf i).toNat)
          case atStart => exact ⟨0, Nat.zero_le _, rfl, ⟨⟨_, OZ.out, fun j hj => absurd hj (Nat.not_lt_zero j)⟩, by rw [EW9.out]; exact Same.refl _ _⟩⟩
          case round =>
            clear OZ
            obtain ⟨q, hq, rfl, mk⟩ := hrel
            by_cases hlt : q < 5
            · have e1 : decide ((q : Int) < 5) = true := decide_eq_true (by omega)
              have e1' : (q : Int) < 5 := by omega
              have HQ : Hid _ := hlt
              have M1 : Hid _ := mk.put hlt
              obtain ⟨⟨v0, x0⟩, f0, hgl⟩ := mk.cell hlt
              clear mk
              go_wp2_with fail
              go_roundw
              case rel => exact ⟨q + 1, HQ.out, by rw [Int.natCast_add]; rfl, M1.out⟩
              case measure => simp only [intOf]; omega
            · obtain rfl : q = 5 := by omega
              have e1 : ¬ ((5 : Nat) : Int) < 5 := by decide
              obtain ⟨Z, oz, hz⟩ := mk.ex
              obtain ⟨X, ox, hx⟩ := MR.out.ex
              obtain rfl := all_marked oz.parts.1 hz
              obtain rfl := all_marked ox.parts.1 hx
              have hgg := OA.out.2.2
              have sz9 := MR.out.same.size
              have szr := mk.same.size
              have ox2 : OwnR 0 wr (.slice (some ⟨ga, 0, none⟩) n ca) (List.replicate n (mrk 71)) := ox.kept mk.same fun k hk e => by
                simp [Value.ownBlock] at hk
                omega
              have s8r : Same (fun k => k = ga ∨ k = gv) w8 wr := (MR.out.same.mono fun _ _ e => .inl e).trans' (mk.same.mono fun _ _ e => .inr e)
              have HAC : Hid (∀ g, g = wr.heap.size → ∀ ty, ∃ v' w', (Builtin.append_ #[39, 39] ty #[.slice (some ⟨ga, 0, none⟩) n ca, .slice (some ⟨g, 0, none⟩) 2 2]).run Try.prog (wr.alloc (.cells #[.int .i64 72, .int .i64 0, .int .i64 0, .int .i64 0, .int .i64 0, .int .i64 0, .string ⟨#[]⟩, .int .i64 72, .int .i64 0, .int .i64 0, .int .i64 0, .int .i64 0, .int .i64 0, .string ⟨#[]⟩] 32)) = .ok v' w' ∧ ∃ xc cc, v' = .slice xc (n + 2) cc ∧ ∀ g, g = w'.heap.size → ∀ ty, ∃ vx wx, (Builtin.append_ #[49, 49] ty #[.slice (some ⟨gv, 0, none⟩) 5 cv, .slice (some ⟨g, 0, none⟩) 2 2]).run Try.prog (w'.alloc (.cells #[.int .i64 41, .int .i64 41] 3)) = .ok vx wx ∧ ∃ ax cx, vx = .slice ax 7 cx ∧ RowsAt wx xc (List.replicate n (mrk 71) ++ [mrk 72, mrk 72]) ∧ NumsAt wx ax (List.replicate 5 40 ++ [41, 41]) ∧ Same (fun k => k = ga ∨ k = gv) w8 wx) := fun g hg ty => by
                obtain ⟨v', w', r1, r2, r3, r4⟩ := app_two (mrk 72) (mrk 72) ox2 (by rw [List.length_replicate]; omega) (Nat.zero_le _) ty
                obtain ⟨xc, cc, ec, -, -⟩ := r2.rows
                have hl2 : (List.replicate n (mrk 71) ++ [mrk 72, mrk 72]).length = n + 2 := by simp
                rw [hg]
                refine ⟨v', w', r1, xc, cc, by rw [ec, hl2], fun g2 hg2 ty2 => ?_⟩
                have k3 : Same (fun k => k = ga) wr w' := r3.mono fun k _ e => by simp [Value.ownBlock] at e; exact e.symm
                have oz2 : OwnZ 0 w' (.slice (some ⟨gv, 0, none⟩) 5 cv) (List.replicate 5 40) := OwnZ.kept oz k3 fun k hk e => by
                  simp [Value.ownBlock] at hk
                  omega
                obtain ⟨vx, wx, q1, q2, q3⟩ := app_z2 41 41 oz2 (by decide) (Nat.zero_le _) ty2
                obtain ⟨ax, cx, ex, nx, -⟩ := OwnZ.nums q2
                have k4 : Same (fun k => k = gv) w' wx := q3.mono fun k _ e => by simp [Value.ownBlock] at e; exact e.symm
                rw [hg2]
                refine ⟨vx, wx, q1, ax, cx, ex, ?_, nx, (s8r.trans' (k3.mono fun _ _ e => .inl e)).trans' (k4.mono fun _ _ e => .inr e)⟩
                obtain ⟨xc2, cc2, ec2, rc2, -⟩ := (r2.kept k4 fun k hk e => by
                  rcases r4 k hk with e2 | e2
                  · simp [Value.ownBlock] at e2
                    omega
                  · omega).rows
                rw [ec] at ec2
                simp only [Value.slice.injEq] at ec2
                rw [ec2.1]
                exact rc2
              clear mk oz hz ox hx ox2 s8r hgg sz9 szr hq hlt MR
              go_wp2_with (at_builtin; apply Hid.out)
              refine wpList_app rfl (.tmp 135) (.tmp 138) 39 39 rfl (.slice (some ⟨ga, 0, none⟩) n ca) (.slice (some ⟨_, 0, none⟩) 2 2) rfl rfl _ (HAC.out _ (by first | rfl | simp)) ?_
              rintro v10 w10 ⟨xc, cc, rfl, hx10⟩
              have HX10 : Hid _ := hx10
              clear hx10 HAC
              go_wp2_with (at_builtin; apply Hid.out)
              refine wpList_app rfl (.tmp 140) (.tmp 141) 49 49 rfl (.slice (some ⟨gv, 0, none⟩) 5 cv) (.slice (some ⟨_, 0, none⟩) 2 2) rfl rfl _ (HX10.out _ (by first | rfl | simp)) ?_
              rintro v12 w12 ⟨ax, cx, rfl, rc, nx, s12⟩
              have RC : Hid _ := rc
              have NX : Hid _ := nx
              have FF : Hid _ := FT.out _ s12
              clear rc nx s12 HX10 FT OA EW9
              go_wp2_with fail
              go_loopw [145] (fun i wi => ∃ q : Nat, q ≤ n ∧ i = .int .i64 (q : Int) ∧ Kept w12 wi) (fun i _ => n - (intOf i).toNat)
              case atStart => exact ⟨0, Nat.zero_le _, rfl, Same.refl _ _⟩
              case round =>
                obtain ⟨q, hq, rfl, kk⟩ := hrel
                by_cases hlt : q < n
                · have g1 : decide ((q : Int) < (n : Int)) = true := decide_eq_true (by omega)
                  have g1' : (q : Int) < (n : Int) := by omega
                  have g2 : (q : Int) < (n : Int) + 2 := by omega
                  have g3 : q < n + 2 := by omega
                  have HQ : Hid _ := hlt
                  obtain ⟨r, hl⟩ : ∃ r, l[q]? = some r := ⟨_, List.getElem?_eq_getElem (by rw [← EN.out]; exact hlt)⟩
                  obtain ⟨ra, rb, ⟨tl0, ct⟩, rA, -, -, -⟩ := FF.out
                  obtain ⟨g, off, ea, hg, c0, c1, c2, c3, c4, c5, c6⟩ := (ra.on kk) q r hl
                  subst ea
                  obtain ⟨g', off', eb, hgb, b0, b1, b2, b3, b4, b5, b6⟩ := (rb.on kk) q r hl
                  simp only [Option.some.injEq, Addr.mk.injEq, and_true] at eb
                  obtain ⟨rfl, rfl⟩ := eb
                  obtain ⟨g2', off2', ec, hgA, a0, a1, a2, a3, a4, a5, a6⟩ := (rA.on kk) q r hl
                  simp only [Option.some.injEq, Addr.mk.injEq, and_true] at ec
                  obtain ⟨rfl, rfl⟩ := ec
                  have ct1 := (kk.cell (p := ⟨T, 0, none⟩) tl0 (fun e => e)).trans ct
                  have tl1 : T < wr.heap.size := Nat.lt_of_lt_of_le tl0 kk.size
                  obtain ⟨g3', off3', ed, hgc, k0, -⟩ := (RowsAt.on RC.out kk) q (mrk 71) (by rw [List.getElem?_append_left (by simpa using hlt), List.getElem?_replicate, if_pos hlt])
                  subst ed
                  have k0' : wr.cell? ⟨g3', off3' + q * 7, none⟩ = some (.int .i64 71) := k0
                  have hne : ∀ W : World, _ := neq_row3 r
                  have KF : Hid (Kept w12 (wr.alloc (.cells #[.int .i64 r.kind, .int .i64 r.time, .int .i64 r.seq, .int .i64 r.index, .int .i64 r.frm, .int .i64 r.til, .string r.body] 32))) := kk.alloc _
                  clear kk hl ra rb rA ct tl0 k0
                  obtain ⟨kind, time, seq, index, frm, til, body⟩ := r
                  unfold rowV at hne
                  simp only [Nat.zero_add] at *
                  go_wp2_with fail
                  go_quiet (fail)
                  go_wp2_with fail
                  go_roundw
                  case rel => exact ⟨q + 1, HQ.out, by rw [Int.natCast_add]; rfl, by first | exact KF.out | exact KF.out.drew | exact KF.out.drewN _⟩
                  case measure => simp only [intOf]; omega
                · obtain rfl : n = q := by omega
                  have g1 : decide ((n : Int) < (n : Int)) = false := by simp
                  have HW3 : Hid (Calls _ _ _ _ _) := waits_five FF.out.2.2.2.2.2.1 kk
                  have NX2 : Hid _ := kk
                  clear kk hq hlt
                  go_wp2_with fail
                  refine Calls.mono HW3.out ?_
                  rintro e w14 ⟨gu, cu, rfl, -, o14, k14⟩
                  obtain ⟨au, cu2, eu, nu, -⟩ := OwnZ.nums o14
                  simp only [Value.slice.injEq] at eu
                  rw [← eu.1] at nu
                  have NU : Hid _ := nu
                  have K14 : Hid (Kept w12 w14) := NX2.out.trans' k14
                  clear o14 k14 nu eu HW3 NX2
                  go_wp2_with fail
                  go_loopw [182] (fun i wi => ∃ q : Nat, q ≤ 5 ∧ i = .int .i64 (q : Int) ∧ Kept w14 wi) (fun i _ => 5 - (intOf i).toNat)
                  case atStart => exact ⟨0, Nat.zero_le _, rfl, Same.refl _ _⟩
                  case round =>
                    obtain ⟨q, hq, rfl, kk⟩ := hrel
                    by_cases hlt : q < 5
                    · have g1 : (q : Int) < 5 := by omega
                      have g2 : (q : Int) < 7 := by omega
                      have g3 : q < 7 := by omega
                      have HQ : Hid _ := hlt
                      have k12 := K14.out.trans' kk
                      obtain ⟨u1, eu, hu, cu1, -⟩ := NU.out q (by simpa using hlt)
                      obtain ⟨u2, ew, hw, cw1, -⟩ := FF.out.2.2.2.2.1 q (by simpa using hlt)
                      obtain ⟨u3, ex, hx, cx1, -⟩ := NX.out q (by simp; omega)
                      rw [five_at hlt] at cu1 cw1
                      rw [forty_at hlt] at cx1
                      simp only [Option.some.injEq, Addr.mk.injEq, and_true] at eu ew
                      subst eu ew ex
                      have cu2 := (kk.cell (p := ⟨_, q, none⟩) hu (fun e => e)).trans cu1
                      have cw2 := (k12.cell (p := ⟨_, q, none⟩) hw (fun e => e)).trans cw1
                      have cx2 := (k12.cell (p := ⟨_, q, none⟩) hx (fun e => e)).trans cx1
                      have KF : Hid _ := kk
                      clear kk k12 cu1 cw1 cx1 hu hw hx
                      go_wp2_with fail
                      go_roundw
                      case rel => exact ⟨q + 1, HQ.out, by rw [Int.natCast_add]; rfl, KF.out⟩
                      case measure => simp only [intOf]; omega
                    · obtain rfl : q = 5 := by omega
                      have g1 : ¬ ((5 : Nat) : Int) < 5 := by decide
                      have KF : Hid (Kept w _) := FF.out.2.2.2.2.2.2.trans' (K14.out.trans' kk)
                      clear kk hq hlt
                      go_wp2_with fail
                      go_ret
                      exact ⟨rfl, KF.out⟩
end Go.Proofs.Ytolaeiagfnhllaa
