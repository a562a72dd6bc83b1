/- What is proved: DeviceTorn returns true where its arguments are in bounds; the arguments lie in memory. -/
import Derived.Test.YtipfoognpenafaaDTornM
import Derived.Deep.DeepCutAuto
namespace Go.Proofs.Ytipfoognpenafaa
open Go.RowKit

/-- append as one step of a region that draws its order, behind a guard. -/
theorem step_appw {P : Program} {ops : Array Oper} {o : Oper} {a : Act} {w : World} {K : Act → World → Prop} {Q : Exit → Act → World → Prop} {E : Prop} (hw : Region.wanted o (yielded ops a.tmps) = true) (s x : Operand) (t : TypeId)
    (ho : o.op = .call { callee := .builtin .append, args := #[s, x], argTypes := #[t, t] }) (vs vx : Value) (hs : a.eval s = vs) (hx : a.eval x = vx) (R : Value → World → Prop)
    (hrun : ∀ ty, ∃ v' w', (Builtin.append_ #[t, t] ty #[vs, vx]).run P w = .ok v' w' ∧ R v' w') (h : ∀ v' w', R v' w' → K (a.put o.dst v') w') : if Region.wanted o (yielded ops a.tmps) = true then Oper.wp P o a w K Q else E := by
  rw [if_pos hw]
  obtain ⟨v', w', hr, hR⟩ := hrun o.type
  unfold Oper.wp
  simp only [execOp, ho, resolve, invoke, builtin, Sem.run_bind, Sem.run_pure, Result.andThen_ok, List.map_toArray, List.map_cons, List.map_nil, hs, hx, hr]
  exact h v' w' hR

theorem chk_torn (B S : Nat) (keep : Nat) (l lg : List Int) (g1 : 16 ≤ B) (g2 : B ≤ 1024) (g4 : S ≤ 4096) (g5 : l.length ≤ 4194304) (g6 : lg.length ≤ B * S) (g7 : keep ≤ B) : chk B S l.length lg.length (fT keep) = 0 := by
  have e : (decide ((fT keep).length ≤ 64) && (fT keep).all (okF B)) = true := by
    simp [fT, okF]
    omega
  have e1 : okG B S = true := by
    simp only [okG, Bool.and_eq_true, decide_eq_true_eq]
    omega
  have e2 : ¬ (B : Int) * S < lg.length := by
    have : (B : Int) * S = ((B * S : Nat) : Int) := by simp
    rw [this]; omega
  unfold chk
  rw [e, e1, if_neg (by decide), if_neg (by omega), if_neg e2]
  rfl

set_option maxRecDepth 100000 in
set_option maxHeartbeats 3200000 in
theorem torn_main (B S keep : Nat) (ia ga fa sa : Option Addr) (ic gc nf fc sc : Nat) (l lg : List Int) (ls : List St) (w : World) (hl : BytesAt w ia l) (hg : BytesAt w ga lg) (hs0 : StepsAt w sa ls) (hnl : ia = none → l.length = 0 ∧ ic = 0) (hng : ga = none → lg.length = 0 ∧ gc = 0) (b3 : ls.length ≤ 140737488355328)
    (g1 : 16 ≤ B) (g2 : B ≤ 1024) (g3 : 1 ≤ S) (g4 : S ≤ 4096) (g5 : l.length ≤ 4194304) (g6 : lg.length ≤ B * S) (g7 : keep ≤ B) :
    Calls Try.prog 6 #[setupV B S ia ga fa l.length ic lg.length gc nf fc, .int .i64 keep, .slice sa ls.length sc] w fun e w' => e = .returned (.bool true) ∧ Kept w w' := by
  have hnot : ∀ (x : Bool) (w : World), (Op.unary .not (.bool x)).run Try.prog w = .ok (.bool (!x)) w := fun _ _ => rfl
  have HS0 : Hid _ := hs0
  obtain ⟨n, en⟩ : ∃ n, n = ls.length := ⟨_, rfl⟩
  rw [← en] at b3 ⊢
  have EN : Hid _ := en
  have HB0 : Hid ((w.alloc (setupO B S ia ga fa l.length ic lg.length gc nf fc)).heap[w.heap.size]? = some (setupO B S ia ga fa l.length ic lg.length gc nf fc)) := heap_new w _
  have HA : Hid (∀ w', _) := fun w' => anchor_any w'
  have hbs2 : B * S ≤ 4194304 := Nat.le_trans (Nat.mul_le_mul g2 g4) (by decide)
  have CI : Hid (∀ w1 (b : Addr), Kept w w1 → ∀ ty, ∃ v' w', (Builtin.append_ #[22, 22] ty #[.slice (some b) 0 0, .slice ia l.length ic]).run Try.prog w1 = .ok v' w' ∧ CloneB w1 l v' w') := fun w1 b k1 ty => clone_at b (hl.kept k1 (fun _ _ h => h)) hnl (by omega) ty
  have CG : Hid (∀ w1 (b : Addr), Kept w w1 → ∀ ty, ∃ v' w', (Builtin.append_ #[22, 22] ty #[.slice (some b) 0 0, .slice ga lg.length gc]).run Try.prog w1 = .ok v' w' ∧ CloneB w1 lg v' w') := fun w1 b k1 ty => clone_at b (hg.kept k1 (fun _ _ h => h)) hng (by omega) ty
  obtain ⟨mm, emm⟩ : ∃ mm, mm = M.made B S l lg (fT keep) := ⟨_, rfl⟩
  have HN : Hid (∀ w5 a3 c3 a4 c4 fb, BytesAt w5 a3 l → (a3 = none → l.length = 0 ∧ c3 = 0) → BytesAt w5 a4 lg → FaultsAt w5 (some ⟨fb, 0, none⟩) (fT keep) → Calls Try.prog 12 #[.agg #[.int .i64 B, .int .i64 S], .slice a3 l.length c3, .slice a4 lg.length c4, .slice (some ⟨fb, 0, none⟩) 3 3] w5 fun e w6 => ∃ p, e = .returned (.tuple #[.pointer (some ⟨p.db, 0, none⟩), .int .i64 0]) ∧ Dv w6 mm p ∧ (∀ k, Foot mm p k → w5.heap.size ≤ k) ∧ Kept w5 w6) := fun w5 a3 c3 a4 c4 fb r1 r2 r3 r4 => by
    rw [emm]
    exact new_yes B S a3 a4 (some ⟨fb, 0, none⟩) c3 c4 3 l lg (fT keep) w5 r1 r3 r4 r2 (fun e => by cases e) (chk_torn B S keep l lg g1 g2 g4 g5 g6 g7)
  have HM : Hid (mm.B = B ∧ mm.S = S ∧ mm.inp = l ∧ mm.F = fT keep ∧ mm.down = false ∧ mm.k = 0 ∧ mm.cI = 0 ∧ mm.cS = 0 ∧ mm.cW = 0 ∧ mm.cT = 0 ∧ mm.scr.length = B * S) := by
    rw [emm]
    exact ⟨rfl, rfl, rfl, rfl, rfl, rfl, rfl, rfl, rfl, rfl, made_len B S l lg _ g6⟩
  obtain ⟨t, et⟩ : ∃ t, t = B * S := ⟨_, rfl⟩
  have hbs : (B : Int) * (S : Int) = (t : Int) := by rw [et]; simp
  rw [← et] at hbs2 HM
  have ET : Hid _ := et
  have HLS : Hid _ := hl
  have t1 : decide ((B : Int) < 16) = false := by simp only [decide_eq_false_iff_not]; omega
  have t2 : decide (1024 < (B : Int)) = false := by simp only [decide_eq_false_iff_not]; omega
  have t3 : decide ((S : Int) < 1) = false := by simp only [decide_eq_false_iff_not]; omega
  have t4 : decide (4096 < (S : Int)) = false := by simp only [decide_eq_false_iff_not]; omega
  have t5 : decide (4194304 < (l.length : Int)) = false := by simp only [decide_eq_false_iff_not]; omega
  have t6 : decide ((t : Int) < (lg.length : Int)) = false := by simp only [decide_eq_false_iff_not]; omega
  have u6 : decide (t < lg.length) = false := by simp only [decide_eq_false_iff_not]; omega
  have v6 : ¬ t < lg.length := by omega
  have t7 : decide ((keep : Int) < 0) = false := by simp only [decide_eq_false_iff_not]; omega
  have t8 : decide ((B : Int) < (keep : Int)) = false := by simp only [decide_eq_false_iff_not]; omega
  have u8 : decide (B < keep) = false := by simp only [decide_eq_false_iff_not]; omega
  have v8 : ¬ B < keep := by omega
  clear hl hg hs0 hnl hng en et emm
  unfold setupV
  go_enter Try.func6, Try.ntmps6
  go_wp2_with fail
  refine Calls.mono (HA.out _) ?_
  rintro e w2 ⟨rfl, k2⟩
  have k02 : Kept w w2 := ((Same.refl _ w).alloc _).trans' k2
  have hb2 : w2.heap[w.heap.size]? = some (setupO B S ia ga fa l.length ic lg.length gc nf fc) := (k2.block _ (by simp) (fun h => h)).trans HB0.out
  have HCL : Hid (∀ w3, Kept w2 w3 → w3.cell? ⟨w.heap.size, 0, none⟩ = some (.int .i64 B) ∧ w3.cell? ⟨w.heap.size, 1, none⟩ = some (.int .i64 S) ∧ w3.cell? ⟨w.heap.size, 2, none⟩ = some (.slice ia l.length ic) ∧ w3.cell? ⟨w.heap.size, 3, none⟩ = some (.slice ga lg.length gc)) := fun w3 k3 => by
    obtain ⟨x0, x1, x2, x3, x4⟩ := setup_cells ((k3.block _ (lt_of_heap hb2) (fun h => h)).trans hb2)
    exact ⟨x0, x1, x2, x3⟩
  have HBX : Hid (∀ w3, Kept w w3 ∧ Kept w2 w3 → (Kept w w3 ∧ Kept w2 w3) ∧ w3.cell? ⟨w.heap.size, 0, none⟩ = some (.int .i64 B) ∧ w3.cell? ⟨w.heap.size, 1, none⟩ = some (.int .i64 S) ∧ w3.cell? ⟨w.heap.size, 2, none⟩ = some (.slice ia l.length ic) ∧ w3.cell? ⟨w.heap.size, 3, none⟩ = some (.slice ga lg.length gc)) := fun w3 k3 => ⟨k3, HCL.out w3 k3.2⟩
  have HFA : Hid (FaultsAt (w2.alloc (.cells #[.int .i64 4, .int .i64 0, .int .i64 1, .int .i64 keep, .int .i64 4, .int .i64 0, .int .i64 1, .int .i64 0, .int .i64 3, .int .i64 0, .int .i64 1, .int .i64 0] 49)) (some ⟨w2.heap.size, 0, none⟩) (fT keep)) := fun i f hf => by
    obtain ⟨c0, c1, c2, c3⟩ := fcs_get hf
    have g2' : (w2.alloc (.cells #[.int .i64 4, .int .i64 0, .int .i64 1, .int .i64 keep, .int .i64 4, .int .i64 0, .int .i64 1, .int .i64 0, .int .i64 3, .int .i64 0, .int .i64 1, .int .i64 0] 49)).heap[w2.heap.size]? = some (.cells (fcs (fT keep)).toArray 49 (0, 0)) := heap_new w2 _
    refine ⟨w2.heap.size, 0, rfl, lt_of_heap g2', ?_⟩
    simp only [Nat.zero_add, cell_of g2', List.getElem?_toArray]
    exact ⟨c0, c1, c2, c3⟩
  obtain ⟨y0, y1, y2, y3⟩ := HCL.out w2 (Same.refl _ _)
  have hlb := lt_of_heap hb2
  have HB2 : Hid _ := hb2
  clear HA k2 hb2
  go_wp2_with fail
  clear y0 y1 y2 y3
  go_cut [8, 9] (fun s7 s8 wx => ∃ p, s7 = .pointer (some ⟨p.db, 0, none⟩) ∧ s8 = .int .i64 0 ∧ Dv wx mm p ∧ (∀ k, Foot mm p k → w2.heap.size ≤ k) ∧ Kept w2 wx)
  case first =>
    go_region_held3 (fun w' => (Kept w w' ∧ Kept w2 w') ∧ w'.cell? ⟨w.heap.size, 0, none⟩ = some (.int .i64 B) ∧ w'.cell? ⟨w.heap.size, 1, none⟩ = some (.int .i64 S) ∧ w'.cell? ⟨w.heap.size, 2, none⟩ = some (.slice ia l.length ic) ∧ w'.cell? ⟨w.heap.size, 3, none⟩ = some (.slice ga lg.length gc))
      (exact HBX.out _ ⟨(by (repeat (first | exact k02 | exact Same.refl _ _ | apply Same.alloc | apply Same.drew | refine Same.trans' ?_ kx3 | refine Same.trans' ?_ ky4 | refine Same.trans' ?_ kn)); done), (by (repeat (first | exact k02 | exact Same.refl _ _ | apply Same.alloc | apply Same.drew | refine Same.trans' ?_ kx3 | refine Same.trans' ?_ ky4 | refine Same.trans' ?_ kn)); done)⟩)
      (first
        | (go_at_call 12; refine Calls.mono (HN.out _ _ _ _ _ _ (BytesAt.kept (S := fun _ => False) b3 (by (repeat (first | exact k02 | exact Same.refl _ _ | apply Same.alloc | apply Same.drew | refine Same.trans' ?_ kx3 | refine Same.trans' ?_ ky4 | refine Same.trans' ?_ kn)); done) (fun _ _ h => h)) nil3 (BytesAt.kept (S := fun _ => False) b4 (by (repeat (first | exact k02 | exact Same.refl _ _ | apply Same.alloc | apply Same.drew | refine Same.trans' ?_ kx3 | refine Same.trans' ?_ ky4 | refine Same.trans' ?_ kn)); done) (fun _ _ h => h)) (FaultsAt.kept (S := fun _ => False) HFA.out (by (repeat (first | exact k02 | exact Same.refl _ _ | apply Same.alloc | apply Same.drew | refine Same.trans' ?_ kx3 | refine Same.trans' ?_ ky4 | refine Same.trans' ?_ kn)); done) (fun _ _ h => h))) ?_; rintro e w6 ⟨p, rfl, dn, fn, kn⟩)
        | (refine step_app rfl (.tmp 79) (.tmp 81) 22 rfl (.slice (some ⟨_, 0, none⟩) 0 0) (.slice ia l.length ic) rfl rfl _ (CI.out _ _ (by (repeat (first | exact k02 | exact Same.refl _ _ | apply Same.alloc | apply Same.drew | refine Same.trans' ?_ kx3 | refine Same.trans' ?_ ky4 | refine Same.trans' ?_ kn)); done)) ?_; rintro v3 w3 ⟨a3, c3, rfl, b3, cap3, nil3, fr3, kx3⟩)
        | (refine step_app rfl (.tmp 83) (.tmp 85) 22 rfl (.slice (some ⟨_, 0, none⟩) 0 0) (.slice ga lg.length gc) rfl rfl _ (CG.out _ _ (by (repeat (first | exact k02 | exact Same.refl _ _ | apply Same.alloc | apply Same.drew | refine Same.trans' ?_ kx3 | refine Same.trans' ?_ ky4 | refine Same.trans' ?_ kn)); done)) ?_; rintro v4 w4 ⟨a4, c4, rfl, b4, cap4, nil4, fr4, ky4⟩))
    all_goals
      go_wp2_with fail
      go_meet
      refine ⟨p, rfl, rfl, dn, fun k hk => Nat.le_trans (Same.size (S := fun _ => False) (by (repeat (first | exact k02 | exact Same.refl _ _ | apply Same.alloc | apply Same.drew | refine Same.trans' ?_ kx3 | refine Same.trans' ?_ ky4 | refine Same.trans' ?_ kn)); done)) (fn k hk), (by (repeat (first | exact k02 | exact Same.refl _ _ | apply Same.alloc | apply Same.drew | refine Same.trans' ?_ kx3 | refine Same.trans' ?_ ky4 | refine Same.trans' ?_ kn)); done)⟩
  case rest =>
    obtain ⟨p, rfl, rfl, hd, hf, kc⟩ := hcut
    have HD : Hid _ := hd
    have KC0 : Hid _ := kc
    have HOW : Hid (∀ k, Own p k → w2.heap.size ≤ k) := fun k e => hf k (.inl e)
    have HOL : Hid (∀ k, Own p k → k < wc.heap.size) := fun k e => hd.lt (.inl e)
    have HIM : Hid (Calls Try.prog 18 #[.pointer (some ⟨p.db, 0, none⟩)] wc fun e w' => ∃ g cap, e = .returned (.slice (some ⟨g, 0, none⟩) t cap) ∧ wc.heap.size ≤ g ∧ RowAt w' g mm.scr ∧ Kept wc w') := by
      have hlen := HM.out.2.2.2.2.2.2.2.2.2.2
      have hpos : 0 < mm.scr.length := by rw [hlen, ET.out]; exact Nat.mul_pos (by omega) (by omega)
      have := image_row hd hpos
      rw [hlen] at this
      exact this
    have hmk := fun w' => make_bytes w' B (by omega)
    clear hd hf kc HN CI CG HBX HFA
    go_wp2_with fail
    refine Calls.mono HIM.out ?_
    rintro e w7 ⟨g7, c7, rfl, f7, r7, k7⟩
    have R7 : Hid _ := r7
    have K7 : Hid _ := k7
    have kA : Kept w2 w7 := KC0.out.trans' k7
    obtain ⟨y0, y1, y2, y3⟩ := HCL.out w7 kA
    have hlb7 : w.heap.size < w7.heap.size := Nat.lt_of_lt_of_le hlb kA.size
    clear r7 k7 kA
    go_wp2_with fail
    go_loopw [104] (fun i wr => ∃ j : Nat, j ≤ B ∧ i = .int .i64 j ∧ RowAt wr w7.heap.size (fillL B j) ∧ Same (fun k => k = w7.heap.size) (w7.alloc (rowObj (List.replicate B 0))) wr) (fun i _ => B - (intOf i).toNat)
    case atStart => exact ⟨0, Nat.zero_le _, rfl, ⟨[], by rw [fillL_zero, List.append_nil]; exact heap_new w7 _⟩, Same.refl _ _⟩
    case round =>
      obtain ⟨j, hj, rfl, hrow, sr⟩ := hrel
      have HRO : Hid _ := hrow
      have HSR : Hid _ := sr
      by_cases hlt : j < B
      · have c1 : decide ((j : Int) < (B : Int)) = true := by simp only [decide_eq_true_eq]; omega
        have hlt2 : (j : Int) < (B : Int) := by omega
        obtain ⟨b', o', e', -, q1⟩ := hrow.bytes j 0 (by rw [fillL_get hlt, if_neg (by omega)])
        cases e'
        rw [Nat.zero_add] at q1
        have z1 := hrow.frozen j
        obtain ⟨r, er⟩ : ∃ r, r = j % 50 := ⟨_, rfl⟩
        have hr : (j : Int).tmod 50 = (r : Int) := by rw [er]; rfl
        have hr2 : r < 50 := by rw [er]; exact Nat.mod_lt _ (by decide)
        have hwr : IntKind.u8.wrap (200 + (r : Int)) = 200 + (r : Int) := by simp [IntKind.wrap, IntKind.bits, IntKind.signed]; omega
        have HPA : Hid (pat j = 200 + (r : Int)) := by show pat j = _; unfold pat; rw [← er]; omega
        clear er hrow sr
        go_wp2_with fail
        go_roundw
        case rel =>
          have hs := RowAt.set HRO.out (i := j) (by rw [length_fillL]; exact hlt) (pat j)
          rw [fillL_set B j hlt, HPA.out] at hs
          exact ⟨j + 1, hlt, by rw [Int.natCast_add]; rfl, hs, Same.setCell HSR.out _ (.inr rfl) _⟩
        case measure => simp only [intOf]; omega
      · have ej : B = j := by omega
        subst ej
        have c1 : decide ((B : Int) < (B : Int)) = false := by simp
        obtain ⟨off, eoff⟩ : ∃ off, off = (S - 1) * B := ⟨_, rfl⟩
        have hot : off + B = t := by
          rw [eoff, ET.out, Nat.mul_comm B S]
          obtain ⟨s, rfl⟩ : ∃ s, S = s + 1 := ⟨S - 1, by omega⟩
          rw [Nat.add_sub_cancel, Nat.succ_mul]
        obtain ⟨m1, m2, m3, m4, m5, m6, m7, m8, m9', m10, m11⟩ := HM.out
        have hdr : Dv wr mm p := Dv.kept (S := fun k => k = w7.heap.size) (Dv.kept0 HD.out (K7.out.alloc _)) sr (fun k hk e => by
          have h1 := HD.out.lt hk
          have h2 := K7.out.size
          omega)
        obtain ⟨m9, em9⟩ : ∃ m9, m9 = mm.cW1.hit.torn off ((fillL B B).take keep) true := ⟨_, rfl⟩
        have hwr : mm.write ((S : Int) - 1) (fillL B B) = (34, m9) := by
          rw [show (S : Int) - 1 = ((S - 1 : Nat) : Int) by omega, write_in m5 (by rw [m2]; omega) (by rw [length_fillL, m1]), m4, m9', crash_fT, m1, em9, eoff]
          rfl
        have HW : Hid _ := write_any hdr ((S : Int) - 1) (some ⟨w7.heap.size, 0, none⟩) B (fillL B B) hrow.bytes (by rw [length_fillL]; exact Nat.le_refl _) (fun k hk e => by
          obtain ⟨_, o, e'⟩ := hk
          cases e'
          have h1 := HOL.out _ (.inl e)
          have h2 := K7.out.size
          omega) (by rw [m6]; decide)
        rw [hwr, length_fillL] at HW
        have kwr : ∀ k, k < w7.heap.size → wr.heap[k]? = w7.heap[k]? := fun k hk => (sr.block k (by simp; omega) (by omega)).trans (heap_old _ _ hk)
        have szr : w7.heap.size < wr.heap.size := hrow.lt
        have KWR : Hid _ := kwr
        have HB7 : Hid (w7.heap[w.heap.size]? = some (setupO B S ia ga fa l.length ic lg.length gc nf fc)) := (Same.block (S := fun _ => False) (KC0.out.trans' K7.out) _ hlb (fun h => h)).trans HB2.out
        obtain ⟨x0, x1, x2, x3, x4⟩ := setup_cells ((kwr _ hlb7).trans HB7.out)
        have g7lt : g7 < w7.heap.size := RowAt.lt R7.out
        have hwc2 : w2.heap.size ≤ wc.heap.size := KC0.out.size
        have HM9 : Hid (m9.down = true ∧ m9.scr = splice mm.scr off ((fillL B B).take keep) ∧ m9.inp = l ∧ m9.cI = 0 ∧ m9.cS = 0 ∧ m9.cW = 1 ∧ m9.cT = 1 ∧ m9.k = 2) := by
          rw [em9]
          refine ⟨rfl, rfl, m3, m7, m8, ?_, ?_, ?_⟩
          · show mm.cW + 1 = 1; rw [m9']
          · show mm.cT + 1 = 1; rw [m10]
          · show mm.k + 1 + 1 = 2; rw [m6]
        have HSL : Hid (mm.scr.length = t) := m11
        have HFT : Hid (∀ k, Foot m9 p k → Foot mm p k) := by rw [em9]; exact fun k hk => hk
        have HL9 : Hid (m9.scr.length = t) := by
          show m9.scr.length = t
          rw [HM9.out.2.1, length_splice _ _ _ (by rw [m11, List.length_take, length_fillL]; omega), m11]
        have HOT : Hid _ := hot
        have hott : (t : Int) - (B : Int) = (off : Int) := by omega
        have hob : off + B ≤ 4194304 := by omega
        clear hrow sr hdr hwr em9 eoff m1 m2 m3 m4 m5 m6 m7 m8 m9' m10 m11 kwr y0 y1 y2 y3 hot
        go_wp2_with fail
        refine Calls.mono HW.out ?_
        rintro e w9 ⟨rfl, hd9, s9⟩
        have HDW : Hid _ := down_any hd9
        rw [HM9.out.1] at HDW
        have kb9 : ∀ k, k < w7.heap.size → ¬ Own p k → w9.heap[k]? = w7.heap[k]? := fun k hk hn => (s9.block k (by omega) hn).trans (KWR.out k hk)
        have hb9 : w9.heap[w.heap.size]? = some (setupO B S ia ga fa l.length ic lg.length gc nf fc) := (kb9 _ hlb7 (fun e => by have := HOW.out _ e; omega)).trans HB7.out
        obtain ⟨z0, z1, z2, z3, z4⟩ := setup_cells hb9
        have HB9 : Hid _ := hb9
        have R9 : Hid (RowAt w9 g7 mm.scr) := by
          obtain ⟨rest, hg⟩ := R7.out
          exact ⟨rest, (kb9 _ g7lt (fun e => by have := HOL.out _ e; omega)).trans hg⟩
        have D9 : Hid (RowAt w9 w7.heap.size (fillL B B)) := RowAt.kept HRO.out s9 (fun e => by
          have h1 := HOL.out _ e
          have h2 := K7.out.size
          omega)
        have HD9 : Hid _ := hd9
        have sz9 : wr.heap.size ≤ w9.heap.size := s9.size
        have K29 : Hid (∀ k, k < w2.heap.size → w9.heap[k]? = w2.heap[k]?) := fun k hk => by
          have h1 := (KC0.out.trans' K7.out).size
          exact (kb9 k (by omega) (fun e => by have := HOW.out _ e; omega)).trans (Same.block (S := fun _ => False) (KC0.out.trans' K7.out) k hk (fun h => h))
        have KO9 : Hid (w9.os = w2.os ∧ w9.tape = w2.tape ∧ w9.output = w2.output) := by
          have a := KC0.out.trans' K7.out
          have b := (HSR.out)
          exact ⟨s9.os.trans (b.os.trans a.os), s9.tape.trans (b.tape.trans a.tape), s9.output.trans (b.output.trans a.output)⟩
        have htt : ((t : Int) != (t : Int)) = false := by simp
        clear hd9 s9 kb9 hb9 HW x0 x1 x2 x3 x4
        go_wp2_with fail
        refine Calls.mono HDW.out ?_
        rintro e w9' ⟨rfl, hw9⟩
        subst w9'
        go_wp2_with fail
        go_loopw [13] (fun v wx => ∃ i : Nat, i ≤ keep ∧ v = .int .i64 i ∧ RowAt wx g7 (splice mm.scr off ((fillL B B).take i)) ∧ Same (fun k => k = g7) w9 wx) (fun v _ => keep - (intOf v).toNat)
        case atStart => exact ⟨0, Nat.zero_le _, rfl, by rw [List.take_zero, splice_none _ _ (by rw [HSL.out]; omega)]; exact R9.out, Same.refl _ _⟩
        case round =>
          obtain ⟨i, hi, rfl, hrow, sx⟩ := hrel
          have HRX : Hid _ := hrow
          have HSX : Hid _ := sx
          by_cases hik : i < keep
          · have d1 : decide ((i : Int) < (keep : Int)) = true := by simp only [decide_eq_true_eq]; omega
            have d1' : (i : Int) < (keep : Int) := by omega
            have hget : (fillL B B)[i]? = some (pat i) := by rw [fillL_get (by omega), if_pos (by omega)]
            have hsl : (splice mm.scr off ((fillL B B).take i)).length = t := by rw [length_splice _ _ _ (by rw [HSL.out, List.length_take, length_fillL]; omega), HSL.out]
            obtain ⟨xv, hxv⟩ : ∃ x, (splice mm.scr off ((fillL B B).take i))[off + i]? = some x := ⟨_, List.getElem?_eq_getElem (by rw [hsl]; omega)⟩
            obtain ⟨b1', o1', e1', -, q1⟩ := hrow.bytes (off + i) xv hxv
            cases e1'
            rw [Nat.zero_add] at q1
            have f1 := hrow.frozen (off + i)
            have dr := RowAt.kept D9.out sx (by omega)
            obtain ⟨b2', o2', e2', -, q2⟩ := dr.bytes i (pat i) hget
            cases e2'
            rw [Nat.zero_add] at q2
            obtain ⟨v0, v1, v2, v3, v4⟩ := setup_cells ((sx.block _ (lt_of_heap HB9.out) (by omega)).trans HB9.out)
            have hib : (i : Int) < (B : Int) := by omega
            have hit : (off : Int) + (i : Int) < (t : Int) := by omega
            have HNX : Hid (RowAt (wr.setCell ⟨g7, off + i, none⟩ (.int .u8 (pat i))) g7 (splice mm.scr off ((fillL B B).take (i + 1)))) := by
              have := RowAt.set hrow (i := off + i) (by rw [hsl]; omega) (pat i)
              rw [splice_set _ _ _ _ _ hget (by rw [HSL.out, length_fillL]; omega)] at this
              exact this
            clear hrow sx hget hsl dr hxv
            go_wp2_with fail
            go_region
            go_wp2_with fail
            go_roundw
            case rel => exact ⟨i + 1, hik, by rw [Int.natCast_add]; rfl, HNX.out, (Same.setCell (S := fun k => k = g7) HSX.out _ (.inr rfl) _).drew⟩
            case measure => simp only [intOf]; omega
          · have ei : keep = i := by omega
            subst ei
            have d1 : decide ((keep : Int) < (keep : Int)) = false := by simp
            have hdx : Dv wr m9 p := Dv.kept (S := fun k => k = g7) HD9.out sx (fun k hk e => by
              have := HD.out.lt (HFT.out k hk)
              omega)
            rw [← HM9.out.2.1] at hrow
            have k2x : Kept w2 wr := ⟨sx.os.trans KO9.out.1, sx.tape.trans KO9.out.2.1, sx.output.trans KO9.out.2.2, by have := sx.size; have := K7.out.size; omega, fun k hk _ => (sx.block k (by have := K7.out.size; omega) (by omega)).trans (K29.out k hk)⟩
            have szx : w7.heap.size ≤ wr.heap.size := by have := sx.size; omega
            have HDX : Hid _ := hdx
            have HRX2 : Hid _ := hrow
            have K2X : Hid _ := k2x
            have HSTP : Hid (∀ wy, Kept w2 wy → ∀ i o, ls[i]? = some o → ∃ b off, sa = some ⟨b, off, none⟩ ∧ b < wy.heap.size ∧ wy.cell? ⟨b, off + i * 3, none⟩ = some (.int .i64 o.k) ∧ wy.cell? ⟨b, off + i * 3 + 1, none⟩ = some (.int .i64 o.at') ∧ wy.cell? ⟨b, off + i * 3 + 2, none⟩ = some (.slice o.da o.d.length o.dc) ∧ BytesAt wy o.da o.d ∧ (o.da = none → o.d.length = 0 ∧ o.dc = 0) ∧ o.d.length ≤ 140737488355328 ∧ (∀ k, InB o.da o.d.length k → k < w.heap.size)) := fun wy kr i o ho => by
              obtain ⟨b, off, e, hb, c0, c1, c2, c3, c4, c5⟩ := HS0.out i o ho
              have kk : Kept w wy := k02.trans' kr
              exact ⟨b, off, e, Nat.lt_of_lt_of_le hb kk.size, (kk.cell (p := ⟨b, _, none⟩) hb (fun h => h)).trans c0, (kk.cell (p := ⟨b, _, none⟩) hb (fun h => h)).trans c1, (kk.cell (p := ⟨b, _, none⟩) hb (fun h => h)).trans c2, c3.kept kk (fun _ _ h => h), c4, c5, fun k hk => c3.lt hk⟩
            clear hrow sx hdx k2x z0 z1 z2 z3 z4
            go_wp2_with fail
            go_loopw [157] (fun v wx => ∃ q : Nat, q ≤ n ∧ v = .int .i64 q ∧ Dv wx m9 p ∧ RowAt wx g7 m9.scr ∧ Kept w2 wx ∧ w7.heap.size ≤ wx.heap.size) (fun v _ => n - (intOf v).toNat)
            case atStart => exact ⟨0, Nat.zero_le _, rfl, HDX.out, HRX2.out, K2X.out, szx⟩
            case round =>
              obtain ⟨q, hq, rfl, hd, hrow, kx, hzx⟩ := hrel
              have HDq : Hid _ := hd
              have HRq : Hid _ := hrow
              have KXq : Hid _ := kx
              clear hd hrow
              by_cases hlt : q < n
              · have a1 : decide ((q : Int) < (n : Int)) = true := by simp only [decide_eq_true_eq]; omega
                have a1' : (q : Int) < (n : Int) := by omega
                obtain ⟨o, ho⟩ : ∃ o, ls[q]? = some o := ⟨_, List.getElem?_eq_getElem (by rw [← EN.out]; exact hlt)⟩
                obtain ⟨sb', soff, rfl, hsb, y0, y1, y2, y3, y4, y5, y6⟩ := HSTP.out wr kx q o ho
                have HY6 : Hid _ := y6
                generalize hW : wr.alloc (.cells #[.int .i64 o.k, .int .i64 o.at', .slice o.da o.d.length o.dc] 40) = W
                have kW : Kept wr W := hW ▸ (Same.refl _ wr).alloc _
                have hbW : W.heap[wr.heap.size]? = some (.cells #[.int .i64 o.k, .int .i64 o.at', .slice o.da o.d.length o.dc] 40 (0, 0)) := hW ▸ heap_new wr _
                have z1 : W.cell? ⟨wr.heap.size, 1, none⟩ = some (.int .i64 o.at') := (cell_of hbW 1).trans rfl
                have hszW : wr.heap.size < W.heap.size := lt_of_heap hbW
                have HW : Hid _ := hW
                have KW : Hid _ := kW
                have HBW : Hid _ := hbW
                have HY3 : Hid (BytesAt W o.da o.d) := y3.kept kW (fun _ _ h => h)
                have HY4 : Hid _ := y4
                have HY5 : Hid _ := y5
                have OLT : Hid (∀ k, Own p k → k < w7.heap.size) := fun k e => by have := HOL.out k e; have := K7.out.size; omega
                have HR1 : Hid (Calls Try.prog 13 #[.pointer (some ⟨p.db, 0, none⟩), .int .i64 o.at'] W (RPost p W (34, [], m9))) := by
                  have := readInput_any (Dv.kept0 HDq.out kW) o.at' (by rw [HM9.out.2.2.2.2.2.2.2]; decide)
                  rw [show m9.readIn o.at' = (34, [], m9) from if_pos HM9.out.1] at this
                  exact this
                clear ho kW hbW y3 y4 y5 y6 kx
                go_wp2_with fail
                refine Calls.mono HR1.out ?_
                rintro e w4 ⟨ra, rc, rfl, -, -, d4, s4⟩
                have hb4 : w4.heap[wr.heap.size]? = some (.cells #[.int .i64 o.k, .int .i64 o.at', .slice o.da o.d.length o.dc] 40 (0, 0)) := (s4.block _ hszW (fun e => by have := OLT.out _ e; omega)).trans HBW.out
                have z1' : w4.cell? ⟨wr.heap.size, 1, none⟩ = some (.int .i64 o.at') := (cell_of hb4 1).trans rfl
                have HR2 : Hid (Calls Try.prog 19 #[.pointer (some ⟨p.db, 0, none⟩), .int .i64 o.at'] w4 (RPost p w4 (34, [], m9))) := by
                  have := readScratch_any d4 o.at' (by rw [HM9.out.2.2.2.2.2.2.2]; decide)
                  rw [show m9.readSc o.at' = (34, [], m9) from if_pos HM9.out.1] at this
                  exact this
                have S4 : Hid _ := s4
                have HB4 : Hid _ := hb4
                clear d4 s4 hb4
                go_wp2_with fail
                refine Calls.mono HR2.out ?_
                rintro e w5 ⟨rb, rd, rfl, -, -, d5, s5⟩
                have hb5 : w5.heap[wr.heap.size]? = some (.cells #[.int .i64 o.k, .int .i64 o.at', .slice o.da o.d.length o.dc] 40 (0, 0)) := (s5.block _ (lt_of_heap HB4.out) (fun e => by have := OLT.out _ e; omega)).trans HB4.out
                have sW5 : Same (Own p) W w5 := S4.out.trans' s5
                have hd5 : BytesAt w5 o.da o.d := BytesAt.kept HY3.out sW5 (fun k hk e => by
                  have h1 := HY6.out k hk
                  have h2 := HOW.out k e
                  have h3 := Same.size k02
                  omega)
                have CD : Hid (∀ w1 (b : Addr), Kept w5 w1 → ∀ ty, ∃ v' w', (Builtin.append_ #[22, 22] ty #[.slice (some b) 0 0, .slice o.da o.d.length o.dc]).run Try.prog w1 = .ok v' w' ∧ CloneB w1 o.d v' w') := fun w1 b k1 ty => clone_at b (hd5.kept k1 (fun _ _ h => h)) HY4.out HY5.out ty
                have HD5 : Hid _ := d5
                have sz5 : W.heap.size ≤ w5.heap.size := sW5.size
                have HWR : Hid (∀ w6 a5 c5, Kept w5 w6 → BytesAt w6 a5 o.d → o.d.length ≤ c5 → (∀ k, InB a5 o.d.length k → w5.heap.size ≤ k) → Calls Try.prog 14 #[.pointer (some ⟨p.db, 0, none⟩), .int .i64 o.at', .slice a5 o.d.length c5] w6 fun e w' => e = .returned (.int .i64 34) ∧ Dv w' m9 p ∧ Same (Own p) w6 w') := fun w6 a5 c5 k5 r1 r2 r3 => by
                  have := write_any (Dv.kept0 HD5.out k5) o.at' a5 c5 o.d r1 r2 (fun k hk e => by have := r3 k hk; have := OLT.out k (.inl e); omega) (by rw [HM9.out.2.2.2.2.2.2.2]; decide)
                  rw [show m9.write o.at' o.d = (34, m9) from if_pos HM9.out.1] at this
                  exact this
                have HB5 : Hid _ := hb5
                have HBX2 : Hid (∀ w6, Kept w5 w6 → w6.cell? ⟨wr.heap.size, 1, none⟩ = some (.int .i64 o.at') ∧ w6.cell? ⟨wr.heap.size, 2, none⟩ = some (.slice o.da o.d.length o.dc)) := fun w6 k6 => by
                  have e := (k6.block _ (lt_of_heap HB5.out) (fun h => h)).trans HB5.out
                  exact ⟨(cell_of e 1).trans rfl, (cell_of e 2).trans rfl⟩
                have HBX3 : Hid (∀ w6 w7', Kept w5 w6 → Same (Own p) w6 w7' → w7'.cell? ⟨wr.heap.size, 1, none⟩ = some (.int .i64 o.at') ∧ w7'.cell? ⟨wr.heap.size, 2, none⟩ = some (.slice o.da o.d.length o.dc)) := fun w6 w7' k6 s7 => by
                  have e0 := (k6.block _ (lt_of_heap HB5.out) (fun h => h)).trans HB5.out
                  have e := (s7.block _ (lt_of_heap e0) (fun e => by have := OLT.out _ e; omega)).trans e0
                  exact ⟨(cell_of e 1).trans rfl, (cell_of e 2).trans rfl⟩
                have SW5 : Hid _ := sW5
                clear d5 s5 hb5 hd5 sW5 z1 z1'
                go_wp2_with fail
                go_region_held3 (fun w' => w'.cell? ⟨wr.heap.size, 1, none⟩ = some (.int .i64 o.at') ∧ w'.cell? ⟨wr.heap.size, 2, none⟩ = some (.slice o.da o.d.length o.dc))
                  (first
                    | (refine HBX2.out _ ?_; (repeat (first | exact Same.refl _ _ | apply Same.alloc | apply Same.drew | refine Same.trans' ?_ kx3)); done)
                    | (refine HBX3.out _ _ ?_ sn; (repeat (first | exact Same.refl _ _ | apply Same.alloc | apply Same.drew | refine Same.trans' ?_ kx3)); done))
                  (first
                    | (go_at_call 14; refine Calls.mono (HWR.out _ _ _ (by (repeat (first | exact Same.refl _ _ | apply Same.alloc | apply Same.drew | refine Same.trans' ?_ kx3)); done) (BytesAt.kept (S := fun _ => False) b3 (by (repeat (first | exact Same.refl _ _ | apply Same.alloc | apply Same.drew | refine Same.trans' ?_ kx3)); done) (fun _ _ h => h)) cap3 (fun k hk => Nat.le_trans (Same.size (S := fun _ => False) (by (repeat (first | exact Same.refl _ _ | apply Same.alloc | apply Same.drew | refine Same.trans' ?_ kx3)); done)) (fr3 k hk))) ?_; rintro e w6 ⟨rfl, dn, sn⟩)
                    | (refine step_appw (by rfl) (.tmp 185) (.tmp 187) 22 rfl (.slice (some ⟨_, 0, none⟩) 0 0) (.slice o.da o.d.length o.dc) rfl rfl _ (CD.out _ _ (by (repeat (first | exact Same.refl _ _ | apply Same.alloc | apply Same.drew | refine Same.trans' ?_ kx3)); done)) ?_; rintro v3 w3 ⟨a3, c3, rfl, b3, cap3, nil3, fr3, kx3⟩))
                have k53 : Kept w5 w3 := by ((repeat (first | exact Same.refl _ _ | apply Same.alloc | apply Same.drew | refine Same.trans' ?_ kx3)); done)
                have DN : Hid _ := dn
                have KN : Hid (Kept w2 w6) := Same.trans (S' := Own p) ((Same.trans (S' := Own p) (Same.trans' KXq.out KW.out) SW5.out (fun i hi e => by have := HOW.out i e; omega)).trans' k53) sn (fun i hi e => by have := HOW.out i e; omega)
                have RN : Hid (RowAt w6 g7 m9.scr) := by
                  have no : ¬ Own p g7 := fun e => by have := HOL.out _ e; omega
                  exact RowAt.kept (S := Own p) (RowAt.kept (S := fun _ => False) (RowAt.kept (S := Own p) (RowAt.kept (S := fun _ => False) HRq.out KW.out (fun h => h)) SW5.out no) k53 (fun h => h)) sn no
                have hz6 : w7.heap.size ≤ w6.heap.size := by have := sn.size; have := k53.size; omega
                clear dn sn k53 kx3 b3 cap3 nil3 fr3
                go_wp2_with fail
                go_roundw
                case rel => exact ⟨q + 1, hlt, by rw [Int.natCast_add]; rfl, DN.out, RN.out, KN.out, hz6⟩
                case measure => simp only [intOf]; omega
              · have eq : n = q := by omega
                subst eq
                have a1 : decide ((n : Int) < (n : Int)) = false := by simp
                have HCT : Hid (Calls Try.prog 21 #[.pointer (some ⟨p.db, 0, none⟩)] wr fun e w' => e = .returned (.agg #[.int .i64 0, .int .i64 0, .int .i64 1, .int .i64 1]) ∧ Kept wr w') := by
                  have := counts_any HDq.out
                  obtain ⟨-, -, -, n1, n2, n3, n4, -⟩ := HM9.out
                  rw [n1, n2, n3, n4] at this
                  exact this
                clear kx
                go_wp2_with fail
                refine Calls.mono HCT.out ?_
                rintro e w8 ⟨rfl, k8⟩
                generalize hV : w8.alloc (.cells #[.int .i64 0, .int .i64 0, .int .i64 1, .int .i64 1] 51) = V
                have k8V : Kept wr V := hV ▸ (k8.alloc _)
                have hbV : V.heap[w8.heap.size]? = some (.cells #[.int .i64 0, .int .i64 0, .int .i64 1, .int .i64 1] 51 (0, 0)) := hV ▸ heap_new w8 _
                have k2V : Kept w2 V := KXq.out.trans' k8V
                have HBXV : Hid (∀ w6, Kept V w6 → w6.cell? ⟨w.heap.size, 2, none⟩ = some (.slice ia l.length ic) ∧ w6.cell? ⟨w8.heap.size, 0, none⟩ = some (.int .i64 0) ∧ w6.cell? ⟨w8.heap.size, 1, none⟩ = some (.int .i64 0) ∧ w6.cell? ⟨w8.heap.size, 2, none⟩ = some (.int .i64 1) ∧ w6.cell? ⟨w8.heap.size, 3, none⟩ = some (.int .i64 1)) := fun w6 k6 => by
                  have e := (k6.block _ (lt_of_heap hbV) (fun h => h)).trans hbV
                  exact ⟨(HCL.out w6 (k2V.trans' k6)).2.2.1, (cell_of e 0).trans rfl, (cell_of e 1).trans rfl, (cell_of e 2).trans rfl, (cell_of e 3).trans rfl⟩
                have HIMG : Hid (∀ w5, Kept V w5 → Calls Try.prog 18 #[.pointer (some ⟨p.db, 0, none⟩)] w5 fun e w' => ∃ a cap, e = .returned (.slice a t cap) ∧ BytesAt w' a m9.scr ∧ Kept w5 w') := fun w5 k5 => by
                  have := image_any (Dv.kept0 HDq.out (k8V.trans' k5))
                  rw [HL9.out] at this
                  refine this.mono ?_
                  rintro e w' ⟨a, cap, he, h1, h2, h3⟩
                  exact ⟨a, cap, he, h1, h3⟩
                have HINP : Hid (∀ w5, Kept V w5 → Calls Try.prog 17 #[.pointer (some ⟨p.db, 0, none⟩)] w5 fun e w' => ∃ a cap, e = .returned (.slice a l.length cap) ∧ BytesAt w' a l ∧ Kept w5 w') := fun w5 k5 => by
                  have := input_any (Dv.kept0 HDq.out (k8V.trans' k5))
                  rw [HM9.out.2.2.1] at this
                  refine this.mono ?_
                  rintro e w' ⟨a, cap, he, h1, h2, h3⟩
                  exact ⟨a, cap, he, h1, h3⟩
                have HSA1 : Hid (∀ w5 oa ca, Kept V w5 → BytesAt w5 oa m9.scr → Calls Try.prog 16 #[.slice oa t ca, .slice (some ⟨g7, 0, none⟩) t c7] w5 fun e w' => e = .returned (.bool true) ∧ w' = w5) := fun w5 oa ca k5 g5 => by
                  have := same_true w5 oa (some ⟨g7, 0, none⟩) ca c7 m9.scr g5 (RowAt.bytes (RowAt.kept (S := fun _ => False) HRq.out (k8V.trans' k5) (fun h => h))) (by rw [HL9.out]; omega)
                  rw [HL9.out] at this
                  exact this
                have HSA2 : Hid (∀ w5 oa ca, Kept V w5 → BytesAt w5 oa l → Calls Try.prog 16 #[.slice oa l.length ca, .slice ia l.length ic] w5 fun e w' => e = .returned (.bool true) ∧ w' = w5) := fun w5 oa ca k5 g5 =>
                  same_true w5 oa ia ca ic l g5 (BytesAt.kept (S := fun _ => False) HLS.out (Same.trans' k02 (k2V.trans' k5)) (fun _ _ h => h)) (by omega)
                obtain ⟨p0, p1, p2, p3, p4⟩ := HBXV.out V (Same.refl _ _)
                have hec := eql_counts 0 0 1 1
                have hgc := Try.guardC
                have K2V : Hid _ := k2V
                have HV : Hid _ := hV
                clear k8 k8V hbV k2V
                go_wp2_with fail
                go_region_held3 (fun w' => w'.cell? ⟨w.heap.size, 2, none⟩ = some (.slice ia l.length ic) ∧ w'.cell? ⟨w8.heap.size, 0, none⟩ = some (.int .i64 0) ∧ w'.cell? ⟨w8.heap.size, 1, none⟩ = some (.int .i64 0) ∧ w'.cell? ⟨w8.heap.size, 2, none⟩ = some (.int .i64 1) ∧ w'.cell? ⟨w8.heap.size, 3, none⟩ = some (.int .i64 1))
                  ((refine HBXV.out _ ?_; (repeat (first | exact Same.refl _ _ | apply Same.alloc | apply Same.drew | refine Same.trans' ?_ ki7 | refine Same.trans' ?_ ki8)); done))
                  (first
                    | (go_at_call 18; refine Calls.mono (HIMG.out _ (by (repeat (first | exact Same.refl _ _ | apply Same.alloc | apply Same.drew | refine Same.trans' ?_ ki7 | refine Same.trans' ?_ ki8)); done)) ?_; rintro e w10 ⟨a10, c10, rfl, g10, ki7⟩)
                    | (go_at_call 17; refine Calls.mono (HINP.out _ (by (repeat (first | exact Same.refl _ _ | apply Same.alloc | apply Same.drew | refine Same.trans' ?_ ki7 | refine Same.trans' ?_ ki8)); done)) ?_; rintro e w11 ⟨a11, c11, rfl, g11, ki8⟩)
                    | (go_at_call 16; have hg11 := g11; refine Calls.mono (HSA2.out _ _ _ (by (repeat (first | exact Same.refl _ _ | apply Same.alloc | apply Same.drew | refine Same.trans' ?_ ki7 | refine Same.trans' ?_ ki8)); done) hg11) ?_; rintro e w12 ⟨rfl, hw12⟩; subst w12)
                    | (go_at_call 16; refine Calls.mono (HSA1.out _ _ _ (by (repeat (first | exact Same.refl _ _ | apply Same.alloc | apply Same.drew | refine Same.trans' ?_ ki7 | refine Same.trans' ?_ ki8)); done) g10) ?_; rintro e w12 ⟨rfl, hw12⟩; subst w12))
                all_goals
                  go_wp2_with fail
                  go_ret
                  exact ⟨rfl, Same.trans' (Same.trans' k02 K2V.out) (by (repeat (first | exact Same.refl _ _ | apply Same.alloc | apply Same.drew | refine Same.trans' ?_ ki7 | refine Same.trans' ?_ ki8)); done)⟩
end Go.Proofs.Ytipfoognpenafaa
