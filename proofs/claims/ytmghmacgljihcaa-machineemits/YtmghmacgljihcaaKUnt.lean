/- What is proved: untimely tells what the document says of a step that is right; the machine lies in memory. -/
import Derived.Test.YtmghmacgljihcaaKMal
namespace Go.Proofs.Ytmghmacgljihcaa
open Go.RowKit

set_option maxRecDepth 100000 in
set_option maxHeartbeats 1200000 in
theorem untimely15 {tg : Nat → Tg} {w : World} {mb sb vb : Nat} {lv : Value} {P : Nat → Option Nat} {L : List (TxM × Value)} {M : Mm} (h : Mi tg w mb sb vb lv P L M) (hv : Inv M) (kd : Int) (i : Nat) (gp : Int) (k v : ByteArray) (hi : i < M.ses.length) (hg0 : 0 ≤ gp) (hg1 : gp ≤ 1000) :
    Calls Try.prog 33 #[.pointer (some ⟨mb, 0, none⟩), .agg #[.int .i64 kd, .int .i64 (i : Int), .int .i64 gp, .string k, .string v]] w fun e w' => e = .returned (.int .i64 (codeU M ⟨kd, i, gp, k, v⟩)) ∧ Kept w w' := by
  have K0 : Hid (Kept w (w.alloc (.cells #[.int .i64 kd, .int .i64 (i : Int), .int .i64 gp, .string k, .string v] 32 (0, 0)))) := (Same.refl _ _).alloc _
  have HG : Hid _ := heap_new w (.cells #[.int .i64 kd, .int .i64 (i : Int), .int .i64 gp, .string k, .string v] 32 (0, 0))
  have HM : Hid (Mi tg w mb sb vb lv P L M) := h
  have HV : Hid (Inv M) := hv
  have hn := hv.s1
  have hc0 := hv.c0
  have hc1 := hv.c1
  have HOP : Hid (∀ W, Calls Try.prog 40 #[.agg #[.int .i64 kd, .int .i64 (i : Int), .int .i64 gp, .string k, .string v]] W fun e w' => e = .returned (.bool (isOb ⟨kd, i, gp, k, v⟩)) ∧ Kept W w') := fun W => operates15 W ⟨kd, i, gp, k, v⟩
  have w1 : IntKind.i64.wrap (M.clock + 1) = M.clock + 1 := by rw [IntKind.wrap_i64] <;> omega
  have w2 : IntKind.i64.wrap (M.clock + 1 + gp) = M.clock + 1 + gp := by rw [IntKind.wrap_i64] <;> omega
  have w3 : -9223372036854775808 ≤ M.clock + 1 ∧ M.clock + 1 ≤ 9223372036854775807 := by omega
  have w4 : -9223372036854775808 ≤ M.clock + 1 + gp ∧ M.clock + 1 + gp ≤ 9223372036854775807 := by omega
  clear h hv
  have hi' := hi
  obtain ⟨n, en⟩ : ∃ n, n = M.ses.length := ⟨_, rfl⟩
  have EN : Hid (n = M.ses.length) := en
  rw [← en] at hi hn
  clear en
  have hi2 : (i : Int) < (n : Int) := by omega
  have hi3 : decide ((i : Int) < (n : Int)) = true := decide_eq_true hi2
  generalize hcd : codeU M ⟨kd, i, gp, k, v⟩ = cd
  have HCD : Hid (codeU M ⟨kd, i, gp, k, v⟩ = cd) := hcd
  clear hcd
  have HCU : Hid (cd = if kd = 1 ∧ (M.at i).act.isSome = true then 155 else if kd ≠ 1 ∧ (M.at i).act.isNone = true then 156 else if kd = 1 ∧ M.begun = 4096 then 71 else if isO ⟨kd, i, gp, k, v⟩ ∧ opsN (M.at i).act = 16 then 63 else if 1099511627776 < M.clock + 1 + gp then 154 else 0) := (show codeU M ⟨kd, i, gp, k, v⟩ = cd from HCD.out).symm
  clear HCD
  go_enter Try.func33, Try.ntmps33
  go_upto_region 1 with fail
  generalize w.alloc (.cells #[.int .i64 kd, .int .i64 (i : Int), .int .i64 gp, .string k, .string v] 32 (0, 0)) = W at *
  generalize w.heap.size = g at *
  have hgl := lt_of_heap HG.out
  have HCL : Hid (∀ W', Kept W W' → (g < W'.heap.size ∧ W'.cell? ⟨g, 0, none⟩ = some (.int .i64 kd) ∧ W'.cell? ⟨g, 1, none⟩ = some (.int .i64 (i : Int)) ∧ W'.cell? ⟨g, 2, none⟩ = some (.int .i64 gp) ∧ W'.cell? ⟨g, 3, none⟩ = some (.string k) ∧ W'.cell? ⟨g, 4, none⟩ = some (.string v)) ∧ mb < W'.heap.size ∧ W'.cell? ⟨mb, 1, none⟩ = some (.int .i64 M.clock) ∧ W'.cell? ⟨mb, 2, none⟩ = some (.int .i64 M.begun) ∧ W'.cell? ⟨mb, 3, none⟩ = some (.slice (some ⟨sb, 0, none⟩) n n) ∧ sb < W'.heap.size ∧ W'.cell? ⟨sb, i * 2 + 1, none⟩ = some (.pointer ((P i).map fun g => ⟨g, 0, none⟩))) := fun W' k' => by
    have t : ∀ o, W'.cell? ⟨g, o, none⟩ = W.cell? ⟨g, o, none⟩ := fun o => k'.cell (p := ⟨g, o, none⟩) hgl (fun e => e)
    obtain ⟨hmb, ⟨-, c1, c2, c3, -, -⟩, -⟩ := Mi.cells (Mi.on HM.out (Same.trans' K0.out k'))
    obtain ⟨hsb, -, d1, -⟩ := Mi.sess (Mi.on HM.out (Same.trans' K0.out k')) hi'
    rw [← EN.out] at c3
    exact ⟨⟨Nat.lt_of_lt_of_le hgl k'.size, (t 0).trans ((cell_of HG.out 0).trans rfl), (t 1).trans ((cell_of HG.out 1).trans rfl), (t 2).trans ((cell_of HG.out 2).trans rfl), (t 3).trans ((cell_of HG.out 3).trans rfl), (t 4).trans ((cell_of HG.out 4).trans rfl)⟩, hmb, c1, c2, c3, hsb, d1⟩
  clear HG
  obtain ⟨⟨-, x0, x1, x2, x3, x4⟩, hmb, c1, c2, c3, hsb, d1⟩ := HCL.out W (Same.refl _ _)
  cases e : (M.at i).act with
  | none =>
    rw [Mi.non HM.out i e] at d1
    simp only [Option.map_none] at d1
    have EA : Hid ((M.at i).act = none) := e
    rw [e] at HCU
    clear e
    by_cases h1 : kd = 1
    · have f1 : (kd == 1) = true := by simpa using h1
      have eo : isOb ⟨kd, i, gp, k, v⟩ = false := decide_eq_false fun h => by rcases h with h | h | h <;> (simp only at h; omega)
      rw [eo] at HOP
      have HCV : Hid (cd = if M.begun = 4096 then 71 else if 1099511627776 < M.clock + 1 + gp then 154 else 0) := by
        show cd = _
        rw [HCU.out]
        rw [if_neg (fun h => by cases h.2), if_neg (fun h => h.1 h1)]
        by_cases hb : M.begun = 4096
        · rw [if_pos ⟨h1, hb⟩, if_pos hb]
        · rw [if_neg (fun h => hb h.2), if_neg hb, if_neg (fun h => by have := h.2; simp [opsN] at this)]
      by_cases hb : M.begun = 4096
      · have EC : Hid (cd = 71) := (show cd = _ from HCV.out).trans (if_pos hb)
        have f2 : (M.begun == 4096) = true := by simpa using hb
        clear HCU HCV hb eo f1
        subst h1
        generalize M.begun = bg at *
        go_wp2_with fail
        go_quiet (fail)
        go_wp2_with fail
        go_ret
        exact ⟨by rw [show cd = _ from EC.out]; rfl, (K0.out : Kept _ _).drewN _⟩
      · have f2 : (M.begun == 4096) = false := by simpa using hb
        have HCW : Hid (cd = if 1099511627776 < M.clock + 1 + gp then 154 else 0) := (show cd = _ from HCV.out).trans (if_neg hb)
        clear HCU HCV
        clear hb eo f1
        subst h1
        generalize M.begun = bg at *
        rcases Classical.em (1099511627776 < M.clock + 1 + gp) with hz | hz
        · have EC : Hid (cd = 154) := (show cd = _ from HCW.out).trans (by rw [if_pos hz])
          have z1 : decide (1099511627776 < M.clock + 1 + gp) = true := decide_eq_true hz
          clear HCW
          generalize M.clock = cl at *
          go_wp2_with fail
          go_quiet (fail)
          go_wp2_with fail
          refine Calls.mono (HOP.out _) ?_
          rintro r w5 ⟨rfl, k5⟩
          have K5 : Hid (Kept w w5) := Same.trans' (Same.trans' K0.out ((Same.refl _ W).drewN _)) k5
          obtain ⟨⟨hgl5, y0, y1, y2, y3, y4⟩, hmb5, e1, e2, e3, hsb5, f1⟩ := HCL.out w5 (Same.trans' ((Same.refl _ W).drewN _) k5)
          clear k5
          go_wp2_with fail
          go_quiet (fail)
          go_wp2_with fail
          go_ret
          exact ⟨by rw [show cd = _ from EC.out]; rfl, (K5.out : Kept _ _).drewN _⟩
        · have EC : Hid (cd = 0) := (show cd = _ from HCW.out).trans (by rw [if_neg hz])
          have z1 : decide (1099511627776 < M.clock + 1 + gp) = false := decide_eq_false hz
          clear HCW
          generalize M.clock = cl at *
          go_wp2_with fail
          go_quiet (fail)
          go_wp2_with fail
          refine Calls.mono (HOP.out _) ?_
          rintro r w5 ⟨rfl, k5⟩
          have K5 : Hid (Kept w w5) := Same.trans' (Same.trans' K0.out ((Same.refl _ W).drewN _)) k5
          obtain ⟨⟨hgl5, y0, y1, y2, y3, y4⟩, hmb5, e1, e2, e3, hsb5, f1⟩ := HCL.out w5 (Same.trans' ((Same.refl _ W).drewN _) k5)
          clear k5
          go_wp2_with fail
          go_quiet (fail)
          go_wp2_with fail
          go_ret
          exact ⟨by rw [show cd = _ from EC.out]; rfl, (K5.out : Kept _ _).drewN _⟩
    · have f1 : (kd == 1) = false := by simpa using h1
      have f9 : (kd != 1) = true := by unfold bne; rw [f1]; rfl
      have EC : Hid (cd = 156) := (show cd = _ from HCU.out).trans (by rw [if_neg (fun h => h1 h.1), if_pos ⟨h1, rfl⟩])
      clear HCU
      go_wp2_with fail
      go_quiet (fail)
      go_wp2_with fail
      go_ret
      exact ⟨by rw [show cd = _ from EC.out]; rfl, (K0.out : Kept _ _).drewN _⟩
  | some a =>
    obtain ⟨gt, ov, tv, hp, hx⟩ := Mi.act HM.out i a e
    have hac := (show Inv M from HV.out).ac i a e
    rw [hp] at d1
    simp only [Option.map_some] at d1
    rw [e] at HCU
    have HP : Hid (P i = some gt) := hp
    have HX : Hid (TxAt tg w i gt a ov tv) := hx
    have hn16 := hac.n
    clear e hp hx hac
    by_cases h1 : kd = 1
    · have f1 : (kd == 1) = true := by simpa using h1
      have EC : Hid (cd = 155) := (show cd = _ from HCU.out).trans (by rw [if_pos ⟨h1, rfl⟩])
      clear HCU f1
      subst h1
      go_wp2_with fail
      go_quiet (fail)
      go_wp2_with fail
      go_ret
      exact ⟨by rw [show cd = _ from EC.out]; rfl, (K0.out : Kept _ _).drewN _⟩
    · have f1 : (kd == 1) = false := by simpa using h1
      have f9 : (kd != 1) = true := by unfold bne; rw [f1]; rfl
      have HCV : Hid (cd = if isO ⟨kd, i, gp, k, v⟩ ∧ a.t.ops.length = 16 then 63 else if 1099511627776 < M.clock + 1 + gp then 154 else 0) := by
        show cd = _
        rw [HCU.out, if_neg (fun h => h1 h.1), if_neg (fun h => by cases h.2), if_neg (fun h => h1 h.1)]
        rfl
      obtain ⟨oa, ocp, eov, -⟩ := OwnO.ops HX.out.ops
      have HXC : Hid (∀ W', Kept W W' → gt < W'.heap.size ∧ W'.cell? ⟨gt, 7, none⟩ = some (.slice oa a.t.ops.length ocp)) := fun W' k' => by
        obtain ⟨h1, ⟨-, -, -, -, -, -, -, c7, -⟩, -⟩ := TxB.cells ((k'.block gt (Nat.lt_of_lt_of_le (lt_of_heap HX.out.obj) (Same.size K0.out)) (fun e => e)).trans ((Same.block K0.out gt (lt_of_heap HX.out.obj) (fun e => e)).trans HX.out.obj))
        exact ⟨h1, by rw [c7, eov]⟩
      by_cases ho : isO ⟨kd, i, gp, k, v⟩
      · have eo : isOb ⟨kd, i, gp, k, v⟩ = true := decide_eq_true ho
        rw [eo] at HOP
        by_cases h16 : a.t.ops.length = 16
        · have EC : Hid (cd = 63) := (show cd = _ from HCV.out).trans (if_pos ⟨ho, h16⟩)
          have f2 : ((a.t.ops.length : Int) == 16) = true := by rw [h16]; rfl
          have f3 : (a.t.ops.length : Int) = 16 := by rw [h16]; rfl
          rw [h16] at HXC
          clear HCU HCV ho eo h16 f2 f3
          go_wp2_with fail
          go_quiet (fail)
          go_wp2_with fail
          refine Calls.mono (HOP.out _) ?_
          rintro r w5 ⟨rfl, k5⟩
          have K5 : Hid (Kept w w5) := Same.trans' (Same.trans' K0.out ((Same.refl _ W).drewN _)) k5
          obtain ⟨⟨hgl5, y0, y1, y2, y3, y4⟩, hmb5, e1, e2, e3, hsb5, f1⟩ := HCL.out w5 (Same.trans' ((Same.refl _ W).drewN _) k5)
          obtain ⟨hgt5, c75⟩ := HXC.out w5 (Same.trans' ((Same.refl _ W).drewN _) k5)
          clear k5
          go_wp2_with fail
          go_ret
          exact ⟨by rw [show cd = _ from EC.out]; rfl, K5.out⟩
        · have f2 : ((a.t.ops.length : Int) == 16) = false := by simp; omega
          have f3 : ¬ (a.t.ops.length : Int) = 16 := by omega
          have HCW : Hid (cd = if 1099511627776 < M.clock + 1 + gp then 154 else 0) := (show cd = _ from HCV.out).trans (if_neg (fun h => h16 h.2))
          clear HCU HCV
          clear ho eo eov HX
          generalize a.t.ops.length = on at *
          rcases Classical.em (1099511627776 < M.clock + 1 + gp) with hz | hz
          · have EC : Hid (cd = 154) := (show cd = _ from HCW.out).trans (by rw [if_pos hz])
            have z1 : decide (1099511627776 < M.clock + 1 + gp) = true := decide_eq_true hz
            clear HCW
            generalize M.clock = cl at *
            go_wp2_with fail
            go_quiet (fail)
            go_wp2_with fail
            refine Calls.mono (HOP.out _) ?_
            rintro r w5 ⟨rfl, k5⟩
            have K5 : Hid (Kept w w5) := Same.trans' (Same.trans' K0.out ((Same.refl _ W).drewN _)) k5
            obtain ⟨⟨hgl5, y0, y1, y2, y3, y4⟩, hmb5, e1, e2, e3, hsb5, f1⟩ := HCL.out w5 (Same.trans' ((Same.refl _ W).drewN _) k5)
            obtain ⟨hgt5, c75⟩ := HXC.out w5 (Same.trans' ((Same.refl _ W).drewN _) k5)
            clear k5
            go_wp2_with fail
            go_quiet (fail)
            go_wp2_with fail
            go_ret
            exact ⟨by rw [show cd = _ from EC.out]; rfl, (K5.out : Kept _ _).drewN _⟩
          · have EC : Hid (cd = 0) := (show cd = _ from HCW.out).trans (by rw [if_neg hz])
            have z1 : decide (1099511627776 < M.clock + 1 + gp) = false := decide_eq_false hz
            clear HCW
            generalize M.clock = cl at *
            go_wp2_with fail
            go_quiet (fail)
            go_wp2_with fail
            refine Calls.mono (HOP.out _) ?_
            rintro r w5 ⟨rfl, k5⟩
            have K5 : Hid (Kept w w5) := Same.trans' (Same.trans' K0.out ((Same.refl _ W).drewN _)) k5
            obtain ⟨⟨hgl5, y0, y1, y2, y3, y4⟩, hmb5, e1, e2, e3, hsb5, f1⟩ := HCL.out w5 (Same.trans' ((Same.refl _ W).drewN _) k5)
            obtain ⟨hgt5, c75⟩ := HXC.out w5 (Same.trans' ((Same.refl _ W).drewN _) k5)
            clear k5
            go_wp2_with fail
            go_quiet (fail)
            go_wp2_with fail
            go_ret
            exact ⟨by rw [show cd = _ from EC.out]; rfl, (K5.out : Kept _ _).drewN _⟩
      · have eo : isOb ⟨kd, i, gp, k, v⟩ = false := decide_eq_false ho
        rw [eo] at HOP
        have HCW : Hid (cd = if 1099511627776 < M.clock + 1 + gp then 154 else 0) := (show cd = _ from HCV.out).trans (if_neg (fun h => ho h.1))
        clear HCU HCV
        clear ho eo
        rcases Classical.em (1099511627776 < M.clock + 1 + gp) with hz | hz
        · have EC : Hid (cd = 154) := (show cd = _ from HCW.out).trans (by rw [if_pos hz])
          have z1 : decide (1099511627776 < M.clock + 1 + gp) = true := decide_eq_true hz
          clear HCW
          generalize M.clock = cl at *
          go_wp2_with fail
          go_quiet (fail)
          go_wp2_with fail
          refine Calls.mono (HOP.out _) ?_
          rintro r w5 ⟨rfl, k5⟩
          have K5 : Hid (Kept w w5) := Same.trans' (Same.trans' K0.out ((Same.refl _ W).drewN _)) k5
          obtain ⟨⟨hgl5, y0, y1, y2, y3, y4⟩, hmb5, e1, e2, e3, hsb5, f1⟩ := HCL.out w5 (Same.trans' ((Same.refl _ W).drewN _) k5)
          clear k5
          go_wp2_with fail
          go_quiet (fail)
          go_wp2_with fail
          go_ret
          exact ⟨by rw [show cd = _ from EC.out]; rfl, (K5.out : Kept _ _).drewN _⟩
        · have EC : Hid (cd = 0) := (show cd = _ from HCW.out).trans (by rw [if_neg hz])
          have z1 : decide (1099511627776 < M.clock + 1 + gp) = false := decide_eq_false hz
          clear HCW
          generalize M.clock = cl at *
          go_wp2_with fail
          go_quiet (fail)
          go_wp2_with fail
          refine Calls.mono (HOP.out _) ?_
          rintro r w5 ⟨rfl, k5⟩
          have K5 : Hid (Kept w w5) := Same.trans' (Same.trans' K0.out ((Same.refl _ W).drewN _)) k5
          obtain ⟨⟨hgl5, y0, y1, y2, y3, y4⟩, hmb5, e1, e2, e3, hsb5, f1⟩ := HCL.out w5 (Same.trans' ((Same.refl _ W).drewN _) k5)
          clear k5
          go_wp2_with fail
          go_quiet (fail)
          go_wp2_with fail
          go_ret
          exact ⟨by rw [show cd = _ from EC.out]; rfl, (K5.out : Kept _ _).drewN _⟩
end Go.Proofs.Ytmghmacgljihcaa
