/- What is proved: carryOut does a step that nothing speaks against, as the document says; the machine lies in memory. -/
import Derived.Test.YtmghmacgljihcaaKRdo
import Derived.Test.YtmghmacgljihcaaKComW
namespace Go.Proofs.Ytmghmacgljihcaa
open Go.RowKit

theorem Mi.tick {tg : Nat → Tg} {w : World} {mb sb vb : Nat} {lv : Value} {P : Nat → Option Nat} {L : List (TxM × Value)} {M : Mm} (h : Mi tg w mb sb vb lv P L M) (c : Int) : Mi tg (w.setCell ⟨mb, 1, none⟩ (.int .i64 c)) mb sb vb lv P L (M.tick c) ∧ Same (fun b => tg b ≠ .out) w (w.setCell ⟨mb, 1, none⟩ (.int .i64 c)) := by
  have hs : Same (fun b => b = mb) w (w.setCell ⟨mb, 1, none⟩ (.int .i64 c)) := Same.setCell (S := fun b => b = mb) (Same.refl _ w) ⟨mb, 1, none⟩ (.inr rfl) _
  have hno : ∀ b T, tg b = T → T ≠ .mach → ¬ b = mb := fun b T hT h1 e => h1 (by rw [← hT, e]; exact h.tm)
  refine ⟨⟨by simpa [Mm.tick] using setCell_at h.obj 1 (.int .i64 c), h.tm, ?_, h.ts, fun j a ha => ?_, h.non, h.st.off hs fun b hb => hno b _ hb (fun e => by cases e), row_kept h.lg hs fun b hb => hno b _ (h.tl b hb) (fun e => by cases e), h.tl, fun x hx => ⟨row_kept (h.lo x hx).1 hs fun b hb => hno b _ ((h.lo x hx).2 b hb) (fun e => by cases e), (h.lo x hx).2⟩, h.ll, fun b hb => Nat.lt_of_lt_of_le (h.lt b hb) hs.size⟩, hs.mono fun b _ hb => by rw [hb, h.tm]; exact fun e => by cases e⟩
  · obtain ⟨arr, h1, h2⟩ := h.ses
    exact ⟨arr, (hs.block sb (lt_of_heap h1) (hno sb _ h.ts (fun e => by cases e))).trans h1, h2⟩
  · obtain ⟨g, ov, tv, hp, hx⟩ := h.act j a ha
    exact ⟨g, ov, tv, hp, hx.kept hs fun b hb => by rcases hb with hb | hb | hb <;> exact hno b _ hb (fun e => by cases e)⟩
set_option maxRecDepth 100000 in
set_option maxHeartbeats 2400000 in
theorem carry15 {tg : Nat → Tg} {w : World} {mb sb vb : Nat} {lv : Value} {P : Nat → Option Nat} {L : List (TxM × Value)} {M : Mm} (h : Mi tg w mb sb vb lv P L M) (hv : Inv M) (kd : Int) (i : Nat) (gp : Int) (k v : ByteArray) (h0 : codeD M ⟨kd, i, gp, k, v⟩ = 0) :
    Calls Try.prog 34 #[.pointer (some ⟨mb, 0, none⟩), .agg #[.int .i64 kd, .int .i64 (i : Int), .int .i64 gp, .string k, .string v]] w fun e w' => e = .returned (.agg #[.bool (goM (M.tick (M.clock + 1 + gp)) M.clock ⟨kd, i, gp, k, v⟩).2.found, .string (goM (M.tick (M.clock + 1 + gp)) M.clock ⟨kd, i, gp, k, v⟩).2.value, .int .i64 (goM (M.tick (M.clock + 1 + gp)) M.clock ⟨kd, i, gp, k, v⟩).2.status]) ∧ MiP tg w mb sb vb (goM (M.tick (M.clock + 1 + gp)) M.clock ⟨kd, i, gp, k, v⟩).1 w' := by
  obtain ⟨hB, hU⟩ := codeD_zero h0
  obtain ⟨⟨b1, b1'⟩, b2, ⟨b3, b3'⟩, b4, b5⟩ := codeB_zero hB
  obtain ⟨u1, u2, u3⟩ := codeU_zero hU
  simp only [Int.toNat_natCast] at b1 b1' b2 b3 b3' b4 b5 u1 u2 u3
  have hc0 := hv.c0
  have hi : i < M.ses.length := by omega
  have HI : Hid (i < M.ses.length) := hi
  have HT : Hid (Inv (M.tick (M.clock + 1 + gp))) := hv.tick (by omega) u3
  obtain ⟨N, eN⟩ : ∃ N, N = goM (M.tick (M.clock + 1 + gp)) M.clock ⟨kd, i, gp, k, v⟩ := ⟨_, rfl⟩
  rw [← eN]
  have EN : Hid (N = goM (M.tick (M.clock + 1 + gp)) M.clock ⟨kd, i, gp, k, v⟩) := eN
  have w1 : IntKind.i64.wrap (1 + gp) = 1 + gp := by rw [IntKind.wrap_i64] <;> omega
  have w2 : IntKind.i64.wrap (M.clock + (1 + gp)) = M.clock + 1 + gp := by rw [IntKind.wrap_i64] <;> omega
  have w3 : -9223372036854775808 ≤ 1 + gp ∧ 1 + gp ≤ 9223372036854775807 := by omega
  have w4 : M.clock + (1 + gp) = M.clock + 1 + gp := by omega
  have w5 : -9223372036854775808 ≤ M.clock + 1 + gp ∧ M.clock + 1 + gp ≤ 9223372036854775807 := by omega
  have hcl : M.clock ≤ 1099511627776 := hv.c1
  have HLT : Hid (∀ b, tg b ≠ .out → b < w.heap.size) := h.lt
  obtain ⟨hmb, ⟨-, c1, -⟩, fz⟩ := Mi.cells h
  have fz1 := fz 1
  have HTK : Hid _ := Mi.tick h (M.clock + 1 + gp)
  have U1 : Hid _ := u1
  have U2 : Hid _ := u2
  have HKS : Hid (isO ⟨kd, i, gp, k, v⟩ → k.size ≤ 8) := fun ho => (b4 ho).2
  clear h hv h0 hB hU b4 b5 b2 fz eN u1 u2 u3 hi
  generalize hTC : M.clock + 1 + gp = TC at *
  generalize hCL : M.clock = CL at *
  clear hTC
  -- the world behind the tick
  have HW : Hid (∀ W, W = (((w.setCell ⟨mb, 1, none⟩ (.int .i64 TC)).alloc (.cells #[.int .i64 kd, .int .i64 (i : Int), .int .i64 gp, .string k, .string v] 32 (0, 0))).alloc (.cells #[.bool false, .string ⟨#[]⟩, .int .i64 0] 54 (0, 0))).drew → Mi tg W mb sb vb lv P L (M.tick TC) ∧ Same (fun b => tg b ≠ .out) w W ∧ StB W w.heap.size kd i gp k v ∧ AnB W (w.heap.size + 1) an0) := fun W eW => by
    obtain ⟨h1, h2⟩ := HTK.out
    have hz : (w.setCell ⟨mb, 1, none⟩ (.int .i64 TC)).heap.size = w.heap.size := size_set _ _ _
    have k1 : Kept (w.setCell ⟨mb, 1, none⟩ (.int .i64 TC)) W := by rw [eW]; exact (((Same.refl _ _).alloc _).alloc _).drew
    refine ⟨h1.on k1, h2.trans k1 fun _ _ e => e.elim, ?_, ?_⟩
    · have h5 := heap_new (w.setCell ⟨mb, 1, none⟩ (.int .i64 TC)) (.cells #[.int .i64 kd, .int .i64 (i : Int), .int .i64 gp, .string k, .string v] 32 (0, 0))
      rw [hz] at h5
      rw [eW]
      exact (heap_old _ _ (lt_of_heap h5)).trans h5
    · have h5 := heap_new ((w.setCell ⟨mb, 1, none⟩ (.int .i64 TC)).alloc (.cells #[.int .i64 kd, .int .i64 (i : Int), .int .i64 gp, .string k, .string v] 32 (0, 0))) (.cells #[.bool false, .string ⟨#[]⟩, .int .i64 0] 54 (0, 0))
      rw [World.size_alloc, hz] at h5
      rw [eW]
      exact h5
  go_enter Try.func34, Try.ntmps34
  go_upto_region 2 with fail
  go_cut [10] (fun s10 wx => wx = (((w.setCell ⟨mb, 1, none⟩ (.int .i64 TC)).alloc (.cells #[.int .i64 kd, .int .i64 (i : Int), .int .i64 gp, .string k, .string v] 32 (0, 0))).alloc (.cells #[.bool false, .string ⟨#[]⟩, .int .i64 0] 54 (0, 0))).drew)
  case first =>
    go_region
    all_goals
      go_wp2_with fail
      go_meet
      rfl
  case rest =>
    rename World => W
    obtain ⟨mi, hsw, hst, han⟩ := HW.out W hcut
    clear hcut HW HTK
    have MI : Hid (Mi tg W mb sb vb lv P L (M.tick TC)) := mi
    have HSW : Hid (Same (fun b => tg b ≠ .out) w W) := hsw
    have HST : Hid (StB W w.heap.size kd i gp k v) := hst
    have HAN : Hid (AnB W (w.heap.size + 1) an0) := han
    obtain ⟨hg3, x0, x1, x2, x3, x4⟩ := StB.cells hst
    obtain ⟨⟨z0, z1, z2⟩, hg4, q0, q1, q2⟩ := AnB.cells han
    have hw1 : w.heap.size ≤ w.heap.size + 1 := Nat.le_succ _
    have HFI : Hid (∀ M' w5, MiP tg W mb sb vb M' w5 → AnB w5 (w.heap.size + 1) an0 ∧ ∀ a b c, MiP tg w mb sb vb M' (((w5.setCell ⟨w.heap.size + 1, 0, none⟩ a).setCell ⟨w.heap.size + 1, 1, none⟩ b).setCell ⟨w.heap.size + 1, 2, none⟩ c)) := fun M' w5 m5 => ⟨(MiP.box HLT.out m5 hw1 hg4).trans HAN.out, fun a b c => MiP.ret HLT.out HSW.out m5 hw1 hg4 a b c⟩
    clear mi hsw hst han w1 w2 w3 w4 w5
    generalize w.heap.size + 1 = g4 at *
    generalize w.heap.size = g3 at *
    have hkd : kd = 1 ∨ kd = 2 ∨ kd = 3 ∨ kd = 4 ∨ kd = 5 ∨ kd = 6 := by omega
    clear b1 b1'
    rcases hkd with rfl | rfl | rfl | rfl | rfl | rfl
    · obtain ⟨hn, -⟩ := U1.out rfl
      have EQ : Hid (N = (beginM (M.tick TC) i CL, an0)) := (show N = _ from EN.out).trans (by unfold goM; simp only [Int.toNat_natCast]; rw [show ((M.tick TC).at i).act = none from hn])
      have hi : i < (M.tick TC).ses.length := HI.out
      have HBG : Hid _ := begin15 MI.out HT.out hi hn CL
      clear hn
      go_wp2_with fail
      refine Calls.mono HBG.out ?_
      rintro r w5 ⟨rfl, m5⟩
      obtain ⟨hb5, hr5⟩ := HFI.out _ w5 m5
      have HB2 : Hid (AnB w5 g4 an0) := hb5
      have HR5 : Hid _ := hr5
      obtain ⟨⟨z0, z1, z2⟩, hl2, q0, q1, q2⟩ := AnB.cells hb5
      clear m5 hb5 hr5
      go_wp2_with fail
      refine bodyPost_ret (results_c (a := 4) (t := 54) rfl rfl (loadVar_an (a := an0) (AnB.put HB2.out an0))) rfl ?_
      rw [show N = _ from EQ.out]
      exact ⟨rfl, HR5.out _ _ _⟩
    · obtain ⟨a, ha, hno⟩ := U2.out (by decide)
      have ha' : ((M.tick TC).at i).act = some a := ha
      obtain ⟨B, V, eS⟩ : ∃ B V, seeM (M.tick TC) a.t k = (B, V) := ⟨_, _, rfl⟩
      have EQ : Hid (N = (operM (M.tick TC) i a ⟨1, k, B, V⟩, (⟨B, V, 0⟩ : An))) := (show N = _ from EN.out).trans (by unfold goM; simp only [Int.toNat_natCast]; rw [ha']; simp only; rw [if_pos trivial, eS]; rfl)
      have HCT : Hid _ := read15 MI.out HT.out ha' 2 gp k v (by have := HKS.out (.inl rfl); unfold maxLen; omega) eS
      clear ha ha' hno eS
      go_wp2_with fail
      refine Calls.mono HCT.out ?_
      rintro r w5 ⟨rfl, m5⟩
      obtain ⟨hb5, hr5⟩ := HFI.out _ w5 m5
      have HB2 : Hid (AnB w5 g4 an0) := hb5
      have HR5 : Hid _ := hr5
      obtain ⟨⟨z0, z1, z2⟩, hl2, q0, q1, q2⟩ := AnB.cells hb5
      clear m5 hb5 hr5
      go_wp2_with fail
      refine bodyPost_ret (results_c (a := 4) (t := 54) rfl rfl (loadVar_an (a := (⟨B, V, 0⟩ : An)) (AnB.put HB2.out (⟨B, V, 0⟩ : An)))) rfl ?_
      rw [show N = _ from EQ.out]
      exact ⟨rfl, HR5.out _ _ _⟩
    · obtain ⟨a, ha, hno⟩ := U2.out (by decide)
      have ha' : ((M.tick TC).at i).act = some a := ha
      have EQ : Hid (N = (operM (M.tick TC) i a ⟨2, k, true, v⟩, an0)) := (show N = _ from EN.out).trans (by unfold goM; simp only [Int.toNat_natCast]; rw [ha']; simp only; rw [if_neg (by decide)]; rw [if_pos trivial]; rfl)
      have HCT : Hid _ := operate15 MI.out HT.out ha' ⟨2, k, true, v⟩
      clear ha ha' hno
      go_wp2_with fail
      refine Calls.mono HCT.out ?_
      rintro r w5 ⟨rfl, m5⟩
      obtain ⟨hb5, hr5⟩ := HFI.out _ w5 m5
      have HB2 : Hid (AnB w5 g4 an0) := hb5
      have HR5 : Hid _ := hr5
      obtain ⟨⟨z0, z1, z2⟩, hl2, q0, q1, q2⟩ := AnB.cells hb5
      clear m5 hb5 hr5
      go_wp2_with fail
      refine bodyPost_ret (results_c (a := 4) (t := 54) rfl rfl (loadVar_an (a := an0) (AnB.put HB2.out an0))) rfl ?_
      rw [show N = _ from EQ.out]
      exact ⟨rfl, HR5.out _ _ _⟩
    · obtain ⟨a, ha, hno⟩ := U2.out (by decide)
      have ha' : ((M.tick TC).at i).act = some a := ha
      have EQ : Hid (N = (operM (M.tick TC) i a ⟨3, k, false, ⟨#[]⟩⟩, an0)) := (show N = _ from EN.out).trans (by unfold goM; simp only [Int.toNat_natCast]; rw [ha']; simp only; rw [if_neg (by decide)];  rw [if_neg (by decide)]; rw [if_pos trivial]; rfl)
      have HCT : Hid _ := operate15 MI.out HT.out ha' ⟨3, k, false, ⟨#[]⟩⟩
      clear ha ha' hno
      go_wp2_with fail
      refine Calls.mono HCT.out ?_
      rintro r w5 ⟨rfl, m5⟩
      obtain ⟨hb5, hr5⟩ := HFI.out _ w5 m5
      have HB2 : Hid (AnB w5 g4 an0) := hb5
      have HR5 : Hid _ := hr5
      obtain ⟨⟨z0, z1, z2⟩, hl2, q0, q1, q2⟩ := AnB.cells hb5
      clear m5 hb5 hr5
      go_wp2_with fail
      refine bodyPost_ret (results_c (a := 4) (t := 54) rfl rfl (loadVar_an (a := an0) (AnB.put HB2.out an0))) rfl ?_
      rw [show N = _ from EQ.out]
      exact ⟨rfl, HR5.out _ _ _⟩
    · obtain ⟨a, ha, hno⟩ := U2.out (by decide)
      have ha' : ((M.tick TC).at i).act = some a := ha
      have EQ : Hid (N = (comtM (M.tick TC) i a, comtA (M.tick TC) a)) := (show N = _ from EN.out).trans (by unfold goM; simp only [Int.toNat_natCast]; rw [ha']; simp only; rw [if_neg (by decide)];  rw [if_neg (by decide)];  rw [if_neg (by decide)]; rw [if_pos trivial])
      have HCT : Hid _ := commit15 MI.out HT.out ha'
      clear ha ha' hno
      go_wp2_with fail
      refine Calls.mono HCT.out ?_
      rintro r w5 ⟨rfl, m5⟩
      obtain ⟨hb5, hr5⟩ := HFI.out _ w5 m5
      have HB2 : Hid (AnB w5 g4 an0) := hb5
      have HR5 : Hid _ := hr5
      obtain ⟨⟨z0, z1, z2⟩, hl2, q0, q1, q2⟩ := AnB.cells hb5
      clear m5 hb5 hr5
      go_wp2_with fail
      refine bodyPost_ret (results_c (a := 4) (t := 54) rfl rfl (loadVar_an (a := comtA (M.tick TC) a) (AnB.put HB2.out (comtA (M.tick TC) a)))) rfl ?_
      rw [show N = _ from EQ.out]
      exact ⟨rfl, HR5.out _ _ _⟩
    · obtain ⟨a, ha, hno⟩ := U2.out (by decide)
      have ha' : ((M.tick TC).at i).act = some a := ha
      have EQ : Hid (N = (finM (M.tick TC) i a 0, an0)) := (show N = _ from EN.out).trans (by unfold goM; simp only [Int.toNat_natCast]; rw [ha']; simp only; rw [if_neg (by decide)];  rw [if_neg (by decide)];  rw [if_neg (by decide)];  rw [if_neg (by decide)])
      have HCT : Hid _ := finish15 MI.out (Inv.s1 HT.out) (Nat.le_of_lt (Inv.log_lt HT.out ha')) ha' 0
      clear ha ha' hno
      go_wp2_with fail
      refine Calls.mono HCT.out ?_
      rintro r w5 ⟨rfl, m5⟩
      obtain ⟨hb5, hr5⟩ := HFI.out _ w5 m5
      have HB2 : Hid (AnB w5 g4 an0) := hb5
      have HR5 : Hid _ := hr5
      obtain ⟨⟨z0, z1, z2⟩, hl2, q0, q1, q2⟩ := AnB.cells hb5
      clear m5 hb5 hr5
      go_wp2_with fail
      refine bodyPost_ret (results_c (a := 4) (t := 54) rfl rfl (loadVar_an (a := an0) (AnB.put HB2.out an0))) rfl ?_
      rw [show N = _ from EQ.out]
      exact ⟨rfl, HR5.out _ _ _⟩
end Go.Proofs.Ytmghmacgljihcaa
