/- What is proved: commit finishes a session's active transaction as the document says, and lays its versions into the store; the machine lies in memory. -/
import Derived.Test.YtmghmacgljihcaaKCom
import Derived.Test.YtmghmacgljihcaaKSee
namespace Go.Proofs.Ytmghmacgljihcaa
open Go.RowKit

theorem insts_take {l : List OpM} {j : Nat} {o : OpM} (h : l[j]? = some o) (A : List En) (c n : Int) : insts A c n (l.take (j + 1)) = inst (insts A c n (l.take j)) o.key ⟨c, n, o.found, o.value⟩ := by
  rw [List.take_add_one, h]
  exact insts_snoc _ _ _ _ _
set_option maxRecDepth 100000 in
set_option maxHeartbeats 3200000 in
theorem commit15 {tg : Nat → Tg} {w : World} {mb sb vb : Nat} {lv : Value} {P : Nat → Option Nat} {L : List (TxM × Value)} {M : Mm} (h : Mi tg w mb sb vb lv P L M) (hv : Inv M) {i : Nat} {a : Ac} (ha : (M.at i).act = some a) :
    Calls Try.prog 44 #[.pointer (some ⟨mb, 0, none⟩), .int .i64 (i : Int)] w fun e w' => e = .returned (.agg #[.bool (comtA M a).found, .string (comtA M a).value, .int .i64 (comtA M a).status]) ∧ MiP tg w mb sb vb (comtM M i a) w' := by
  obtain ⟨X, eX⟩ : ∃ X, X = comtA M a := ⟨_, rfl⟩
  obtain ⟨N, eN⟩ : ∃ N, N = comtM M i a := ⟨_, rfl⟩
  rw [← eX, ← eN]
  have EX : Hid (X = comtA M a) := eX
  have ENM : Hid (N = comtM M i a) := eN
  clear eX eN
  have hi := at_lt ha
  obtain ⟨g, ov, tv, hp, hx⟩ := h.act i a ha
  have hac := hv.ac i a ha
  have hlog := hv.log_lt ha
  have hA : M.A.length ≤ 65536 := by have := hv.al; omega
  have hs1 := hv.s1
  have HLT : Hid (∀ b, tg b ≠ .out → b < w.heap.size) := h.lt
  have K0 : Hid (Kept w (w.alloc (.cells #[.bool false, .string ⟨#[]⟩, .int .i64 0] 54 (0, 0)))) := (Same.refl _ _).alloc _
  have HB0 : Hid (AnB (w.alloc (.cells #[.bool false, .string ⟨#[]⟩, .int .i64 0] 54 (0, 0))) w.heap.size an0) := heap_new w _
  have hgs : w.heap.size ≤ w.heap.size := Nat.le_refl _
  have HM : Hid (Mi tg w mb sb vb lv P L M) := h
  have HX : Hid (TxAt tg w i g a ov tv) := hx
  have HAC : Hid (AcI M.clock a) := hac
  have HPP : Hid (P i = some g) := hp
  have HAA : Hid ((M.at i).act = some a) := ha
  obtain ⟨n, en⟩ : ∃ n, n = M.ses.length := ⟨_, rfl⟩
  have EN : Hid (n = M.ses.length) := en
  have hi' := hi
  rw [← en] at hi hs1
  have hi2 : (i : Int) < (n : Int) := by omega
  have hi3 : decide ((i : Int) < (n : Int)) = true := decide_eq_true hi2
  clear h hv ha hx hac hp en
  go_enter Try.func44, Try.ntmps44
  go_upto_region 1 with fail
  generalize hW : w.alloc (.cells #[.bool false, .string ⟨#[]⟩, .int .i64 0] 54 (0, 0)) = W at *
  generalize hgg : w.heap.size = g4 at HB0 ⊢
  have hgw : w.heap.size ≤ g4 := Nat.le_of_eq hgg
  clear hW hgg hgs
  have hg4 := lt_of_heap HB0.out
  obtain ⟨hmb, ⟨c0, -, -, c3, -, -⟩, -⟩ := Mi.cells (Mi.on HM.out K0.out)
  obtain ⟨hsb, -, d1, -⟩ := Mi.sess (Mi.on HM.out K0.out) hi'
  rw [HPP.out] at d1
  simp only [Option.map_some] at d1
  rw [← EN.out] at c3
  have HOT : Hid _ := overtaken15 (Mi.on HM.out K0.out) (TxB.on HX.out.obj K0.out) (OwnO.on HX.out.ops K0.out) HAC.out.n (fun o ho => (HAC.out.key o ho).2.1) hA
  have HFINS : Hid (∀ W' M', MiP tg W mb sb vb M' W' → M'.ses = M.ses → M'.log = M.log → ∀ st, Calls Try.prog 45 #[.pointer (some ⟨mb, 0, none⟩), .int .i64 (i : Int), .int .i64 st] W' fun e w' => e = .returned (.tuple #[]) ∧ MiP tg W mb sb vb (finM M' i a st) w') := fun W' M' hp es el st => by
    obtain ⟨tg', lv', P', L', h1, h2, h3⟩ := hp
    refine Calls.mono (finish15 h1 (by rw [es, ← EN.out]; exact hs1) (by rw [el]; omega) (by unfold Mm.at; rw [es]; exact HAA.out) st) fun e w' he => ⟨he.1, ?_⟩
    obtain ⟨tg2, lv2, P2, L2, g1, g2, g3⟩ := he.2
    exact ⟨tg2, lv2, P2, L2, g1, fun b hb => by
      rcases g2 b hb with h | h
      · exact h2 b h
      · exact .inr (Nat.le_trans h3.size h), h3.trans g3 fun b hb e => by
      rcases h2 b e with h | h
      · exact h
      · omega⟩
  have HM0 : Hid (MiP tg W mb sb vb M W) := MiP.start (Mi.on HM.out K0.out)
  by_cases hlo : lost M a = true
  · have e1 : comtM M i a = finM M i a 0 := by unfold comtM; rw [if_pos hlo]
    have e2 : comtA M a = an0 := by unfold comtA; rw [if_pos hlo]; rfl
    have f1 : (M.flaw == 1) = false ∧ over M.A a.t.f2 (outc a.t.ops) = true := by
      unfold lost at hlo
      simpa using hlo
    have f2 := f1.1
    have f5 : (M.flaw != 1) = true := by unfold bne; rw [f1.1]; rfl
    have f6 : ¬ M.flaw = 1 := by simpa using f1.1
    rw [f1.2] at HOT
    have E1 : Hid (N = finM M i a 0) := (show N = _ from ENM.out).trans e1
    have E2 : Hid (X = an0) := (show X = _ from EX.out).trans e2
    clear e1 e2 f1 hlo ENM EX
    generalize M.flaw = fl at *
    go_wp2_with fail
    refine Calls.mono HOT.out ?_
    rintro r w1 ⟨rfl, k1⟩
    have HF1 : Hid _ := HFINS.out w1 M (MiP.on HM0.out k1) rfl rfl 0
    clear k1
    go_wp2_with fail
    refine Calls.mono HF1.out ?_
    rintro r w2 ⟨rfl, m2⟩
    have M2 : Hid _ := m2
    have HB2 : Hid (AnB w2 g4 an0) := (MiP.box HLT.out m2 hgw hg4).trans HB0.out
    obtain ⟨⟨z0, z1, z2⟩, hl2, q0, q1, q2⟩ := AnB.cells HB2.out
    clear m2
    go_wp2_with fail
    refine bodyPost_ret (results_c (a := 4) (t := 54) rfl rfl (loadVar_an (a := an0) (AnB.put HB2.out an0))) rfl ?_
    rw [show N = _ from E1.out, show X = _ from E2.out]
    exact ⟨rfl, MiP.ret HLT.out (Kept.to K0.out _) M2.out hgw hg4 _ _ _⟩
  · have e1 : comtM M i a = finM { M with A := insts M.A M.clock M.log.length (outc a.t.ops) } i a 1 := by unfold comtM; rw [if_neg hlo]
    have e2 : comtA M a = ⟨false, ⟨#[]⟩, 1⟩ := by unfold comtA; rw [if_neg hlo]
    have E1 : Hid (N = finM { M with A := insts M.A M.clock M.log.length (outc a.t.ops) } i a 1) := (show N = _ from ENM.out).trans e1
    have E2 : Hid (X = ⟨false, ⟨#[]⟩, 1⟩) := (show X = _ from EX.out).trans e2
    have HOC : Hid (∀ W', Kept W W' → Calls Try.prog 51 #[.pointer (some ⟨g, 0, none⟩)] W' fun e w' => ∃ v, e = .returned v ∧ OwnO W'.heap.size w' v (outc a.t.ops) ∧ Kept W' w') := fun W' k' => outcome15 (TxB.on HX.out.obj (Same.trans' K0.out k')) (OwnO.on HX.out.ops (Same.trans' K0.out k')) HAC.out.n
    have hcase : ((M.flaw == 1) = true ∨ ((M.flaw == 1) = false ∧ over M.A a.t.f2 (outc a.t.ops) = false)) := by
      unfold lost at hlo
      cases hf : (M.flaw == 1)
      · right
        rw [hf] at hlo
        simpa using hlo
      · exact .inl rfl
    have hlen : (outc a.t.ops).length ≤ 16 := Nat.le_trans (oc_length a.t.ops a.t.ops.length) HAC.out.n
    have HKEY : Hid (∀ o ∈ outc a.t.ops, o.key.size ≤ 8) := fun o ho => (HAC.out.key o (outc_key ho)).2.1
    clear e1 e2 hlo
    clear ENM EX
    have HBASE : Hid (∀ o ∈ outc a.t.ops, o.key.size ≤ 8) := HKEY.out
    generalize outc a.t.ops = l at *
    generalize M.flaw = FL at c0 hcase
    rcases hcase with f2 | ⟨f2, f3⟩
    · have f5 : (FL != 1) = false := by unfold bne; rw [f2]; rfl
      go_upto_region 5 with fail
      have K1 : Hid (Kept W W) := Same.refl _ _
      go_wp2_with fail
      refine Calls.mono (HOC.out _ K1.out) ?_
      rintro r w2 ⟨v, rfl, ho2, k2⟩
      have hw12 : w.heap.size ≤ w2.heap.size := Nat.le_trans (Same.size K0.out) (Nat.le_trans (Same.size K1.out) k2.size)
      have HOW : Hid (∀ b, v.ownBlock = some b → w.heap.size ≤ b ∧ b < w2.heap.size) := fun b hb => by
        obtain ⟨h1, cur, hc⟩ := row_block ho2 hb
        exact ⟨Nat.le_trans (Nat.le_trans (Same.size K0.out) (Same.size K1.out)) h1, lt_of_heap hc⟩
      have HO2 : Hid (OwnO 0 w2 v l) := row_lower ho2 (Nat.zero_le _)
      have K2 : Hid (Kept W w2) := Same.trans' K1.out k2
      obtain ⟨va, vc, rfl, -⟩ := OwnO.ops ho2
      clear ho2 k2
      obtain ⟨ln, eln⟩ : ∃ ln, ln = l.length := ⟨_, rfl⟩
      rw [← eln] at hlen HO2 HOW ⊢
      have ELN : Hid (ln = l.length) := eln
      clear eln
      have HM2 : Hid (MiP tg w2 mb sb vb M w2) := MiP.start (Mi.on HM.out (Same.trans' K0.out K2.out))
      go_wp2_with fail
      go_loopw [33] (fun i' wr => ∃ j : Nat, j ≤ ln ∧ i' = .int .i64 (j : Int) ∧ MiP tg w2 mb sb vb { M with A := insts M.A M.clock M.log.length (l.take j) } wr) (fun i' _ => ln - (intOf i').toNat)
      case atStart => exact ⟨0, Nat.zero_le _, rfl, HM2.out⟩
      case round =>
        obtain ⟨j, hj, rfl, mj⟩ := hrel
        have MJ : Hid (MiP tg w2 mb sb vb { M with A := insts M.A M.clock M.log.length (l.take j) } wr) := mj
        clear mj
        by_cases hlt : j < ln
        · have c1 : decide ((j : Int) < (ln : Int)) = true := by simp only [decide_eq_true_eq]; omega
          have hlt2 : (j : Int) < (ln : Int) := by omega
          obtain ⟨o, ho⟩ : ∃ o, l[j]? = some o := ⟨_, List.getElem?_eq_getElem (by rw [← ELN.out]; exact hlt)⟩
          obtain ⟨tg', lv', P', L', mi, h2, h3⟩ := MJ.out
          have hat : OwnO 0 wr (.slice va ln vc) l := row_kept HO2.out h3 fun b hb e => by
            have h5 := HOW.out b hb
            have h6 := HLT.out b e
            omega
          obtain ⟨va', vc', ev, hat', -⟩ := OwnO.ops hat
          cases ev
          obtain ⟨b, off, rfl, hb, x0, x1, x2, x3⟩ := hat' j o ho
          have HNX : Hid (∀ W' w', Kept wr W' → InsP (fun b => tg' b = .sto) W' vb (inst (insts M.A M.clock M.log.length (l.take j)) o.key ⟨M.clock, M.log.length, o.found, o.value⟩) w' → MiP tg w2 mb sb vb { M with A := insts M.A M.clock M.log.length (l.take (j + 1)) } w') := fun W' w' k' hin => by
            rw [insts_take ho]
            obtain ⟨tg2, lv2, P2, L2, g1, g2, g3⟩ := Mi.inst (mi.on k') hin
            refine ⟨tg2, lv2, P2, L2, g1, fun b hb => ?_, (h3.trans k' fun _ _ e => e.elim).trans g3 fun b hb e => ?_⟩
            · rcases g2 b hb with h | h
              · exact h2 b h
              · exact .inr (Nat.le_trans (Nat.le_trans h3.size k'.size) h)
            · rcases h2 b e with h | h
              · exact h
              · omega
          have hkk : o.key.size ≤ 8 := HKEY.out o (List.mem_of_getElem? ho)
          have hll := insts_length (l.take j) M.A M.clock M.log.length
          have HIN : Hid (∀ W', Kept wr W' → Calls Try.prog 52 #[.pointer (some ⟨vb, 0, none⟩), .string o.key, .agg #[.int .i64 M.clock, .int .i64 (M.log.length : Int), .bool o.found, .string o.value]] W' fun e w' => ∃ c : Int, e = .returned (.int .i64 c) ∧ MiP tg w2 mb sb vb { M with A := insts M.A M.clock M.log.length (l.take (j + 1)) } w') := fun W' k' =>
            Calls.mono (install13 (mi.on k').st o.key (by unfold maxLen; omega) ⟨M.clock, M.log.length, o.found, o.value⟩ (by simp only [List.length_take] at hll ⊢; omega)) fun e w' he => ⟨_, he.1, HNX.out W' w' k' he.2⟩
          have KX : Hid (Kept wr (wr.alloc (.cells #[.int .i64 o.kind, .string o.key, .bool o.found, .string o.value] 84 (0, 0)))) := (Same.refl _ _).alloc _
          have HG7 : Hid _ := heap_new wr (.cells #[.int .i64 o.kind, .string o.key, .bool o.found, .string o.value] 84 (0, 0))
          obtain ⟨la, lc, elv, -⟩ := row_shape mi.lg
          have eLl : L'.length = M.log.length := by have := congrArg List.length mi.ll; simpa using this
          obtain ⟨hm7, ⟨-, e1, -, -, e4, e5⟩, -⟩ := Mi.cells (mi.on KX.out)
          rw [elv, eLl] at e5
          clear hat hat' ho hkk hll mi h2 h3 HNX elv eLl
          go_upto_region 8 with fail
          generalize wr.alloc (.cells #[.int .i64 o.kind, .string o.key, .bool o.found, .string o.value] 84 (0, 0)) = W7 at *
          generalize wr.heap.size = g7 at *
          have hg7 := lt_of_heap HG7.out
          have y1 : W7.cell? ⟨g7, 1, none⟩ = some (.string o.key) := (cell_of HG7.out 1).trans rfl
          have y2 : W7.cell? ⟨g7, 2, none⟩ = some (.bool o.found) := (cell_of HG7.out 2).trans rfl
          have y3 : W7.cell? ⟨g7, 3, none⟩ = some (.string o.value) := (cell_of HG7.out 3).trans rfl
          go_still_tail 20, (by kernel_rfl)
          go_wp2_with (go_at_call 52; refine Calls.mono (HIN.out _ (by (repeat (first | exact KX.out | apply Same.drew | apply Same.drewN)); done)) ?_; rintro r w8 ⟨cd, rfl, m8⟩; have M8 : Hid _ := m8; clear m8)
          go_roundw
          case rel => exact ⟨j + 1, by omega, by first | rfl | simp, M8.out⟩
          case measure => simp only [intOf]; omega
        · have c1 : decide ((j : Int) < (ln : Int)) = false := by simp only [decide_eq_false_iff_not]; omega
          obtain rfl : j = ln := by omega
          have MW : Hid (MiP tg W mb sb vb { M with A := insts M.A M.clock M.log.length l } wr) := by
            have h5 := MiP.behind K2.out MJ.out
            rw [show l.take j = l by rw [show j = l.length from ELN.out]; exact List.take_length] at h5
            exact h5
          have HF1 : Hid _ := HFINS.out wr _ MW.out rfl rfl 1
          go_wp2_with fail
          refine Calls.mono HF1.out ?_
          rintro r w5 ⟨rfl, m5⟩
          have M5 : Hid _ := m5
          have HB2 : Hid (AnB w5 g4 an0) := (MiP.box HLT.out m5 hgw hg4).trans HB0.out
          obtain ⟨⟨z0, z1, z2⟩, hl2, q0, q1, q2⟩ := AnB.cells HB2.out
          clear m5
          go_wp2_with fail
          refine bodyPost_ret (results_c (a := 4) (t := 54) rfl rfl (loadVar_an (a := ⟨false, ⟨#[]⟩, 1⟩) (AnB.put HB2.out ⟨false, ⟨#[]⟩, 1⟩))) rfl ?_
          rw [show N = _ from E1.out, show X = _ from E2.out]
          exact ⟨rfl, MiP.ret HLT.out (Kept.to K0.out _) M5.out hgw hg4 _ _ _⟩
    · rw [f3] at HOT
      clear f3
      have f5 : (FL != 1) = true := by unfold bne; rw [f2]; rfl
      have f6 : ¬ FL = 1 := by simpa using f2
      go_wp2_with fail
      refine Calls.mono HOT.out ?_
      rintro r w1 ⟨rfl, k1⟩
      have K1 : Hid (Kept W w1) := k1
      clear k1
      go_wp2_with fail
      refine Calls.mono (HOC.out _ K1.out) ?_
      rintro r w2 ⟨v, rfl, ho2, k2⟩
      have hw12 : w.heap.size ≤ w2.heap.size := Nat.le_trans (Same.size K0.out) (Nat.le_trans (Same.size K1.out) k2.size)
      have HOW : Hid (∀ b, v.ownBlock = some b → w.heap.size ≤ b ∧ b < w2.heap.size) := fun b hb => by
        obtain ⟨h1, cur, hc⟩ := row_block ho2 hb
        exact ⟨Nat.le_trans (Nat.le_trans (Same.size K0.out) (Same.size K1.out)) h1, lt_of_heap hc⟩
      have HO2 : Hid (OwnO 0 w2 v l) := row_lower ho2 (Nat.zero_le _)
      have K2 : Hid (Kept W w2) := Same.trans' K1.out k2
      obtain ⟨va, vc, rfl, -⟩ := OwnO.ops ho2
      clear ho2 k2
      obtain ⟨ln, eln⟩ : ∃ ln, ln = l.length := ⟨_, rfl⟩
      rw [← eln] at hlen HO2 HOW ⊢
      have ELN : Hid (ln = l.length) := eln
      clear eln
      have HM2 : Hid (MiP tg w2 mb sb vb M w2) := MiP.start (Mi.on HM.out (Same.trans' K0.out K2.out))
      go_wp2_with fail
      go_loopw [33] (fun i' wr => ∃ j : Nat, j ≤ ln ∧ i' = .int .i64 (j : Int) ∧ MiP tg w2 mb sb vb { M with A := insts M.A M.clock M.log.length (l.take j) } wr) (fun i' _ => ln - (intOf i').toNat)
      case atStart => exact ⟨0, Nat.zero_le _, rfl, HM2.out⟩
      case round =>
        obtain ⟨j, hj, rfl, mj⟩ := hrel
        have MJ : Hid (MiP tg w2 mb sb vb { M with A := insts M.A M.clock M.log.length (l.take j) } wr) := mj
        clear mj
        by_cases hlt : j < ln
        · have c1 : decide ((j : Int) < (ln : Int)) = true := by simp only [decide_eq_true_eq]; omega
          have hlt2 : (j : Int) < (ln : Int) := by omega
          obtain ⟨o, ho⟩ : ∃ o, l[j]? = some o := ⟨_, List.getElem?_eq_getElem (by rw [← ELN.out]; exact hlt)⟩
          obtain ⟨tg', lv', P', L', mi, h2, h3⟩ := MJ.out
          have hat : OwnO 0 wr (.slice va ln vc) l := row_kept HO2.out h3 fun b hb e => by
            have h5 := HOW.out b hb
            have h6 := HLT.out b e
            omega
          obtain ⟨va', vc', ev, hat', -⟩ := OwnO.ops hat
          cases ev
          obtain ⟨b, off, rfl, hb, x0, x1, x2, x3⟩ := hat' j o ho
          have HNX : Hid (∀ W' w', Kept wr W' → InsP (fun b => tg' b = .sto) W' vb (inst (insts M.A M.clock M.log.length (l.take j)) o.key ⟨M.clock, M.log.length, o.found, o.value⟩) w' → MiP tg w2 mb sb vb { M with A := insts M.A M.clock M.log.length (l.take (j + 1)) } w') := fun W' w' k' hin => by
            rw [insts_take ho]
            obtain ⟨tg2, lv2, P2, L2, g1, g2, g3⟩ := Mi.inst (mi.on k') hin
            refine ⟨tg2, lv2, P2, L2, g1, fun b hb => ?_, (h3.trans k' fun _ _ e => e.elim).trans g3 fun b hb e => ?_⟩
            · rcases g2 b hb with h | h
              · exact h2 b h
              · exact .inr (Nat.le_trans (Nat.le_trans h3.size k'.size) h)
            · rcases h2 b e with h | h
              · exact h
              · omega
          have hkk : o.key.size ≤ 8 := HKEY.out o (List.mem_of_getElem? ho)
          have hll := insts_length (l.take j) M.A M.clock M.log.length
          have HIN : Hid (∀ W', Kept wr W' → Calls Try.prog 52 #[.pointer (some ⟨vb, 0, none⟩), .string o.key, .agg #[.int .i64 M.clock, .int .i64 (M.log.length : Int), .bool o.found, .string o.value]] W' fun e w' => ∃ c : Int, e = .returned (.int .i64 c) ∧ MiP tg w2 mb sb vb { M with A := insts M.A M.clock M.log.length (l.take (j + 1)) } w') := fun W' k' =>
            Calls.mono (install13 (mi.on k').st o.key (by unfold maxLen; omega) ⟨M.clock, M.log.length, o.found, o.value⟩ (by simp only [List.length_take] at hll ⊢; omega)) fun e w' he => ⟨_, he.1, HNX.out W' w' k' he.2⟩
          have KX : Hid (Kept wr (wr.alloc (.cells #[.int .i64 o.kind, .string o.key, .bool o.found, .string o.value] 84 (0, 0)))) := (Same.refl _ _).alloc _
          have HG7 : Hid _ := heap_new wr (.cells #[.int .i64 o.kind, .string o.key, .bool o.found, .string o.value] 84 (0, 0))
          obtain ⟨la, lc, elv, -⟩ := row_shape mi.lg
          have eLl : L'.length = M.log.length := by have := congrArg List.length mi.ll; simpa using this
          obtain ⟨hm7, ⟨-, e1, -, -, e4, e5⟩, -⟩ := Mi.cells (mi.on KX.out)
          rw [elv, eLl] at e5
          clear hat hat' ho hkk hll mi h2 h3 HNX elv eLl
          go_upto_region 8 with fail
          generalize wr.alloc (.cells #[.int .i64 o.kind, .string o.key, .bool o.found, .string o.value] 84 (0, 0)) = W7 at *
          generalize wr.heap.size = g7 at *
          have hg7 := lt_of_heap HG7.out
          have y1 : W7.cell? ⟨g7, 1, none⟩ = some (.string o.key) := (cell_of HG7.out 1).trans rfl
          have y2 : W7.cell? ⟨g7, 2, none⟩ = some (.bool o.found) := (cell_of HG7.out 2).trans rfl
          have y3 : W7.cell? ⟨g7, 3, none⟩ = some (.string o.value) := (cell_of HG7.out 3).trans rfl
          go_still_tail 20, (by kernel_rfl)
          go_wp2_with (go_at_call 52; refine Calls.mono (HIN.out _ (by (repeat (first | exact KX.out | apply Same.drew | apply Same.drewN)); done)) ?_; rintro r w8 ⟨cd, rfl, m8⟩; have M8 : Hid _ := m8; clear m8)
          go_roundw
          case rel => exact ⟨j + 1, by omega, by first | rfl | simp, M8.out⟩
          case measure => simp only [intOf]; omega
        · have c1 : decide ((j : Int) < (ln : Int)) = false := by simp only [decide_eq_false_iff_not]; omega
          obtain rfl : j = ln := by omega
          have MW : Hid (MiP tg W mb sb vb { M with A := insts M.A M.clock M.log.length l } wr) := by
            have h5 := MiP.behind K2.out MJ.out
            rw [show l.take j = l by rw [show j = l.length from ELN.out]; exact List.take_length] at h5
            exact h5
          have HF1 : Hid _ := HFINS.out wr _ MW.out rfl rfl 1
          go_wp2_with fail
          refine Calls.mono HF1.out ?_
          rintro r w5 ⟨rfl, m5⟩
          have M5 : Hid _ := m5
          have HB2 : Hid (AnB w5 g4 an0) := (MiP.box HLT.out m5 hgw hg4).trans HB0.out
          obtain ⟨⟨z0, z1, z2⟩, hl2, q0, q1, q2⟩ := AnB.cells HB2.out
          clear m5
          go_wp2_with fail
          refine bodyPost_ret (results_c (a := 4) (t := 54) rfl rfl (loadVar_an (a := ⟨false, ⟨#[]⟩, 1⟩) (AnB.put HB2.out ⟨false, ⟨#[]⟩, 1⟩))) rfl ?_
          rw [show N = _ from E1.out, show X = _ from E2.out]
          exact ⟨rfl, MiP.ret HLT.out (Kept.to K0.out _) M5.out hgw hg4 _ _ _⟩
end Go.Proofs.Ytmghmacgljihcaa
