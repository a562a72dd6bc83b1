/- What is proved: the document's ParseLog; condition: the text's length. -/
import Derived.Test.YtlldgibpajbabaaDoorNoPq
import Derived.Test.YtlldgibpajbabaaDoorNoRp
namespace Go.Proofs.YtlldgibpajbabaaDoor
open Go.RowKit

theorem cutb_at {l : List UInt8} {k : Nat} (c : UInt8) (hk : k ≤ l.length) : cutb c (l.drop k) = if upT l k c = l.length then (l.drop k, [], false) else ((l.drop k).take (upT l k c - k), l.drop (upT l k c + 1), true) := by
  have e : upT l k c = k + lead (fun b => b != c) (l.drop k) := rfl
  have hl := lead_le (fun b => b != c) (l.drop k)
  rw [List.length_drop] at hl
  unfold cutb
  by_cases h : lead (fun b => b != c) (l.drop k) = (l.drop k).length
  · rw [if_pos h, if_pos (by rw [e, h, List.length_drop]; omega)]
  · rw [if_neg h, if_neg (by rw [e]; rw [List.length_drop] at h; omega), e, Nat.add_sub_cancel_left, List.drop_drop, Nat.add_assoc]
set_option maxRecDepth 100000 in
set_option maxHeartbeats 1600000 in
theorem rparseLog_any (l : List UInt8) (w : World) (hl : l.length ≤ 1048576) : Calls Tryd.prog 15 #[tx l] w (PlgP w (plogP l)) := by
  unfold PlgP
  have EP : Hid (plR l.length [] l = plogP l) := rfl
  generalize plogP l = P at *
  have HU : Hid (∀ k c w, k ≤ l.length → _) := fun k c w h => upTo_any l k c w h (by omega)
  have HP : Hid (∀ (p : List UInt8) w, p.length ≤ 1048576 → _) := fun p w h => rparse_any p w h
  have HL : Hid (l.length ≤ 1048576) := hl
  have hli : (l.length : Int) ≤ 1048576 := by omega
  clear hl
  go_enter Tryd.func15, Tryd.ntmps15
  go_wp2_with fail
  go_loopw [6, 5] (fun v6 v5 W => ∃ (k : Nat) (m : List TxR) (n : Nat), v6 = .int .i64 (k : Int) ∧ k ≤ l.length ∧ Lst w.heap.size W v5 m ∧ plR n (m.map TxR.t) (l.drop k) = P ∧ (l.drop k).length ≤ n ∧ m.length ≤ 4096 ∧ Kept w W) (fun v6 _ _ => l.length - (intOf v6).toNat)
  case atStart => exact ⟨0, [], l.length, rfl, Nat.zero_le _, Lst.nil _ _, EP.out, Nat.le_refl _, Nat.zero_le _, Same.refl _ _⟩
  case round =>
    obtain ⟨k, m, n, rfl, hk, hlst, he, hn, hm, hkw⟩ := hrel
    have HLS : Hid (Lst w.heap.size wr u5 m) := hlst
    have HE : Hid _ := he
    have HN : Hid ((l.drop k).length ≤ n ∧ m.length ≤ 4096) := ⟨hn, hm⟩
    have KW : Hid (Kept w wr) := hkw
    obtain ⟨a5, c5, e5, -⟩ := OwnT.txs hlst.row
    clear hlst he hn hm hkw EP
    subst e5
    by_cases hkl : k < l.length
    · have hkl2 : (k : Int) < (l.length : Int) := by omega
      have hse : l.drop k ≠ [] := fun e => by
        have := congrArg List.length e
        rw [List.length_drop] at this
        simp at this
        omega
      have HB : Hid ((plineT (cutb 10 (l.drop k)).1 (cutb 10 (l.drop k)).2.2 m.length).2 ≠ 0 → P = ([], m.length, (plineT (cutb 10 (l.drop k)).1 (cutb 10 (l.drop k)).2.2 m.length).2)) := fun h => by
        have e := plR_bad (acc := m.map TxR.t) hse HN.out.1 (by rw [List.length_map]; exact h)
        rw [HE.out, List.length_map] at e
        exact e
      have HG : Hid ((plineT (cutb 10 (l.drop k)).1 (cutb 10 (l.drop k)).2.2 m.length).2 = 0 → ∃ n', plR n' (m.map TxR.t ++ [(plineT (cutb 10 (l.drop k)).1 (cutb 10 (l.drop k)).2.2 m.length).1]) (cutb 10 (l.drop k)).2.1 = P ∧ (cutb 10 (l.drop k)).2.1.length ≤ n' ∧ m.length ≠ 4096) := fun h => by
        have h0 : (l.drop k).length ≠ 0 := fun e => hse (List.eq_nil_of_length_eq_zero e)
        have hn := HN.out.1
        obtain ⟨n', rfl⟩ : ∃ n', n = n' + 1 := ⟨n - 1, by omega⟩
        obtain ⟨e1, e2, e3, -⟩ := plR_good (acc := m.map TxR.t) hse (by rw [List.length_map]; exact h)
        rw [HE.out, List.length_map] at e1
        rw [List.length_map] at e3
        exact ⟨n', e1.symm, by omega, e3⟩
      have HCB : Hid _ := cutb_at (l := l) (k := k) 10 hk
      clear HE hse
      generalize cutb 10 (l.drop k) = CB at *
      go_wp2_with fail
      refine Calls.mono (HU.out k 10 _ hk) ?_
      rintro e w4 ⟨rfl, e4⟩
      subst e4
      obtain ⟨E1, E2⟩ := upT_le l (k := k) 10 hk
      have hs : ∀ w, _ := mid_tx l k (upT l k 10) E1 E2
      have hPC : ((l.drop k).take (upT l k 10 - k)).length ≤ 1048576 := by rw [List.length_take, List.length_drop]; have := HL.out; omega
      generalize upT l k 10 = E at *
      generalize (l.drop k).take (E - k) = PC at *
      by_cases hm : m.length = 4096
      · have c2 : decide ((m.length : Int) ≥ 4096) = true := decide_eq_true (by omega)
        have c3 : 4096 ≤ (m.length : Int) := by omega
        have EE : Hid (P = ([], m.length, 71)) := by
          have e : plineT CB.1 CB.2.2 m.length = (tz0, 71) := by unfold plineT; rw [if_pos hm]
          have := HB.out
          rw [e] at this
          exact this (by decide)
        clear HB HG HCB hm
        go_wp2_with fail
        go_ret3
        rw [EE.out]
        exact ⟨_, [], rfl, rfl, Lst.nil _ _, KW.out⟩
      · have c2 : decide ((m.length : Int) ≥ 4096) = false := decide_eq_false (by have := HN.out.2; omega)
        have c3 : ¬ 4096 ≤ (m.length : Int) := by have := HN.out.2; omega
        by_cases hE : E = l.length
        · have g1 : ((E : Int) == (l.length : Int)) = true := by rw [hE]; simp
          have EE : Hid (P = ([], m.length, 210)) := by
            have e : plineT CB.1 CB.2.2 m.length = (tz0, 210) := by unfold plineT; rw [if_neg hm, HCB.out, if_pos hE]; rfl
            have := HB.out
            rw [e] at this
            exact this (by decide)
          clear HB HG HCB hm hE
          go_wp2_with fail
          go_ret3
          rw [EE.out]
          exact ⟨_, [], rfl, rfl, Lst.nil _ _, KW.out⟩
        · have g1 : ((E : Int) == (l.length : Int)) = false := beq_eq_false_iff_ne.2 (fun e => hE (by omega))
          have eC : CB = (PC, l.drop (E + 1), true) := HCB.out.trans (if_neg hE)
          have eL : plineT CB.1 CB.2.2 m.length = parseT PC := by unfold plineT; rw [if_neg hm, eC]; simp only [Bool.true_eq_false, if_false]
          rw [eL] at HB HG
          rw [show CB.2.1 = l.drop (E + 1) by rw [eC]] at HG
          have hE1 : E + 1 ≤ l.length := by omega
          have HPW : Hid (∀ w, _) := fun w => HP.out PC w hPC
          clear hm hE HCB eC eL hPC HP
          generalize parseT PC = PL at *
          obtain ⟨t, pc⟩ := PL
          dsimp only at HB HG HPW
          go_wp2_with fail
          refine Calls.mono (HPW.out _) ?_
          rintro e w2 ⟨a, c, rfl, o2, k2⟩
          have O2 : Hid (OwnO w4.heap.size w2 (.slice a t.ops.length c) t.ops) := o2
          have K2 : Hid (Kept w w2) := KW.out.trans' k2
          have KK : Hid (Kept w4 w2) := k2
          clear o2 k2 HPW
          have B3 : Hid _ := heap_new w2 (TxR.obj ⟨t, a, c⟩)
          have hb2 : w2.heap.size < (w2.alloc (TxR.obj ⟨t, a, c⟩)).heap.size := lt_of_heap B3.out
          unfold TxR.obj at B3 hb2
          dsimp only at B3 hb2
          simp only [txV]
          obtain ⟨⟨d0, d1, d2, d3, d4, d5, d6, d7⟩, -⟩ := tx_obj B3.out
          by_cases hv : pc = 0
          · subst hv
            obtain ⟨n', g1', g2, g4⟩ := HG.out rfl
            have HM : Hid (m.length ≠ 4096 ∧ m.length ≤ 4096 ∧ (l.drop (E + 1)).length ≤ n' ∧ plR n' (m.map TxR.t ++ [t]) (l.drop (E + 1)) = P) := ⟨g4, HN.out.2, g2, g1'⟩
            have HAP : Hid (∀ ty, _) := fun ty => lst_more (r := ⟨t, a, c⟩) HLS.out KK.out O2.out (by have h9 := HM.out.2.1; omega) KW.out.size ty
            unfold TxR.obj at HAP
            dsimp only at HAP
            clear g1' g2 g4 HB HG HN
            have wE : wrap64 ((E : Int) + 1) = (E : Int) + 1 := by unfold wrap64; omega
            go_wp2_with (at_builtin; refine wpList_app rfl (.tmp 41) (.tmp 43) 33 33 rfl (.slice a5 m.length c5) _ rfl rfl _ HAP.out ?_; rintro v7 w7 ⟨⟨a7, c7, rfl⟩, l7, s7⟩)
            have L7 : Hid (Lst w.heap.size w7 (.slice a7 (m.length + 1) c7) (m ++ [⟨t, a, c⟩])) := l7
            have K7 : Hid (Kept w w7) := Same.trans KW.out s7 (fun i hi e => by omega)
            clear l7 s7
            go_roundw
            case rel =>
              obtain ⟨h1, h2, h3, h6⟩ := HM.out
              refine ⟨E + 1, m ++ [⟨t, a, c⟩], n', by simp, hE1, L7.out, ?_, h3, ?_, K7.out⟩
              · rw [List.map_append]
                exact h6
              · rw [List.length_append]
                simp only [List.length_cons, List.length_nil]
                omega
            case measure => simp only [intOf]; omega
          · have hv' : (pc == 0) = false := beq_eq_false_iff_ne.2 hv
            have hv2 : (pc != 0) = true := by rw [bne, hv']; rfl
            have EE : Hid (P = ([], m.length, pc)) := HB.out hv
            clear HB HG hv hv'
            go_wp2_with fail
            go_ret3
            rw [EE.out]
            exact ⟨_, [], rfl, rfl, Lst.nil _ _, Same.alloc K2.out _⟩
    · have hkl2 : ¬ (k : Int) < (l.length : Int) := by omega
      have EE : Hid (P = (m.map TxR.t, 0, 0)) := by
        show _ = _
        rw [← HE.out, List.drop_of_length_le (by omega), plR_end]
      clear HE HN HP hkl
      go_wp2_with fail
      go_ret3
      rw [EE.out]
      exact ⟨_, rfl, m, rfl, HLS.out, KW.out⟩
end Go.Proofs.YtlldgibpajbabaaDoor
