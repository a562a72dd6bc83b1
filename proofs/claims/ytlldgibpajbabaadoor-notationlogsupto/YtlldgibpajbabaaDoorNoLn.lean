/- What is proved: the document's Line; condition: the transaction is right. -/
import Derived.Test.YtlldgibpajbabaaDoorNoRl
import Derived.Lib.SlBytesConst
namespace Go.Proofs.YtlldgibpajbabaaDoor
open Go.RowKit

theorem conv_dash (w : World) : (convert 39 39 (.slice (some ⟨w.heap.size, 0, none⟩) 1 1)).run Tryd.prog (w.alloc (.cells #[.int .u8 45] 5)) = .ok (.slice (some ⟨w.heap.size, 0, none⟩) 1 1) (w.alloc (.cells #[.int .u8 45] 5 (1, 2))) :=
  Lib.run_convert_bytes_const w 39 5 #[.int .u8 45] 1 1 Tryd.underlying39 Tryd.underlying5
theorem bytes_dash (w : World) : BytesAt (w.alloc (.cells #[.int .u8 45] 5 (1, 2))) (some ⟨w.heap.size, 0, none⟩) (nu [45]) := fun i x hx => by
  refine ⟨w.heap.size, 0, rfl, by simp, ?_⟩
  have h := heap_new w (.cells #[.int .u8 45] 5 (1, 2))
  rcases i with _ | i
  · cases hx
    unfold World.cell?
    dsimp only
    rw [h]
    rfl
  · simp [nu] at hx
set_option maxRecDepth 100000 in
set_option maxHeartbeats 6400000 in
theorem rline_any {w : World} (t : TxM) (a : Option Addr) (c : Nat) (hr : Right t) (hops : OpsAt w a t.ops) :
    Calls Tryd.prog 24 #[txV t (.slice a t.ops.length c)] w fun e w' => ∃ v', e = .returned v' ∧ OwnB w.heap.size w' v' (nu (line t)) ∧ Kept w w' := by
  obtain ⟨f0, f1, f2, f3, f4, f5, f6, ops⟩ := t
  have HF : Hid (∃ g0 g1 g2 g3 g4 g5 : Nat, (f0 = g0 ∧ f1 = g1 ∧ f2 = g2 ∧ f3 = g3 ∧ f4 = g4 ∧ f5 = g5) ∧ (g0 ≤ 9223372036854775807 ∧ g1 ≤ 9223372036854775807 ∧ g2 ≤ 9223372036854775807 ∧ g3 ≤ 9223372036854775807 ∧ g4 ≤ 9223372036854775807 ∧ g5 ≤ 9223372036854775807)) := by
    obtain ⟨h0, h1, h2, h3, h4, h5, -⟩ := hr.1
    unfold inB at *
    dsimp only at *
    exact ⟨f0.toNat, f1.toNat, f2.toNat, f3.toNat, f4.toNat, f5.toNat, ⟨by omega, by omega, by omega, by omega, by omega, by omega⟩, by omega, by omega, by omega, by omega, by omega, by omega⟩
  have HL : Hid (line ⟨f0, f1, f2, f3, f4, f5, f6, ops⟩ = headL ⟨f0, f1, f2, f3, f4, f5, f6, ops⟩ ++ opsL ops) := rfl
  have HQ : Hid ((headL ⟨f0, f1, f2, f3, f4, f5, f6, ops⟩).length ≤ 145 ∧ headL ⟨f0, f1, f2, f3, f4, f5, f6, ops⟩ = numL [115] f0 ++ numL [32, 113] f1 ++ numL [32, 116] f2 ++ numL [45] f3 ++ numL [32, 99] f4 ++ numL [45] f5 ++ [32] ++ stw f6) := ⟨headL_len hr.1, rfl⟩
  have H16 : Hid (ops.length ≤ 16 ∧ ∀ o ∈ ops, rightO o) := hr.2
  have HOP : Hid (∀ W, Oth w.heap.size w W → OpsAt W a ops) := fun W k => OpsAt.kept hops k.1 (fun j hj e => by have := OpsAt.lt hops hj; omega)
  generalize headL ⟨f0, f1, f2, f3, f4, f5, f6, ops⟩ = HD at *
  generalize line ⟨f0, f1, f2, f3, f4, f5, f6, ops⟩ = LN at *
  simp only [txV]
  obtain ⟨g0, g1, g2, g3, g4, g5, ⟨rfl, rfl, rfl, rfl, rfl, rfl⟩, G⟩ := HF.out
  have HG : Hid _ := G
  clear hr hops HF G
  have HN : Hid (∀ W v ys p (i : Nat), OwnB w.heap.size W v ys → Oth w.heap.size w W → p.length ≤ 2 → i ≤ 9223372036854775807 → ys.length + 64 ≤ 140737488355328 → Calls Tryd.prog 45 #[v, tx p, .int .i64 (i : Int)] W fun e w' => ∃ v', e = .returned v' ∧ ApO w.heap.size W (ys ++ nu (numL p (i : Int))) v' w') := fun W v ys p i o k hp hi hy => rnumL_any p i hi o (by omega) hy k.1.size
  have HT : Hid (∀ W v ys p, OwnB w.heap.size W v ys → Oth w.heap.size w W → ys.length + p.length ≤ 140737488355328 → Calls Tryd.prog 46 #[v, tx p] W fun e w' => ∃ v', e = .returned v' ∧ ApO w.heap.size W (ys ++ nu p) v' w') := fun W v ys p o k hy => rtext_any21 p o hy k.1.size
  have HA : Hid (∀ W v ys (l : List UInt8) b c, OwnB w.heap.size W v ys → Oth w.heap.size w W → BytesAt W (some ⟨b, 0, none⟩) (nu l) → ys.length + l.length ≤ 140737488355328 → Calls Tryd.prog 25 #[v, .slice (some ⟨b, 0, none⟩) l.length c] W fun e w' => ∃ v', e = .returned v' ∧ ApO w.heap.size W (ys ++ nu l) v' w') := fun W v ys l b c o k hb hy => by
    have := radd_any (c := c) o hb (fun e => by cases e) (by rw [nu_len]; exact hy) k.1.size
    rw [nu_len] at this
    exact this
  have HLen : Hid (∀ (p : List UInt8) (n : Nat), p.length ≤ 2 → n ≤ 9223372036854775807 → (numL p (n : Int)).length ≤ 23) := fun _ _ hp hn => numL_len hp (by omega) (by omega)
  have A0 : Hid (Ao w.heap.size w (w.alloc (.cells #[.int .i64 (g0 : Int), .int .i64 (g1 : Int), .int .i64 (g2 : Int), .int .i64 (g3 : Int), .int .i64 (g4 : Int), .int .i64 (g5 : Int), .int .i64 f6, .slice a ops.length c] 25 (0, 0))) (.slice none 0 0) [] (.cells #[.int .i64 (g0 : Int), .int .i64 (g1 : Int), .int .i64 (g2 : Int), .int .i64 (g3 : Int), .int .i64 (g4 : Int), .int .i64 (g5 : Int), .int .i64 f6, .slice a ops.length c] 25 (0, 0))) := ⟨OwnB.nil _ _, Oth.kept ((Same.refl _ w).alloc _), heap_new w _⟩
  have hnt : (25 : Nat) ≠ 5 := by decide
  have hcv := conv_dash
  obtain ⟨⟨d0, d1, d2, d3, d4, d5, d6, d7⟩, -⟩ := tx_obj A0.out.box
  have ld := lt_of_heap A0.out.box
  go_enter Tryd.func24, Tryd.ntmps24
  go_wp2_with fail
  refine Calls.mono (HN.out _ _ _ [115] g0 A0.out.own A0.out.oth (by decide) HG.out.1 (by (try simp only [List.length_nil]); have := HLen.out [115] g0 (by decide) HG.out.1; have := HLen.out [32, 113] g1 (by decide) HG.out.2.1; have := HLen.out [32, 116] g2 (by decide) HG.out.2.2.1; have := HLen.out [45] g3 (by decide) HG.out.2.2.2.1; have := HLen.out [32, 99] g4 (by decide) HG.out.2.2.2.2.1; have := HLen.out [45] g5 (by decide) HG.out.2.2.2.2.2; omega)) ?_
  rintro e w1 ⟨v1, rfl, a9⟩
  have A1 : Hid _ := A0.out.go hnt a9
  obtain ⟨⟨d0, d1, d2, d3, d4, d5, d6, d7⟩, -⟩ := tx_obj A1.out.box
  have ld := lt_of_heap A1.out.box
  clear a9 A0
  go_wp2_with fail
  refine Calls.mono (HN.out _ _ _ [32, 113] g1 A1.out.own A1.out.oth (by decide) HG.out.2.1 (by (try simp only [List.length_append, nu_len, List.length_nil]); have := HLen.out [115] g0 (by decide) HG.out.1; have := HLen.out [32, 113] g1 (by decide) HG.out.2.1; have := HLen.out [32, 116] g2 (by decide) HG.out.2.2.1; have := HLen.out [45] g3 (by decide) HG.out.2.2.2.1; have := HLen.out [32, 99] g4 (by decide) HG.out.2.2.2.2.1; have := HLen.out [45] g5 (by decide) HG.out.2.2.2.2.2; omega)) ?_
  rintro e w2 ⟨v2, rfl, a9⟩
  have A2 : Hid _ := A1.out.go hnt a9
  obtain ⟨⟨d0, d1, d2, d3, d4, d5, d6, d7⟩, -⟩ := tx_obj A2.out.box
  have ld := lt_of_heap A2.out.box
  clear a9 A1
  go_wp2_with fail
  refine Calls.mono (HN.out _ _ _ [32, 116] g2 A2.out.own A2.out.oth (by decide) HG.out.2.2.1 (by (try simp only [List.length_append, nu_len, List.length_nil]); have := HLen.out [115] g0 (by decide) HG.out.1; have := HLen.out [32, 113] g1 (by decide) HG.out.2.1; have := HLen.out [32, 116] g2 (by decide) HG.out.2.2.1; have := HLen.out [45] g3 (by decide) HG.out.2.2.2.1; have := HLen.out [32, 99] g4 (by decide) HG.out.2.2.2.2.1; have := HLen.out [45] g5 (by decide) HG.out.2.2.2.2.2; omega)) ?_
  rintro e w3 ⟨v3, rfl, a9⟩
  have A3 : Hid _ := A2.out.go hnt a9
  obtain ⟨⟨d0, d1, d2, d3, d4, d5, d6, d7⟩, -⟩ := tx_obj A3.out.box
  have ld := lt_of_heap A3.out.box
  clear a9 A2
  go_wp2_with fail
  refine Calls.mono (HN.out _ _ _ [45] g3 A3.out.own A3.out.oth (by decide) HG.out.2.2.2.1 (by (try simp only [List.length_append, nu_len, List.length_nil]); have := HLen.out [115] g0 (by decide) HG.out.1; have := HLen.out [32, 113] g1 (by decide) HG.out.2.1; have := HLen.out [32, 116] g2 (by decide) HG.out.2.2.1; have := HLen.out [45] g3 (by decide) HG.out.2.2.2.1; have := HLen.out [32, 99] g4 (by decide) HG.out.2.2.2.2.1; have := HLen.out [45] g5 (by decide) HG.out.2.2.2.2.2; omega)) ?_
  rintro e w4 ⟨v4, rfl, a9⟩
  have A4 : Hid _ := A3.out.go hnt a9
  obtain ⟨⟨d0, d1, d2, d3, d4, d5, d6, d7⟩, -⟩ := tx_obj A4.out.box
  have ld := lt_of_heap A4.out.box
  clear a9 A3
  go_wp2_with fail
  refine Calls.mono (HN.out _ _ _ [32, 99] g4 A4.out.own A4.out.oth (by decide) HG.out.2.2.2.2.1 (by (try simp only [List.length_append, nu_len, List.length_nil]); have := HLen.out [115] g0 (by decide) HG.out.1; have := HLen.out [32, 113] g1 (by decide) HG.out.2.1; have := HLen.out [32, 116] g2 (by decide) HG.out.2.2.1; have := HLen.out [45] g3 (by decide) HG.out.2.2.2.1; have := HLen.out [32, 99] g4 (by decide) HG.out.2.2.2.2.1; have := HLen.out [45] g5 (by decide) HG.out.2.2.2.2.2; omega)) ?_
  rintro e w5 ⟨v5, rfl, a9⟩
  have A5 : Hid _ := A4.out.go hnt a9
  obtain ⟨⟨d0, d1, d2, d3, d4, d5, d6, d7⟩, -⟩ := tx_obj A5.out.box
  have ld := lt_of_heap A5.out.box
  clear a9 A4
  go_wp2_with fail
  refine Calls.mono (HN.out _ _ _ [45] g5 A5.out.own A5.out.oth (by decide) HG.out.2.2.2.2.2 (by (try simp only [List.length_append, nu_len, List.length_nil]); have := HLen.out [115] g0 (by decide) HG.out.1; have := HLen.out [32, 113] g1 (by decide) HG.out.2.1; have := HLen.out [32, 116] g2 (by decide) HG.out.2.2.1; have := HLen.out [45] g3 (by decide) HG.out.2.2.2.1; have := HLen.out [32, 99] g4 (by decide) HG.out.2.2.2.2.1; have := HLen.out [45] g5 (by decide) HG.out.2.2.2.2.2; omega)) ?_
  rintro e w6 ⟨v6, rfl, a9⟩
  have A6 : Hid _ := A5.out.go hnt a9
  obtain ⟨⟨d0, d1, d2, d3, d4, d5, d6, d7⟩, -⟩ := tx_obj A6.out.box
  have ld := lt_of_heap A6.out.box
  clear a9 A5
  go_upto_if 35 with fail
  go_cut [3] (fun u wx => Ao w.heap.size w wx u (nu HD) (.cells #[.int .i64 (g0 : Int), .int .i64 (g1 : Int), .int .i64 (g2 : Int), .int .i64 (g3 : Int), .int .i64 (g4 : Int), .int .i64 (g5 : Int), .int .i64 f6, .slice a ops.length c] 25 (0, 0)))
  case first =>
    by_cases h1 : f6 = 1
    · have q1 : (f6 == 1) = true := by rw [h1]; rfl
      have E : Hid (nu (numL [115] (g0 : Int)) ++ nu (numL [32, 113] (g1 : Int)) ++ nu (numL [32, 116] (g2 : Int)) ++ nu (numL [45] (g3 : Int)) ++ nu (numL [32, 99] (g4 : Int)) ++ nu (numL [45] (g5 : Int)) ++ nu [32, 99, 111, 109, 109, 105, 116] = nu HD) := by
        show _ = _
        rw [HQ.out.2, h1]
        simp only [nu_app, List.append_assoc]
        rfl
      clear h1
      go_wp2_with fail
      refine Calls.mono (HT.out _ _ _ [32, 99, 111, 109, 109, 105, 116] A6.out.own A6.out.oth (by (try simp only [List.length_append, nu_len, List.length_nil, List.length_cons]); have := HLen.out [115] g0 (by decide) HG.out.1; have := HLen.out [32, 113] g1 (by decide) HG.out.2.1; have := HLen.out [32, 116] g2 (by decide) HG.out.2.2.1; have := HLen.out [45] g3 (by decide) HG.out.2.2.2.1; have := HLen.out [32, 99] g4 (by decide) HG.out.2.2.2.2.1; have := HLen.out [45] g5 (by decide) HG.out.2.2.2.2.2; omega)) ?_
      rintro e w7 ⟨v7, rfl, a9⟩
      have A7 : Hid _ := A6.out.go hnt a9
      clear a9
      go_wp2_with fail
      go_meet
      rw [← E.out]
      exact A7.out
    · have q1 : (f6 == 1) = false := beq_eq_false_iff_ne.2 h1
      have E : Hid (nu (numL [115] (g0 : Int)) ++ nu (numL [32, 113] (g1 : Int)) ++ nu (numL [32, 116] (g2 : Int)) ++ nu (numL [45] (g3 : Int)) ++ nu (numL [32, 99] (g4 : Int)) ++ nu (numL [45] (g5 : Int)) ++ nu [32, 97, 98, 111, 114, 116] = nu HD) := by
        show _ = _
        rw [HQ.out.2]
        unfold stw
        rw [if_neg h1]
        simp only [nu_app, List.append_assoc]
        rfl
      clear h1
      go_wp2_with fail
      refine Calls.mono (HT.out _ _ _ [32, 97, 98, 111, 114, 116] A6.out.own A6.out.oth (by (try simp only [List.length_append, nu_len, List.length_nil, List.length_cons]); have := HLen.out [115] g0 (by decide) HG.out.1; have := HLen.out [32, 113] g1 (by decide) HG.out.2.1; have := HLen.out [32, 116] g2 (by decide) HG.out.2.2.1; have := HLen.out [45] g3 (by decide) HG.out.2.2.2.1; have := HLen.out [32, 99] g4 (by decide) HG.out.2.2.2.2.1; have := HLen.out [45] g5 (by decide) HG.out.2.2.2.2.2; omega)) ?_
      rintro e w7 ⟨v7, rfl, a9⟩
      have A7 : Hid _ := A6.out.go hnt a9
      clear a9
      go_wp2_with fail
      go_meet
      rw [← E.out]
      exact A7.out
  case rest =>
    have AH : Hid _ := hcut
    obtain ⟨⟨d0, d1, d2, d3, d4, d5, d6, d7⟩, -⟩ := tx_obj AH.out.box
    have ld := lt_of_heap AH.out.box
    have HHL : Hid (HD.length ≤ 145) := HQ.out.1
    clear hcut A6 HN HQ HLen HG
    have h16 := H16.out.1
    go_wp2_with fail
    go_loopw [3, 4] (fun u i wr => ∃ k : Nat, i = .int .i64 (k : Int) ∧ k ≤ ops.length ∧ Ao w.heap.size w wr u (nu (HD ++ opsL (ops.take k))) (.cells #[.int .i64 (g0 : Int), .int .i64 (g1 : Int), .int .i64 (g2 : Int), .int .i64 (g3 : Int), .int .i64 (g4 : Int), .int .i64 (g5 : Int), .int .i64 f6, .slice a ops.length c] 25 (0, 0))) (fun _ i _ => ops.length - (intOf i).toNat)
    case atStart => exact ⟨0, rfl, Nat.zero_le _, by have h9 := AH.out; simpa [opsL] using h9⟩
    case round =>
      obtain ⟨k, rfl, hk, hA⟩ := hrel
      rename World => W
      have A0 : Hid _ := hA
      clear hA AH d0 d1 d2 d3 d4 d5 d6 d7 ld
      obtain ⟨⟨d0, d1, d2, d3, d4, d5, d6, d7⟩, -⟩ := tx_obj A0.out.box
      have ld := lt_of_heap A0.out.box
      by_cases hkn : k < ops.length
      · have c1 : decide ((k : Int) < (ops.length : Int)) = true := decide_eq_true (by omega)
        have hkn2 : (k : Int) < (ops.length : Int) := by omega
        obtain ⟨o, ho⟩ : ∃ o, ops[k]? = some o := ⟨_, List.getElem?_eq_getElem hkn⟩
        obtain ⟨b', off', e', hb', y0, y1, y2, y3⟩ := HOP.out W A0.out.oth k o ho
        subst e'
        have HRO : Hid (rightO o) := H16.out.2 o (List.mem_of_getElem? ho)
        have HTK : Hid _ := opsL_snoc ho
        have HLL : Hid ((HD ++ opsL (ops.take k)).length ≤ 1025) := by
          show _ ≤ _
          have h1 := opsL_len (ops.take k) (fun o ho => H16.out.2 o (List.mem_of_mem_take ho))
          have h2 := HHL.out
          rw [List.length_append]
          rw [List.length_take] at h1
          omega
        have hk3 : o.kind = 1 ∨ o.kind = 2 ∨ o.kind = 3 := by
          rcases HRO.out.2 with h | h | h
          · exact .inl h.1
          · exact .inr (.inl h.1)
          · exact .inr (.inr h.1)
        obtain ⟨kind, key, found, value⟩ := o
        dsimp only at y0 y1 y2 y3 hk3
        obtain ⟨kl, ekl⟩ : ∃ kl : List UInt8, kl = key.data.toList := ⟨_, rfl⟩
        obtain ⟨vl, evl⟩ : ∃ vl : List UInt8, vl = value.data.toList := ⟨_, rfl⟩
        have HKL : Hid (kl.length ≤ 8 ∧ vl.length ≤ 16) := by
          have h9 := HRO.out.1
          dsimp only at h9
          rw [ekl, evl, Array.length_toList, Array.length_toList]
          exact ⟨by show key.size ≤ 8; omega, by show value.size ≤ 16; omega⟩
        have EK : Hid (key.data.toList = kl ∧ value.data.toList = vl) := ⟨ekl.symm, evl.symm⟩
        have ek : Value.string key = tx kl := by rw [ekl]
        have ev : Value.string value = tx vl := by rw [evl]
        rw [ek] at y1
        rw [ev] at y3
        clear ho ekl evl
        have A1 : Hid _ := A0.out.kept ((Same.refl _ W).alloc (opO (.int .i64 kind) (tx kl) (.bool found) (tx vl)))
        have B1 : Hid _ := heap_new W (opO (.int .i64 kind) (tx kl) (.bool found) (tx vl))
        unfold opO at A1 B1
        have hno : (49 : Nat) ≠ 5 := by decide
        have HWk : Hid (∀ w, _) := fun w => rword_any kl w (by have := HKL.out.1; omega)
        have HWv : Hid (∀ w, _) := fun w => rword_any vl w (by have := HKL.out.2; omega)
        obtain ⟨⟨x0, x1, x2, x3⟩, -⟩ := op_obj B1.out
        have lx := lt_of_heap B1.out
        obtain ⟨⟨e0, e1, e2, e3, e4, e5, e6, e7⟩, -⟩ := tx_obj A1.out.box
        have le := lt_of_heap A1.out.box
        rcases hk3 with rfl | rfl | rfl
        · cases hf : found with
          | false =>
            subst hf
            have EOL : Hid (nu (32 :: opL ⟨1, key, false, value⟩) = nu [32, 114, 40] ++ nu (wd kl) ++ nu [41] ++ nu [61] ++ nu [45]) := by
              show _ = _
              rw [← EK.out.1]
              simp [opL, letr, keyL, nu]
            go_wp2_with fail
            refine Calls.mono (HT.out _ _ _ [32, 114, 40] A1.out.own A1.out.oth (by (try simp only [List.length_append, List.length_cons, List.length_nil, nu_len]); have h1 := HLL.out; simp only [List.length_append] at h1; have h2 := wd_len kl; have h3 := wd_len vl; have h4 := HKL.out; omega)) ?_
            rintro e w2 ⟨v2, rfl, a9⟩
            have A2 : Hid _ := A1.out.go hnt a9
            have B2 : Hid _ := a9.2.box B1.out hno
            obtain ⟨⟨x0, x1, x2, x3⟩, -⟩ := op_obj B2.out
            have lx := lt_of_heap B2.out
            obtain ⟨⟨d0, d1, d2, d3, d4, d5, d6, d7⟩, -⟩ := tx_obj A2.out.box
            have ld := lt_of_heap A2.out.box
            clear a9 A1 B1
            go_wp2_with fail
            refine Calls.mono (HWk.out _) ?_
            rintro e w3 ⟨v9, rfl, b9, c9, rfl, y9, -, k9⟩
            have A3 : Hid _ := A2.out.kept k9
            have B3 : Hid _ := (k9.block _ (lt_of_heap B2.out) (fun e => e)).trans B2.out
            have R3 : Hid _ := y9
            obtain ⟨⟨x0, x1, x2, x3⟩, -⟩ := op_obj B3.out
            have lx := lt_of_heap B3.out
            obtain ⟨⟨d0, d1, d2, d3, d4, d5, d6, d7⟩, -⟩ := tx_obj A3.out.box
            have ld := lt_of_heap A3.out.box
            clear y9 k9 A2 B2
            go_wp2_with fail
            refine Calls.mono (HA.out _ _ _ (wd kl) _ _ A3.out.own A3.out.oth R3.out (by (try simp only [List.length_append, List.length_cons, List.length_nil, nu_len]); have h1 := HLL.out; simp only [List.length_append] at h1; have h2 := wd_len kl; have h3 := wd_len vl; have h4 := HKL.out; omega)) ?_
            rintro e w4 ⟨v4, rfl, a9⟩
            have A4 : Hid _ := A3.out.go hnt a9
            have B4 : Hid _ := a9.2.box B3.out hno
            obtain ⟨⟨x0, x1, x2, x3⟩, -⟩ := op_obj B4.out
            have lx := lt_of_heap B4.out
            obtain ⟨⟨d0, d1, d2, d3, d4, d5, d6, d7⟩, -⟩ := tx_obj A4.out.box
            have ld := lt_of_heap A4.out.box
            clear a9 A3 B3
            go_wp2_with fail
            refine Calls.mono (HT.out _ _ _ [41] A4.out.own A4.out.oth (by (try simp only [List.length_append, List.length_cons, List.length_nil, nu_len]); have h1 := HLL.out; simp only [List.length_append] at h1; have h2 := wd_len kl; have h3 := wd_len vl; have h4 := HKL.out; omega)) ?_
            rintro e w5 ⟨v5, rfl, a9⟩
            have A5 : Hid _ := A4.out.go hnt a9
            have B5 : Hid _ := a9.2.box B4.out hno
            obtain ⟨⟨x0, x1, x2, x3⟩, -⟩ := op_obj B5.out
            have lx := lt_of_heap B5.out
            obtain ⟨⟨d0, d1, d2, d3, d4, d5, d6, d7⟩, -⟩ := tx_obj A5.out.box
            have ld := lt_of_heap A5.out.box
            clear a9 A4 B4
            go_wp2_with fail
            refine Calls.mono (HT.out _ _ _ [61] A5.out.own A5.out.oth (by (try simp only [List.length_append, List.length_cons, List.length_nil, nu_len]); have h1 := HLL.out; simp only [List.length_append] at h1; have h2 := wd_len kl; have h3 := wd_len vl; have h4 := HKL.out; omega)) ?_
            rintro e w6 ⟨v6, rfl, a9⟩
            have A6 : Hid _ := A5.out.go hnt a9
            have B6 : Hid _ := a9.2.box B5.out hno
            obtain ⟨⟨x0, x1, x2, x3⟩, -⟩ := op_obj B6.out
            have lx := lt_of_heap B6.out
            obtain ⟨⟨d0, d1, d2, d3, d4, d5, d6, d7⟩, -⟩ := tx_obj A6.out.box
            have ld := lt_of_heap A6.out.box
            clear a9 A5 B5
            go_wp2_with fail
            have A7 : Hid _ := A6.out.kept ((Same.refl _ w6).alloc (.cells #[.int .u8 45] 5 (1, 2)))
            refine Calls.mono (HA.out _ _ _ [45] _ _ A7.out.own A7.out.oth (bytes_dash w6) (by (try simp only [List.length_append, List.length_cons, List.length_nil, nu_len]); have h1 := HLL.out; simp only [List.length_append] at h1; have h2 := wd_len kl; have h3 := wd_len vl; have h4 := HKL.out; omega)) ?_
            rintro e w8 ⟨v8, rfl, a9⟩
            have A8 : Hid _ := A7.out.go hnt a9
            obtain ⟨⟨d0, d1, d2, d3, d4, d5, d6, d7⟩, -⟩ := tx_obj A8.out.box
            have ld := lt_of_heap A8.out.box
            clear a9
            go_wp2_with fail
            go_roundw
            case rel =>
              refine ⟨k + 1, by simp, hkn, ?_⟩
              have h9 := A8.out
              rw [HTK.out]
              simp only [nu_app, EOL.out, List.append_assoc] at h9 ⊢
              exact h9
            case measure => simp only [intOf]; omega
          | true =>
            subst hf
            have EOL : Hid (nu (32 :: opL ⟨1, key, true, value⟩) = nu [32, 114, 40] ++ nu (wd kl) ++ nu [41] ++ nu [61] ++ nu (wd vl)) := by
              show _ = _
              rw [← EK.out.1, ← EK.out.2]
              simp [opL, letr, keyL, valL, nu]
            go_wp2_with fail
            refine Calls.mono (HT.out _ _ _ [32, 114, 40] A1.out.own A1.out.oth (by (try simp only [List.length_append, List.length_cons, List.length_nil, nu_len]); have h1 := HLL.out; simp only [List.length_append] at h1; have h2 := wd_len kl; have h3 := wd_len vl; have h4 := HKL.out; omega)) ?_
            rintro e w2 ⟨v2, rfl, a9⟩
            have A2 : Hid _ := A1.out.go hnt a9
            have B2 : Hid _ := a9.2.box B1.out hno
            obtain ⟨⟨x0, x1, x2, x3⟩, -⟩ := op_obj B2.out
            have lx := lt_of_heap B2.out
            obtain ⟨⟨d0, d1, d2, d3, d4, d5, d6, d7⟩, -⟩ := tx_obj A2.out.box
            have ld := lt_of_heap A2.out.box
            clear a9 A1 B1
            go_wp2_with fail
            refine Calls.mono (HWk.out _) ?_
            rintro e w3 ⟨v9, rfl, b9, c9, rfl, y9, -, k9⟩
            have A3 : Hid _ := A2.out.kept k9
            have B3 : Hid _ := (k9.block _ (lt_of_heap B2.out) (fun e => e)).trans B2.out
            have R3 : Hid _ := y9
            obtain ⟨⟨x0, x1, x2, x3⟩, -⟩ := op_obj B3.out
            have lx := lt_of_heap B3.out
            obtain ⟨⟨d0, d1, d2, d3, d4, d5, d6, d7⟩, -⟩ := tx_obj A3.out.box
            have ld := lt_of_heap A3.out.box
            clear y9 k9 A2 B2
            go_wp2_with fail
            refine Calls.mono (HA.out _ _ _ (wd kl) _ _ A3.out.own A3.out.oth R3.out (by (try simp only [List.length_append, List.length_cons, List.length_nil, nu_len]); have h1 := HLL.out; simp only [List.length_append] at h1; have h2 := wd_len kl; have h3 := wd_len vl; have h4 := HKL.out; omega)) ?_
            rintro e w4 ⟨v4, rfl, a9⟩
            have A4 : Hid _ := A3.out.go hnt a9
            have B4 : Hid _ := a9.2.box B3.out hno
            obtain ⟨⟨x0, x1, x2, x3⟩, -⟩ := op_obj B4.out
            have lx := lt_of_heap B4.out
            obtain ⟨⟨d0, d1, d2, d3, d4, d5, d6, d7⟩, -⟩ := tx_obj A4.out.box
            have ld := lt_of_heap A4.out.box
            clear a9 A3 B3
            go_wp2_with fail
            refine Calls.mono (HT.out _ _ _ [41] A4.out.own A4.out.oth (by (try simp only [List.length_append, List.length_cons, List.length_nil, nu_len]); have h1 := HLL.out; simp only [List.length_append] at h1; have h2 := wd_len kl; have h3 := wd_len vl; have h4 := HKL.out; omega)) ?_
            rintro e w5 ⟨v5, rfl, a9⟩
            have A5 : Hid _ := A4.out.go hnt a9
            have B5 : Hid _ := a9.2.box B4.out hno
            obtain ⟨⟨x0, x1, x2, x3⟩, -⟩ := op_obj B5.out
            have lx := lt_of_heap B5.out
            obtain ⟨⟨d0, d1, d2, d3, d4, d5, d6, d7⟩, -⟩ := tx_obj A5.out.box
            have ld := lt_of_heap A5.out.box
            clear a9 A4 B4
            go_wp2_with fail
            refine Calls.mono (HT.out _ _ _ [61] A5.out.own A5.out.oth (by (try simp only [List.length_append, List.length_cons, List.length_nil, nu_len]); have h1 := HLL.out; simp only [List.length_append] at h1; have h2 := wd_len kl; have h3 := wd_len vl; have h4 := HKL.out; omega)) ?_
            rintro e w6 ⟨v6, rfl, a9⟩
            have A6 : Hid _ := A5.out.go hnt a9
            have B6 : Hid _ := a9.2.box B5.out hno
            obtain ⟨⟨x0, x1, x2, x3⟩, -⟩ := op_obj B6.out
            have lx := lt_of_heap B6.out
            obtain ⟨⟨d0, d1, d2, d3, d4, d5, d6, d7⟩, -⟩ := tx_obj A6.out.box
            have ld := lt_of_heap A6.out.box
            clear a9 A5 B5
            go_wp2_with fail
            have A7 : Hid _ := A6.out.kept ((Same.refl _ w6).alloc (.cells #[.int .u8 45] 5 (1, 2)))
            refine Calls.mono (HWv.out _) ?_
            rintro e w8 ⟨v9, rfl, b9, c9, rfl, y9, -, k9⟩
            have A8 : Hid _ := A7.out.kept k9
            have R8 : Hid _ := y9
            obtain ⟨⟨d0, d1, d2, d3, d4, d5, d6, d7⟩, -⟩ := tx_obj A8.out.box
            have ld := lt_of_heap A8.out.box
            clear y9 k9 A7
            go_wp2_with fail
            refine Calls.mono (HA.out _ _ _ (wd vl) _ _ A8.out.own A8.out.oth R8.out (by (try simp only [List.length_append, List.length_cons, List.length_nil, nu_len]); have h1 := HLL.out; simp only [List.length_append] at h1; have h2 := wd_len kl; have h3 := wd_len vl; have h4 := HKL.out; omega)) ?_
            rintro e w10 ⟨v10, rfl, a9⟩
            have A10 : Hid _ := A8.out.go hnt a9
            obtain ⟨⟨d0, d1, d2, d3, d4, d5, d6, d7⟩, -⟩ := tx_obj A10.out.box
            have ld := lt_of_heap A10.out.box
            clear a9
            go_wp2_with fail
            go_roundw
            case rel =>
              refine ⟨k + 1, by simp, hkn, ?_⟩
              have h9 := A10.out
              rw [HTK.out]
              simp only [nu_app, EOL.out, List.append_assoc] at h9 ⊢
              exact h9
            case measure => simp only [intOf]; omega
        · cases hf : found with
          | false =>
            subst hf
            have EOL : Hid (nu (32 :: opL ⟨2, key, false, value⟩) = nu [32, 119, 40] ++ nu (wd kl) ++ nu [41] ++ nu [61] ++ nu [45]) := by
              show _ = _
              rw [← EK.out.1]
              simp [opL, letr, keyL, nu]
            go_wp2_with fail
            refine Calls.mono (HT.out _ _ _ [32, 119, 40] A1.out.own A1.out.oth (by (try simp only [List.length_append, List.length_cons, List.length_nil, nu_len]); have h1 := HLL.out; simp only [List.length_append] at h1; have h2 := wd_len kl; have h3 := wd_len vl; have h4 := HKL.out; omega)) ?_
            rintro e w2 ⟨v2, rfl, a9⟩
            have A2 : Hid _ := A1.out.go hnt a9
            have B2 : Hid _ := a9.2.box B1.out hno
            obtain ⟨⟨x0, x1, x2, x3⟩, -⟩ := op_obj B2.out
            have lx := lt_of_heap B2.out
            obtain ⟨⟨d0, d1, d2, d3, d4, d5, d6, d7⟩, -⟩ := tx_obj A2.out.box
            have ld := lt_of_heap A2.out.box
            clear a9 A1 B1
            go_wp2_with fail
            refine Calls.mono (HWk.out _) ?_
            rintro e w3 ⟨v9, rfl, b9, c9, rfl, y9, -, k9⟩
            have A3 : Hid _ := A2.out.kept k9
            have B3 : Hid _ := (k9.block _ (lt_of_heap B2.out) (fun e => e)).trans B2.out
            have R3 : Hid _ := y9
            obtain ⟨⟨x0, x1, x2, x3⟩, -⟩ := op_obj B3.out
            have lx := lt_of_heap B3.out
            obtain ⟨⟨d0, d1, d2, d3, d4, d5, d6, d7⟩, -⟩ := tx_obj A3.out.box
            have ld := lt_of_heap A3.out.box
            clear y9 k9 A2 B2
            go_wp2_with fail
            refine Calls.mono (HA.out _ _ _ (wd kl) _ _ A3.out.own A3.out.oth R3.out (by (try simp only [List.length_append, List.length_cons, List.length_nil, nu_len]); have h1 := HLL.out; simp only [List.length_append] at h1; have h2 := wd_len kl; have h3 := wd_len vl; have h4 := HKL.out; omega)) ?_
            rintro e w4 ⟨v4, rfl, a9⟩
            have A4 : Hid _ := A3.out.go hnt a9
            have B4 : Hid _ := a9.2.box B3.out hno
            obtain ⟨⟨x0, x1, x2, x3⟩, -⟩ := op_obj B4.out
            have lx := lt_of_heap B4.out
            obtain ⟨⟨d0, d1, d2, d3, d4, d5, d6, d7⟩, -⟩ := tx_obj A4.out.box
            have ld := lt_of_heap A4.out.box
            clear a9 A3 B3
            go_wp2_with fail
            refine Calls.mono (HT.out _ _ _ [41] A4.out.own A4.out.oth (by (try simp only [List.length_append, List.length_cons, List.length_nil, nu_len]); have h1 := HLL.out; simp only [List.length_append] at h1; have h2 := wd_len kl; have h3 := wd_len vl; have h4 := HKL.out; omega)) ?_
            rintro e w5 ⟨v5, rfl, a9⟩
            have A5 : Hid _ := A4.out.go hnt a9
            have B5 : Hid _ := a9.2.box B4.out hno
            obtain ⟨⟨x0, x1, x2, x3⟩, -⟩ := op_obj B5.out
            have lx := lt_of_heap B5.out
            obtain ⟨⟨d0, d1, d2, d3, d4, d5, d6, d7⟩, -⟩ := tx_obj A5.out.box
            have ld := lt_of_heap A5.out.box
            clear a9 A4 B4
            go_wp2_with fail
            refine Calls.mono (HT.out _ _ _ [61] A5.out.own A5.out.oth (by (try simp only [List.length_append, List.length_cons, List.length_nil, nu_len]); have h1 := HLL.out; simp only [List.length_append] at h1; have h2 := wd_len kl; have h3 := wd_len vl; have h4 := HKL.out; omega)) ?_
            rintro e w6 ⟨v6, rfl, a9⟩
            have A6 : Hid _ := A5.out.go hnt a9
            have B6 : Hid _ := a9.2.box B5.out hno
            obtain ⟨⟨x0, x1, x2, x3⟩, -⟩ := op_obj B6.out
            have lx := lt_of_heap B6.out
            obtain ⟨⟨d0, d1, d2, d3, d4, d5, d6, d7⟩, -⟩ := tx_obj A6.out.box
            have ld := lt_of_heap A6.out.box
            clear a9 A5 B5
            go_wp2_with fail
            have A7 : Hid _ := A6.out.kept ((Same.refl _ w6).alloc (.cells #[.int .u8 45] 5 (1, 2)))
            refine Calls.mono (HA.out _ _ _ [45] _ _ A7.out.own A7.out.oth (bytes_dash w6) (by (try simp only [List.length_append, List.length_cons, List.length_nil, nu_len]); have h1 := HLL.out; simp only [List.length_append] at h1; have h2 := wd_len kl; have h3 := wd_len vl; have h4 := HKL.out; omega)) ?_
            rintro e w8 ⟨v8, rfl, a9⟩
            have A8 : Hid _ := A7.out.go hnt a9
            obtain ⟨⟨d0, d1, d2, d3, d4, d5, d6, d7⟩, -⟩ := tx_obj A8.out.box
            have ld := lt_of_heap A8.out.box
            clear a9
            go_wp2_with fail
            go_roundw
            case rel =>
              refine ⟨k + 1, by simp, hkn, ?_⟩
              have h9 := A8.out
              rw [HTK.out]
              simp only [nu_app, EOL.out, List.append_assoc] at h9 ⊢
              exact h9
            case measure => simp only [intOf]; omega
          | true =>
            subst hf
            have EOL : Hid (nu (32 :: opL ⟨2, key, true, value⟩) = nu [32, 119, 40] ++ nu (wd kl) ++ nu [41] ++ nu [61] ++ nu (wd vl)) := by
              show _ = _
              rw [← EK.out.1, ← EK.out.2]
              simp [opL, letr, keyL, valL, nu]
            go_wp2_with fail
            refine Calls.mono (HT.out _ _ _ [32, 119, 40] A1.out.own A1.out.oth (by (try simp only [List.length_append, List.length_cons, List.length_nil, nu_len]); have h1 := HLL.out; simp only [List.length_append] at h1; have h2 := wd_len kl; have h3 := wd_len vl; have h4 := HKL.out; omega)) ?_
            rintro e w2 ⟨v2, rfl, a9⟩
            have A2 : Hid _ := A1.out.go hnt a9
            have B2 : Hid _ := a9.2.box B1.out hno
            obtain ⟨⟨x0, x1, x2, x3⟩, -⟩ := op_obj B2.out
            have lx := lt_of_heap B2.out
            obtain ⟨⟨d0, d1, d2, d3, d4, d5, d6, d7⟩, -⟩ := tx_obj A2.out.box
            have ld := lt_of_heap A2.out.box
            clear a9 A1 B1
            go_wp2_with fail
            refine Calls.mono (HWk.out _) ?_
            rintro e w3 ⟨v9, rfl, b9, c9, rfl, y9, -, k9⟩
            have A3 : Hid _ := A2.out.kept k9
            have B3 : Hid _ := (k9.block _ (lt_of_heap B2.out) (fun e => e)).trans B2.out
            have R3 : Hid _ := y9
            obtain ⟨⟨x0, x1, x2, x3⟩, -⟩ := op_obj B3.out
            have lx := lt_of_heap B3.out
            obtain ⟨⟨d0, d1, d2, d3, d4, d5, d6, d7⟩, -⟩ := tx_obj A3.out.box
            have ld := lt_of_heap A3.out.box
            clear y9 k9 A2 B2
            go_wp2_with fail
            refine Calls.mono (HA.out _ _ _ (wd kl) _ _ A3.out.own A3.out.oth R3.out (by (try simp only [List.length_append, List.length_cons, List.length_nil, nu_len]); have h1 := HLL.out; simp only [List.length_append] at h1; have h2 := wd_len kl; have h3 := wd_len vl; have h4 := HKL.out; omega)) ?_
            rintro e w4 ⟨v4, rfl, a9⟩
            have A4 : Hid _ := A3.out.go hnt a9
            have B4 : Hid _ := a9.2.box B3.out hno
            obtain ⟨⟨x0, x1, x2, x3⟩, -⟩ := op_obj B4.out
            have lx := lt_of_heap B4.out
            obtain ⟨⟨d0, d1, d2, d3, d4, d5, d6, d7⟩, -⟩ := tx_obj A4.out.box
            have ld := lt_of_heap A4.out.box
            clear a9 A3 B3
            go_wp2_with fail
            refine Calls.mono (HT.out _ _ _ [41] A4.out.own A4.out.oth (by (try simp only [List.length_append, List.length_cons, List.length_nil, nu_len]); have h1 := HLL.out; simp only [List.length_append] at h1; have h2 := wd_len kl; have h3 := wd_len vl; have h4 := HKL.out; omega)) ?_
            rintro e w5 ⟨v5, rfl, a9⟩
            have A5 : Hid _ := A4.out.go hnt a9
            have B5 : Hid _ := a9.2.box B4.out hno
            obtain ⟨⟨x0, x1, x2, x3⟩, -⟩ := op_obj B5.out
            have lx := lt_of_heap B5.out
            obtain ⟨⟨d0, d1, d2, d3, d4, d5, d6, d7⟩, -⟩ := tx_obj A5.out.box
            have ld := lt_of_heap A5.out.box
            clear a9 A4 B4
            go_wp2_with fail
            refine Calls.mono (HT.out _ _ _ [61] A5.out.own A5.out.oth (by (try simp only [List.length_append, List.length_cons, List.length_nil, nu_len]); have h1 := HLL.out; simp only [List.length_append] at h1; have h2 := wd_len kl; have h3 := wd_len vl; have h4 := HKL.out; omega)) ?_
            rintro e w6 ⟨v6, rfl, a9⟩
            have A6 : Hid _ := A5.out.go hnt a9
            have B6 : Hid _ := a9.2.box B5.out hno
            obtain ⟨⟨x0, x1, x2, x3⟩, -⟩ := op_obj B6.out
            have lx := lt_of_heap B6.out
            obtain ⟨⟨d0, d1, d2, d3, d4, d5, d6, d7⟩, -⟩ := tx_obj A6.out.box
            have ld := lt_of_heap A6.out.box
            clear a9 A5 B5
            go_wp2_with fail
            have A7 : Hid _ := A6.out.kept ((Same.refl _ w6).alloc (.cells #[.int .u8 45] 5 (1, 2)))
            refine Calls.mono (HWv.out _) ?_
            rintro e w8 ⟨v9, rfl, b9, c9, rfl, y9, -, k9⟩
            have A8 : Hid _ := A7.out.kept k9
            have R8 : Hid _ := y9
            obtain ⟨⟨d0, d1, d2, d3, d4, d5, d6, d7⟩, -⟩ := tx_obj A8.out.box
            have ld := lt_of_heap A8.out.box
            clear y9 k9 A7
            go_wp2_with fail
            refine Calls.mono (HA.out _ _ _ (wd vl) _ _ A8.out.own A8.out.oth R8.out (by (try simp only [List.length_append, List.length_cons, List.length_nil, nu_len]); have h1 := HLL.out; simp only [List.length_append] at h1; have h2 := wd_len kl; have h3 := wd_len vl; have h4 := HKL.out; omega)) ?_
            rintro e w10 ⟨v10, rfl, a9⟩
            have A10 : Hid _ := A8.out.go hnt a9
            obtain ⟨⟨d0, d1, d2, d3, d4, d5, d6, d7⟩, -⟩ := tx_obj A10.out.box
            have ld := lt_of_heap A10.out.box
            clear a9
            go_wp2_with fail
            go_roundw
            case rel =>
              refine ⟨k + 1, by simp, hkn, ?_⟩
              have h9 := A10.out
              rw [HTK.out]
              simp only [nu_app, EOL.out, List.append_assoc] at h9 ⊢
              exact h9
            case measure => simp only [intOf]; omega
        · 
          have EOL : Hid (nu (32 :: opL ⟨3, key, found, value⟩) = nu [32, 100, 40] ++ nu (wd kl) ++ nu [41]) := by
            show _ = _
            rw [← EK.out.1]
            simp [opL, letr, keyL, nu]
          go_wp2_with fail
          refine Calls.mono (HT.out _ _ _ [32, 100, 40] A1.out.own A1.out.oth (by (try simp only [List.length_append, List.length_cons, List.length_nil, nu_len]); have h1 := HLL.out; simp only [List.length_append] at h1; have h2 := wd_len kl; have h3 := wd_len vl; have h4 := HKL.out; omega)) ?_
          rintro e w2 ⟨v2, rfl, a9⟩
          have A2 : Hid _ := A1.out.go hnt a9
          have B2 : Hid _ := a9.2.box B1.out hno
          obtain ⟨⟨x0, x1, x2, x3⟩, -⟩ := op_obj B2.out
          have lx := lt_of_heap B2.out
          obtain ⟨⟨d0, d1, d2, d3, d4, d5, d6, d7⟩, -⟩ := tx_obj A2.out.box
          have ld := lt_of_heap A2.out.box
          clear a9 A1 B1
          go_wp2_with fail
          refine Calls.mono (HWk.out _) ?_
          rintro e w3 ⟨v9, rfl, b9, c9, rfl, y9, -, k9⟩
          have A3 : Hid _ := A2.out.kept k9
          have B3 : Hid _ := (k9.block _ (lt_of_heap B2.out) (fun e => e)).trans B2.out
          have R3 : Hid _ := y9
          obtain ⟨⟨x0, x1, x2, x3⟩, -⟩ := op_obj B3.out
          have lx := lt_of_heap B3.out
          obtain ⟨⟨d0, d1, d2, d3, d4, d5, d6, d7⟩, -⟩ := tx_obj A3.out.box
          have ld := lt_of_heap A3.out.box
          clear y9 k9 A2 B2
          go_wp2_with fail
          refine Calls.mono (HA.out _ _ _ (wd kl) _ _ A3.out.own A3.out.oth R3.out (by (try simp only [List.length_append, List.length_cons, List.length_nil, nu_len]); have h1 := HLL.out; simp only [List.length_append] at h1; have h2 := wd_len kl; have h3 := wd_len vl; have h4 := HKL.out; omega)) ?_
          rintro e w4 ⟨v4, rfl, a9⟩
          have A4 : Hid _ := A3.out.go hnt a9
          have B4 : Hid _ := a9.2.box B3.out hno
          obtain ⟨⟨x0, x1, x2, x3⟩, -⟩ := op_obj B4.out
          have lx := lt_of_heap B4.out
          obtain ⟨⟨d0, d1, d2, d3, d4, d5, d6, d7⟩, -⟩ := tx_obj A4.out.box
          have ld := lt_of_heap A4.out.box
          clear a9 A3 B3
          go_wp2_with fail
          refine Calls.mono (HT.out _ _ _ [41] A4.out.own A4.out.oth (by (try simp only [List.length_append, List.length_cons, List.length_nil, nu_len]); have h1 := HLL.out; simp only [List.length_append] at h1; have h2 := wd_len kl; have h3 := wd_len vl; have h4 := HKL.out; omega)) ?_
          rintro e w5 ⟨v5, rfl, a9⟩
          have A5 : Hid _ := A4.out.go hnt a9
          have B5 : Hid _ := a9.2.box B4.out hno
          obtain ⟨⟨x0, x1, x2, x3⟩, -⟩ := op_obj B5.out
          have lx := lt_of_heap B5.out
          obtain ⟨⟨d0, d1, d2, d3, d4, d5, d6, d7⟩, -⟩ := tx_obj A5.out.box
          have ld := lt_of_heap A5.out.box
          clear a9 A4 B4
          go_wp2_with fail
          go_roundw
          case rel =>
            refine ⟨k + 1, by simp, hkn, ?_⟩
            have h9 := A5.out
            rw [HTK.out]
            simp only [nu_app, EOL.out, List.append_assoc] at h9 ⊢
            exact h9
          case measure => simp only [intOf]; omega
      · have c1 : decide ((k : Int) < (ops.length : Int)) = false := decide_eq_false (by omega)
        have hkn2 : ¬ (k : Int) < (ops.length : Int) := by omega
        have E : Hid (ops.take k = ops) := List.take_of_length_le (by omega)
        go_wp2_with fail
        go_ret
        refine ⟨_, rfl, ?_⟩
        rw [HL.out]
        have h9 := A0.out
        rw [E.out] at h9
        exact ⟨h9.own, h9.oth.1.mono (fun i hi e => by omega)⟩
end Go.Proofs.YtlldgibpajbabaaDoor
