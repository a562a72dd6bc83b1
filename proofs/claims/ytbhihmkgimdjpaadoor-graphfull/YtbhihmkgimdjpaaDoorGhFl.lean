/- What is proved: the law GraphFull: a graph takes 65536 edges, each once, and no more; the library's table lies as its text lays it. -/
import Derived.Test.YtbhihmkgimdjpaaDoorGhN
namespace Go.Proofs.YtbhihmkgimdjpaaDoor
open Go.RowKit

theorem inM_255 {l : Int} (h1 : 1 ≤ l) (h8 : l ≤ 8) : inM l 255 = true := by
  have : l = 1 ∨ l = 2 ∨ l = 3 ∨ l = 4 ∨ l = 5 ∨ l = 6 ∨ l = 7 ∨ l = 8 := by omega
  rcases this with rfl | rfl | rfl | rfl | rfl | rfl | rfl | rfl <;> decide
theorem addC_nd {n : Nat} {E : List Eg} {e : Eg} (h : EFit n e) : addC n E e = if e ∈ E then 193 else if 65536 ≤ E.length then 194 else 0 := by
  unfold addC
  rw [if_pos ⟨nd_iff.2 ⟨h.f0, h.fn⟩, nd_iff.2 ⟨h.t0, h.tn⟩⟩, if_neg (by have := h.l1; have := h.l8; omega)]
theorem addE_no {n : Nat} {E : List Eg} {e : Eg} (h : addC n E e ≠ 0) : addE n E e = E := by unfold addE; rw [if_neg h]
theorem addE_yes {n : Nat} {E : List Eg} {e : Eg} (h : addC n E e = 0) : addE n E e = E ++ [e] := by unfold addE; rw [if_pos h]
/-- The edges that the law puts in. -/
def fe (i : Nat) : Eg := ⟨((i % 1024 : Nat) : Int), ((i / 1024 % 8 : Nat) : Int) * 8, 1 + ((i / 8192 : Nat) : Int)⟩
def fE (k : Nat) : List Eg := (List.range k).map fe
theorem fe_inj {i j : Nat} (h : fe i = fe j) : i = j := by
  simp only [fe, Eg.mk.injEq] at h
  omega
theorem fe_fit {i : Nat} (h : i < 65536) : EFit 1024 (fe i) := by
  unfold fe
  exact ⟨by simp only; omega, by simp only; omega, by simp only; omega, by simp only; omega, by simp only; omega, by simp only; omega⟩
theorem fE_len (k : Nat) : (fE k).length = k := by simp [fE]
theorem fE_succ (k : Nat) : fE (k + 1) = fE k ++ [fe k] := by simp [fE, List.range_succ]
theorem fe_new (k : Nat) : fe k ∉ fE k := fun h => by
  obtain ⟨i, hi, e⟩ := List.mem_map.1 h
  have := fe_inj e
  have := List.mem_range.1 hi
  omega
theorem fe_add {k : Nat} (h : k < 65536) : addC 1024 (fE k) (fe k) = 0 := by
  rw [addC_nd (fe_fit h), if_neg (fe_new k), if_neg (by rw [fE_len]; omega)]
theorem fe_t {k : Nat} {e : Eg} (h : e ∈ fE k) : e.t % 8 = 0 := by
  obtain ⟨i, -, rfl⟩ := List.mem_map.1 h
  simp only [fe]
  omega
set_option maxRecDepth 100000 in
set_option maxHeartbeats 6400000 in
theorem full_law (w : World) (s : Int) (hT : TabG w) : Calls Tryd.prog 8 #[.int .i64 s] w fun r w' => r = .returned (.bool true) ∧ Kept w w' := by
  have HT : Hid (TabG w) := hT
  have HAN : Hid _ := anchor19 hT
  have HN : Hid (∀ W : World, _) := fun W => new19_ok (n := 1024) (by omega) W
  clear hT
  by_cases hs : s < 0 ∨ 1000 < s
  · rcases hs with hs | hs
    · have d1 : decide (s < 0) = true := decide_eq_true hs
      go_enter Tryd.func8, Tryd.ntmps8
      go_wp2_with fail
      refine Calls.mono HAN.out ?_
      rintro r w1 ⟨rfl, k1⟩
      have K1 : Hid (Kept w w1) := k1
      go_wp2_with fail
      go_ret
      exact ⟨rfl, K1.out⟩
    · have d1 : decide (s < 0) = false := decide_eq_false (by omega)
      have h1 : ¬ s < 0 := by omega
      have h2 : s > 1000 := hs
      have d2 : decide (s > 1000) = true := decide_eq_true hs
      go_enter Tryd.func8, Tryd.ntmps8
      go_wp2_with fail
      refine Calls.mono HAN.out ?_
      rintro r w1 ⟨rfl, k1⟩
      have K1 : Hid (Kept w w1) := k1
      go_wp2_with fail
      go_ret
      exact ⟨rfl, K1.out⟩
  · obtain ⟨p, rfl⟩ : ∃ p : Nat, s = p := ⟨s.toNat, by omega⟩
    have h1 : ¬ (p : Int) < 0 := by omega
    have h2 : ¬ (p : Int) > 1000 := by omega
    have d1 : decide ((p : Int) < 0) = false := decide_eq_false h1
    have d2 : decide ((p : Int) > 1000) = false := decide_eq_false h2
    clear hs
    by_cases hp : 2 < p
    · have h3 : (p : Int) > 2 := by omega
      have d3 : decide ((p : Int) > 2) = true := decide_eq_true h3
      have h4 : (p : Int).tmod 8 = ((p % 8 : Nat) : Int) := by rw [Int.tmod_eq_emod_of_nonneg (by omega)]; rfl
      have h5 : p % 8 ≤ 7 := by omega
      obtain ⟨b, eb⟩ : ∃ b, b = p % 8 := ⟨_, rfl⟩
      rw [← eb] at h4 h5
      have HP : Hid (p ≤ 1000 ∧ b ≤ 7) := ⟨by omega, h5⟩
      clear eb
      go_enter Tryd.func8, Tryd.ntmps8
      go_wp2_with fail
      refine Calls.mono HAN.out ?_
      rintro r w1 ⟨rfl, k1⟩
      have K1 : Hid (Kept w w1) := k1
      clear k1
      go_wp2_with fail
      refine Calls.mono (HN.out _) ?_
      rintro r w2 ⟨⟨gb, rfl, hg⟩, k2⟩
      have K2 : Hid (Kept w w2) := K1.out.trans' k2
      have hg := (Gb.mk hg.g (Nat.le_trans K1.out.size hg.lo) fun mb h => Nat.le_trans K1.out.size (hg.lm mb h) : Gb w.heap.size w2 gb 1024 [])
      obtain ⟨e, ee⟩ : ∃ e : Eg, e = ⟨(p : Int), 5, 1 + (b : Int)⟩ := ⟨_, rfl⟩
      have hf : EFit 1024 e := by rw [ee]; exact ⟨by simp only; omega, by simp only; have := HP.out; omega, by simp, by simp, by simp only; omega, by simp only; have := HP.out; omega⟩
      have c0 : addC 1024 [] e = 0 := by rw [addC_nd hf]; simp
      have HA : Hid _ := add19 hg K2.out.size e (hf.eok (by omega))
      rw [addE_yes c0, c0, List.nil_append] at HA
      have HF : Hid (EFit 1024 e ∧ e = ⟨(p : Int), 5, 1 + (b : Int)⟩) := ⟨hf, ee⟩
      clear hg k2 c0 hf
      go_wp2_with fail
      rw [show e = _ from HF.out.2] at HA
      refine Calls.mono HA.out ?_
      rintro r w3 ⟨rfl, hg3, s3⟩
      rw [← show e = _ from HF.out.2] at hg3
      have K3 : Hid (Kept w w3) := K2.out.trans s3 (fun i hi e => by omega)
      have c1 : addC 1024 [e] e = 193 := by rw [addC_nd HF.out.1, if_pos (List.mem_singleton.2 rfl)]
      have HA2 : Hid _ := add19 hg3 K3.out.size e (HF.out.1.eok (by omega))
      rw [addE_no (by rw [c1]; decide), c1, show egV e = egV ⟨(p : Int), 5, 1 + (b : Int)⟩ by rw [HF.out.2]] at HA2
      clear hg3 s3 HA c1
      go_wp2_with fail
      refine Calls.mono HA2.out ?_
      rintro r w4 ⟨rfl, hg4, s4⟩
      have K4 : Hid (Kept w w4) := K3.out.trans s4 (fun i hi e => by omega)
      have HG4 : Hid (Gb w.heap.size w4 gb 1024 [e]) := hg4
      have HED : Hid _ := edges19 hg4.g
      clear hg4 s4 HA2
      go_wp2_with fail
      refine Calls.mono HED.out ?_
      rintro r w5 ⟨v, rfl, o5, k5⟩
      obtain ⟨a, cap, rfl, -⟩ := o5.shape
      have el : (srt ltE [e]).length = 1 := rfl
      have K5 : Hid (Kept w w5) := K4.out.trans' k5
      have HR : Hid _ := reach19 (HG4.out.g.on k5) (HT.out.on (K4.out.trans' k5)) (p : Int) 5 255
      rw [el]
      clear o5 k5 HED
      go_wp2_with fail
      refine Calls.mono HR.out ?_
      rintro r w6 ⟨⟨v, rfl, hv⟩, k6⟩
      obtain rfl : v = true := hv.2 ⟨nd_iff.2 (by have := HP.out; omega), by decide, .one (adj_iff.2 ⟨e, List.mem_singleton.2 rfl, by rw [HF.out.2]; rfl, by rw [HF.out.2]; rfl, inM_255 HF.out.1.l1 HF.out.1.l8⟩)⟩
      have K6 : Hid (Kept w w6) := K5.out.trans' k6
      clear k6 hv HR
      go_wp2_with fail
      go_ret
      exact ⟨rfl, K6.out⟩
    · have h3 : ¬ (p : Int) > 2 := by omega
      have d3 : decide ((p : Int) > 2) = false := decide_eq_false h3
      go_enter Tryd.func8, Tryd.ntmps8
      go_wp2_with fail
      refine Calls.mono HAN.out ?_
      rintro r w1 ⟨rfl, k1⟩
      have K1 : Hid (Kept w w1) := k1
      clear k1
      go_wp2_with fail
      refine Calls.mono (HN.out _) ?_
      rintro r w2 ⟨⟨gb, rfl, hg⟩, k2⟩
      have K2 : Hid (Kept w w2) := K1.out.trans' k2
      have HG : Hid (Gb w.heap.size w2 gb 1024 []) := (Gb.mk hg.g (Nat.le_trans K1.out.size hg.lo) fun mb h => Nat.le_trans K1.out.size (hg.lm mb h))
      clear hg k2
      go_wp2_with fail
      go_loopw [6] (fun i6 wr => ∃ i : Nat, i6 = .int .i64 (i : Int) ∧ i ≤ 65536 ∧ Gb w.heap.size wr gb 1024 (fE i) ∧ Kept w wr) (fun i6 _ => 65536 - (intOf i6).toNat)
      case atStart => exact ⟨0, rfl, by omega, HG.out, K2.out⟩
      case round =>
        obtain ⟨i, rfl, hi, hg, hk⟩ := hrel
        rename World => WL
        have HL : Hid (Gb w.heap.size WL gb 1024 (fE i) ∧ Kept w WL) := ⟨hg, hk⟩
        by_cases hlt : i < 65536
        · have c1 : (i : Int) < 65536 := by omega
          have HA : Hid _ := add19 hg hk.size (fe i) ((fe_fit hlt).eok (by omega))
          rw [addE_yes (fe_add hlt), fe_add hlt, ← fE_succ] at HA
          unfold fe at HA
          obtain ⟨a, ea⟩ : ∃ a, a = i % 1024 := ⟨_, rfl⟩
          obtain ⟨b, eb⟩ : ∃ b, b = i / 1024 := ⟨_, rfl⟩
          obtain ⟨c, ec⟩ : ∃ c, c = i / 1024 % 8 := ⟨_, rfl⟩
          obtain ⟨d, ed⟩ : ∃ d, d = i / 8192 := ⟨_, rfl⟩
          rw [← ea, ← ec, ← ed] at HA
          have t1 : (i : Int).tmod 1024 = (a : Int) := by rw [Int.tmod_eq_emod_of_nonneg (by omega)]; omega
          have t2 : (i : Int).tdiv 1024 = (b : Int) := by rw [Int.tdiv_eq_ediv_of_nonneg (by omega)]; omega
          have t3 : (b : Int).tmod 8 = (c : Int) := by rw [Int.tmod_eq_emod_of_nonneg (by omega)]; omega
          have t4 : (i : Int).tdiv 8192 = (d : Int) := by rw [Int.tdiv_eq_ediv_of_nonneg (by omega)]; omega
          have b1 : b ≤ 64 ∧ c ≤ 7 ∧ d ≤ 8 ∧ a ≤ 1024 := by omega
          obtain ⟨b11, b12, b13, b14⟩ := b1
          clear hg hk ea eb ec ed
          go_wp2_with fail
          refine Calls.mono HA.out ?_
          rintro r w5 ⟨rfl, hg5, s5⟩
          have H5 : Hid (Gb w.heap.size w5 gb 1024 (fE (i + 1)) ∧ Kept w w5) := ⟨hg5, HL.out.2.trans s5 (fun i hi e => by omega)⟩
          clear hg5 s5 HA
          go_wp2_with fail
          exact ⟨⟨i + 1, by simp, hlt, H5.out.1, H5.out.2⟩, by simp only [intOf]; omega⟩
        · have hi2 : i = 65536 := by omega
          obtain ⟨E, eE⟩ : ∃ E, E = fE i := ⟨_, rfl⟩
          have HE : Hid (E.length = 65536 ∧ (⟨1, 0, 1⟩ : Eg) ∈ E ∧ ∀ e ∈ E, e.t % 8 = 0) := ⟨by rw [eE, fE_len]; exact hi2, by rw [eE]; exact List.mem_map.2 ⟨1, List.mem_range.2 (by omega), by decide⟩, fun e he => fe_t (by rw [← eE]; exact he)⟩
          rw [← eE] at HL hg
          have hi3 : ¬ (i : Int) < 65536 := by omega
          clear eE hi2 hi hlt HG K2 K1 HAN HN
          have e1 : addC 1024 E ⟨1, 1, 1⟩ = 194 := by
            rw [addC_nd ⟨by decide, by decide, by decide, by decide, by decide, by decide⟩, if_neg (fun h => by have := HE.out.2.2 _ h; simp at this), if_pos (by have := HE.out.1; omega)]
          have e2 : addC 1024 E ⟨1, 0, 1⟩ = 193 := by
            rw [addC_nd ⟨by decide, by decide, by decide, by decide, by decide, by decide⟩, if_pos HE.out.2.1]
          have e3 : addC 1024 E ⟨1, 0, 9⟩ = 192 := by unfold addC; rw [if_pos ⟨by decide, by decide⟩, if_pos (.inr (by decide))]
          have e4 : addC 1024 E ⟨1024, 0, 9⟩ = 191 := by unfold addC; rw [if_neg (by decide)]
          have HA : Hid _ := add19 hg hk.size ⟨1, 1, 1⟩ ⟨by unfold I64; decide, by unfold I64; decide, by unfold I64; decide⟩
          rw [addE_no (by rw [e1]; decide), e1] at HA
          have HC : Hid (addC 1024 E ⟨1, 0, 1⟩ = 193 ∧ addC 1024 E ⟨1, 0, 9⟩ = 192 ∧ addC 1024 E ⟨1024, 0, 9⟩ = 191) := ⟨e2, e3, e4⟩
          clear e1 e2 e3 e4 hg hk
          go_wp2_with fail
          refine Calls.mono HA.out ?_
          rintro r w5 ⟨rfl, hg5, s5⟩
          have K5 : Hid (Kept w w5) := HL.out.2.trans s5 (fun i hi e => by omega)
          have HA5 : Hid _ := add19 hg5 K5.out.size ⟨1, 0, 1⟩ ⟨by unfold I64; decide, by unfold I64; decide, by unfold I64; decide⟩
          rw [addE_no (by rw [HC.out.1]; decide), HC.out.1] at HA5
          clear hg5 s5 HA
          go_wp2_with fail
          refine Calls.mono HA5.out ?_
          rintro r w6 ⟨rfl, hg6, s6⟩
          have K6 : Hid (Kept w w6) := K5.out.trans s6 (fun i hi e => by omega)
          have HA6 : Hid _ := add19 hg6 K6.out.size ⟨1, 0, 9⟩ ⟨by unfold I64; decide, by unfold I64; decide, by unfold I64; decide⟩
          rw [addE_no (by rw [HC.out.2.1]; decide), HC.out.2.1] at HA6
          clear hg6 s6 HA5
          go_wp2_with fail
          refine Calls.mono HA6.out ?_
          rintro r w7 ⟨rfl, hg7, s7⟩
          have K7 : Hid (Kept w w7) := K6.out.trans s7 (fun i hi e => by omega)
          have HA7 : Hid _ := add19 hg7 K7.out.size ⟨1024, 0, 9⟩ ⟨by unfold I64; decide, by unfold I64; decide, by unfold I64; decide⟩
          rw [addE_no (by rw [HC.out.2.2]; decide), HC.out.2.2] at HA7
          clear hg7 s7 HA6
          go_wp2_with fail
          refine Calls.mono HA7.out ?_
          rintro r w8 ⟨rfl, hg8, s8⟩
          have K8 : Hid (Kept w w8) := K7.out.trans s8 (fun i hi e => by omega)
          have HR : Hid _ := reach19 hg8.g (HT.out.on K8.out) 5 1 255
          clear hg8 s8 HA7
          go_wp2_with fail
          refine Calls.mono HR.out ?_
          rintro r w9 ⟨⟨v, rfl, hv⟩, k9⟩
          obtain rfl : v = false := by
            cases v with
            | false => rfl
            | true =>
              obtain ⟨-, -, hw⟩ := hv.1 rfl
              obtain ⟨x, hx⟩ := hw.last
              obtain ⟨e, he, -, h2, -⟩ := adj_iff.1 hx
              have := HE.out.2.2 e he
              rw [h2] at this
              simp at this
          have K9 : Hid (Kept w w9) := K8.out.trans' k9
          clear k9 hv HR
          go_wp2_with fail
          go_ret
          exact ⟨rfl, K9.out⟩
end Go.Proofs.YtbhihmkgimdjpaaDoor
