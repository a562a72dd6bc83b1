/- What is proved: the document's device: ReadInput answers as the plain device does, and leaves it; the device lies in memory. -/
import Derived.Test.YtagkgenhgllglaaDRvD
namespace Go.Proofs.Ytagkgenhgllglaa
open Go.RowKit

set_option maxRecDepth 100000 in
set_option maxHeartbeats 400000 in
theorem rri_no {w : World} {m : M} {p : RP} {Q : List Rb} (h : Rv w m p Q) (b : Int) (hd : m.down = true ∨ b < 0 ∨ (nblk m.inp.length m.B : Int) ≤ b) : Calls Try.prog 33 #[.pointer (some ⟨p.db, 0, none⟩), .int .i64 b] w fun e w' => e = .returned (.tuple #[.slice none 0 0, .int .i64 (if m.down = true then 34 else 35)]) ∧ Kept w w' := by
  have c10 := h.counts.2.2.2.2
  have c0 := h.cells.1
  have c2 := h.cells.2.2.1
  have hdl := lt_of_heap h.dev
  have b1 := h.good.b1
  have b2 := h.good.b2
  have i2 := h.good.inp
  clear h
  cases hdn : m.down with
  | true =>
    rw [hdn] at c10
    clear hd hdn
    go_enter Try.func33, Try.ntmps33
    go_wp2_with fail
    go_ret2
    exact ⟨rfl, Same.refl _ _⟩
  | false =>
    rw [hdn] at c10 hd
    obtain ⟨B, eB⟩ : ∃ B, B = m.B := ⟨_, rfl⟩
    rw [← eB] at c0 hd b1 b2
    obtain ⟨NI, eN⟩ : ∃ NI, NI = m.inp.length := ⟨_, rfl⟩
    rw [← eN] at c2 hd i2
    obtain ⟨q, eq⟩ : ∃ q, q = NI / B := ⟨_, rfl⟩
    have hq : ((NI : Int)).tdiv (B : Int) = (q : Int) := by rw [eq]; rfl
    have hqn : NI / B = q := eq.symm
    have hqi : (NI : Int) / (B : Int) = (q : Int) := by rw [eq]; rfl
    have hq2 : q ≤ 4194304 := by rw [eq]; exact Nat.le_trans (Nat.div_le_self _ _) i2
    have hB : ((B : Int) == 0) = false := by simp; omega
    clear hdn eB eN
    by_cases h1 : b < 0
    · have h1' : decide (b < 0) = true := decide_eq_true h1
      clear hd eq
      go_enter Try.func33, Try.ntmps33
      go_wp2_with fail
      go_quiet (fail)
      go_wp2_with fail
      go_ret2
      exact ⟨rfl, (Same.refl _ w).drewN _⟩
    · have h1' : decide (b < 0) = false := decide_eq_false h1
      obtain ⟨n, rfl⟩ := Int.eq_ofNat_of_zero_le (show 0 ≤ b by omega)
      have h2 : NI ≤ n * B := by
        rcases hd with hd | hd | hd
        · cases hd
        · omega
        · have : ¬ n < nblk NI B := by omega
          rw [lt_nblk (by omega)] at this
          omega
      by_cases h3 : (q : Int) < (n : Int)
      · have h3' : decide ((q : Int) < (n : Int)) = true := decide_eq_true h3
        clear hd eq h2
        go_enter Try.func33, Try.ntmps33
        go_wp2_with fail
        go_quiet (fail)
        go_wp2_with fail
        go_ret2
        exact ⟨rfl, (Same.refl _ w).drewN _⟩
      · have h3' : decide ((q : Int) < (n : Int)) = false := decide_eq_false h3
        obtain ⟨lo, elo⟩ : ∃ lo, lo = n * B := ⟨_, rfl⟩
        have hlo : (n : Int) * (B : Int) = (lo : Int) := by rw [elo]; simp
        have hl2 : lo ≤ 4294967296 := by rw [elo]; exact Nat.le_trans (Nat.mul_le_mul (show n ≤ 4194304 by omega) b2) (by decide)
        have h4' : decide ((NI : Int) ≤ (lo : Int)) = true := decide_eq_true (by rw [elo]; omega)
        have h3n : decide (q < n) = false := decide_eq_false (by omega)
        have h3m : ¬ q < n := by omega
        have h4n : decide (NI ≤ lo) = true := decide_eq_true (by rw [elo]; omega)
        have h4m : NI ≤ lo := by rw [elo]; omega
        clear hd eq h2 elo
        go_enter Try.func33, Try.ntmps33
        go_wp2_with fail
        go_quiet (fail)
        go_wp2_with fail
        go_ret2
        exact ⟨rfl, (Same.refl _ w).drewN _⟩

set_option maxRecDepth 100000 in
set_option maxHeartbeats 800000 in
theorem rri_yes {w : World} {m : M} {p : RP} {Q : List Rb} (h : Rv w m p Q) (n : Nat) (hd : m.down = false) (hn : n * m.B < m.inp.length) (hq : Q.length + 1 ≤ 8796093022208) (hk : m.k + 1 < 4611686018427387904) :
    Calls Try.prog 33 #[.pointer (some ⟨p.db, 0, none⟩), .int .i64 n] w (RRPost w p Q (if Hits m.F 1 n (m.R 1 n + 1) = true then (37, [], (m.cI1.rd 1 n).hit) else (0, cut m.B m.inp n, m.cI1.rd 1 n))) := by
  have c10 := h.counts.2.2.2.2
  have c6 := h.counts.1
  have c0 := h.cells.1
  have c2 := h.cells.2.2.1
  have f6 := h.frz 6
  have hdl := lt_of_heap h.dev
  have hcI : (m.cI : Int) < 4611686018427387904 := by have := h.good.cI; omega
  have b1 := h.good.b1
  have b2 := h.good.b2
  have i2 := h.good.inp
  rw [hd] at c10
  have hK : ∀ x, Rv (w.drewN x) m p Q := fun x => h.on ((Same.refl _ w).drewN x)
  have HRD : Hid (∀ x, _) := fun x => rread_any (hK x).cI1 1 n hq (show m.k + 1 < _ from hk)
  have S1 : Hid (∀ x, Same (ROwn p) w ((w.drewN x).setCell ⟨p.db, 6, none⟩ (.int .i64 ((m.cI : Int) + 1)))) := fun x => ((Same.refl (ROwn p) w).drewN x).setCell _ (.inr (.inl rfl)) _
  obtain ⟨B, eB⟩ : ∃ B, B = m.B := ⟨_, rfl⟩
  rw [← eB] at b1 b2 c0 hn
  obtain ⟨NI, eN⟩ : ∃ NI, NI = m.inp.length := ⟨_, rfl⟩
  rw [← eN] at c2 hn i2
  have EN : Hid _ := eN
  obtain ⟨lo, elo⟩ : ∃ lo, lo = n * B := ⟨_, rfl⟩
  have hlo : (n : Int) * (B : Int) = (lo : Int) := by rw [elo]; simp
  obtain ⟨hi, ehi⟩ : ∃ hi, hi = (n + 1) * B := ⟨_, rfl⟩
  have hhi : ((n : Int) + 1) * (B : Int) = (hi : Int) := by rw [ehi]; simp
  have hlh : hi = lo + B := by rw [ehi, elo, Nat.succ_mul]
  have hlh' : lo ≤ hi := by omega
  have HLH : Hid _ := hlh
  rw [← elo] at hn
  have hnn : n ≤ 4194304 := by
    have : n ≤ lo := by rw [elo]; exact Nat.le_mul_of_pos_right n (by omega)
    omega
  have hhb : hi ≤ 4195328 := by omega
  obtain ⟨q, eq⟩ : ∃ q, q = NI / B := ⟨_, rfl⟩
  have hqd : ((NI : Int)).tdiv (B : Int) = (q : Int) := by rw [eq]; rfl
  have hqn : NI / B = q := eq.symm
  have hqi : (NI : Int) / (B : Int) = (q : Int) := by rw [eq]; rfl
  have hq2 : q ≤ 4194304 := by rw [eq]; exact Nat.le_trans (Nat.div_le_self _ _) i2
  have hB : ((B : Int) == 0) = false := by simp; omega
  have d1 : decide ((n : Int) < 0) = false := decide_eq_false (by omega)
  have hnq : n ≤ q := by rw [eq]; exact (Nat.le_div_iff_mul_le (by omega)).2 (by rw [← elo]; omega)
  have d2 : decide ((q : Int) < (n : Int)) = false := decide_eq_false (by omega)
  have d3 : decide ((NI : Int) ≤ (lo : Int)) = false := decide_eq_false (by omega)
  have d2n : decide (q < n) = false := decide_eq_false (by omega)
  have d2m : ¬ q < n := by omega
  have d3n : decide (NI ≤ lo) = false := decide_eq_false (by omega)
  have d3m : ¬ NI ≤ lo := by omega
  have EB : Hid _ := eB
  have ELO : Hid _ := elo
  have EHI : Hid _ := ehi
  have HHI : Hid _ := hhi
  obtain ⟨X, eX⟩ : ∃ X, X = (if Hits m.F 1 n (m.R 1 n + 1) = true then ((37 : Int), ([] : List Int), (m.cI1.rd 1 n).hit) else (0, cut m.B m.inp n, m.cI1.rd 1 n)) := ⟨_, rfl⟩
  rw [← eX]
  have EX : Hid _ := eX
  clear h hd hK eB eN elo ehi hq hk hlh hhi eX eq
  go_enter Try.func33, Try.ntmps33
  go_wp2_with fail
  go_quiet (fail)
  go_wp2_with fail
  refine Calls.mono (HRD.out _) ?_
  rintro e w2 ⟨v, rfl, hr2, k2, n2⟩
  have eh : Hits m.cI1.F 1 n (m.cI1.R 1 n + 1) = Hits m.F 1 n (m.R 1 n + 1) := rfl
  rw [eh] at hr2 ⊢
  have S2 : Hid (Same (ROwn p) w w2) := (S1.out _).trans' k2
  have N2 : Hid (RNew w p v) := n2.trans (S1.out _).size
  clear k2 n2 eh
  cases hh : Hits m.F 1 n (m.R 1 n + 1) with
  | true =>
    rw [hh] at hr2
    simp only [if_true] at hr2
    have R2 : Hid _ := hr2
    have EX2 : Hid (X = (37, [], (m.cI1.rd 1 n).hit)) := by have := EX.out; rw [hh, if_pos rfl] at this; exact this
    clear hr2 hh
    go_wp2_with fail
    go_ret2
    rw [EX2.out]
    exact RRPost.none R2.out S2.out N2.out (by simp)
  | false =>
    rw [hh] at hr2
    simp only [Bool.false_eq_true, if_false] at hr2
    have R2 : Hid _ := hr2
    have e0 : w2.cell? ⟨p.db, 0, none⟩ = some (.int .i64 B) := by rw [EB.out]; exact hr2.cells.1
    have l2 : p.db < w2.heap.size := lt_of_heap hr2.dev
    have EX2 : Hid (X = (0, cut m.B m.inp n, m.cI1.rd 1 n)) := by have := EX.out; rw [hh, if_neg (by simp)] at this; exact this
    clear hr2 hh
    have hhi := HHI.out
    go_wp2_with fail
    go_loopw [7, 8] (fun s7 s8 wr => ∃ (i : Nat) (av : Value), lo ≤ i ∧ i ≤ hi ∧ i ≤ NI ∧ s8 = .int .i64 i ∧ av = s7 ∧ wr.ownsRow w2.heap.size 5 1 av ((m.inp.drop lo).take (i - lo)).length (byt ((m.inp.drop lo).take (i - lo))) ∧ Kept w2 wr) (fun _ i _ => hi - (intOf i).toNat)
    case atStart => exact ⟨lo, _, Nat.le_refl _, by omega, by omega, rfl, rfl, by rw [Nat.sub_self, List.take_zero]; exact World.ownsRow_nil _ _ _ _, Same.refl _ _⟩
    case round =>
      obtain ⟨i, av, hi0, hi1, hi2, rfl, rfl, hown, kk⟩ := hrel
      have KK : Hid _ := kk
      have HO : Hid _ := hown
      have hr := Rv.on R2.out kk
      have x0 : wr.cell? ⟨p.db, 0, none⟩ = some (.int .i64 B) := by rw [EB.out]; exact hr.cells.1
      have x2 : wr.cell? ⟨p.db, 2, none⟩ = some (.slice p.ia NI p.icap) := by rw [EN.out]; exact hr.cells.2.2.1
      have xl : p.db < wr.heap.size := lt_of_heap hr.dev
      by_cases hlt : i < hi ∧ i < NI
      · have a1 : decide ((i : Int) < (hi : Int)) = true := by simp only [decide_eq_true_eq]; omega
        have a2 : (i : Int) < (hi : Int) := by omega
        have a3 : decide ((i : Int) < (NI : Int)) = true := by simp only [decide_eq_true_eq]; omega
        have a4 : (i : Int) < (NI : Int) := by omega
        obtain ⟨x, hx⟩ : ∃ x, m.inp[i]? = some x := ⟨_, List.getElem?_eq_getElem (by rw [← EN.out]; omega)⟩
        obtain ⟨ab, off, e1, hab, cx⟩ : ∃ ab off, p.ia = some ⟨ab, off, none⟩ ∧ ab < wr.heap.size ∧ wr.cell? ⟨ab, off + i, none⟩ = some (.int .u8 x) := hr.inp i x hx
        rw [e1] at x2
        have HN : Hid _ := cut_snoc (B := B) (b := n) (by rw [← ELO.out]; exact hi0) (by rw [← EHI.out]; exact hlt.1) hx
        rw [← ELO.out] at HN
        have HAP : Hid _ := app_byte (x := x) hown (by rw [List.length_take]; omega) kk.size
        clear kk hown hr hx e1
        go_wp2_with (at_builtin; apply Hid.out)
        refine wpList_app rfl (.tmp 80) (.tmp 88) 22 rfl av (.slice (some ⟨wr.heap.size, 0, none⟩) 1 1) rfl rfl _ HAP.out ?_
        rintro v5 w5 ⟨o5, k5⟩
        have HW : Hid (∃ (j : Nat) (u : Value), lo ≤ j ∧ j ≤ hi ∧ j ≤ NI ∧ .int .i64 ((i : Int) + 1) = Value.int .i64 j ∧ u = v5 ∧ w5.ownsRow w2.heap.size 5 1 u ((m.inp.drop lo).take (j - lo)).length (byt ((m.inp.drop lo).take (j - lo))) ∧ Kept w2 w5) :=
          ⟨i + 1, v5, by omega, by omega, by omega, by simp, rfl, by rw [HN.out]; exact o5, KK.out.trans k5 fun k hk e => by omega⟩
        clear o5 k5 HAP
        go_wp2_with fail
        go_roundw
        case rel => exact HW.out
        case measure => simp only [intOf]; omega
      · have HE : Hid ((m.inp.drop lo).take (i - lo) = cut m.B m.inp n) := by
          unfold cut
          rw [← EB.out, ← ELO.out]
          have := HLH.out
          by_cases q : i = hi
          · rw [show i - lo = B by omega]
            exact rfl
          · rw [List.take_of_length_le (by rw [List.length_drop, ← EN.out]; omega), List.take_of_length_le (by rw [List.length_drop, ← EN.out]; omega)]
            exact rfl
        have HFIN : Hid (∀ u, u = av → RRPost w p Q X (.returned (.tuple #[u, .int .i64 0])) wr) := fun u eu => by
          subst eu
          have h5 := HO.out
          rw [HE.out] at h5
          obtain ⟨a, cap, q1, q2, q3⟩ := BytesAt.of_row h5
          rw [EX2.out]
          exact ⟨a, cap, v, _, by rw [← q1], q2, fun k hk => Nat.le_trans S2.out.size (q3 k hk), Rv.on R2.out KK.out, S2.out.trans' (Kept.to KK.out _), N2.out, by simp⟩
        by_cases hnl : i < NI
        · have a3 : decide ((i : Int) < (NI : Int)) = true := by simp only [decide_eq_true_eq]; omega
          have a4 : (i : Int) < (NI : Int) := by omega
          have a1 : decide ((i : Int) < (hi : Int)) = false := by simp only [decide_eq_false_iff_not]; omega
          have a1m : ¬ i < hi := by omega
          clear kk hown hr hlt
          go_wp2_with fail
          go_ret2
          exact HFIN.out _ rfl
        · have a3 : decide ((i : Int) < (NI : Int)) = false := by simp only [decide_eq_false_iff_not]; omega
          clear kk hown hr hlt
          go_wp2_with fail
          go_ret2
          exact HFIN.out _ rfl
end Go.Proofs.Ytagkgenhgllglaa
