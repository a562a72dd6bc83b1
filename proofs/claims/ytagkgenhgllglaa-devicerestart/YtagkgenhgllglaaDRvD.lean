/- What is proved: the document's device: ReadScratch answers as the plain device does, and leaves it; the device lies in memory. -/
import Derived.Test.YtagkgenhgllglaaDRvC
namespace Go.Proofs.Ytagkgenhgllglaa
open Go.RowKit

theorem RNew.trans {w w1 : World} {p : RP} {v : Value} (h : RNew w1 p v) (k : w.heap.size ≤ w1.heap.size) : RNew w p v := h.imp id fun ⟨x, a, b⟩ => ⟨x, a, Nat.le_trans k b⟩

set_option maxRecDepth 100000 in
set_option maxHeartbeats 400000 in
theorem rrs_no {w : World} {m : M} {p : RP} {Q : List Rb} (h : Rv w m p Q) (b : Int) (hd : m.down = true ∨ b < 0 ∨ (m.S : Int) ≤ b) : Calls Try.prog 34 #[.pointer (some ⟨p.db, 0, none⟩), .int .i64 b] w fun e w' => e = .returned (.tuple #[.slice none 0 0, .int .i64 (if m.down = true then 34 else 35)]) ∧ w' = w := by
  have c10 := h.counts.2.2.2.2
  have c1 := h.cells.2.1
  have hdl := lt_of_heap h.dev
  clear h
  cases hdn : m.down with
  | true =>
    rw [hdn] at c10
    clear hd hdn
    go_enter Try.func34, Try.ntmps34
    go_wp2_with fail
    go_ret2
    exact ⟨rfl, rfl⟩
  | false =>
    rw [hdn] at c10 hd
    obtain ⟨S, eS⟩ : ∃ S, S = m.S := ⟨_, rfl⟩
    rw [← eS] at c1 hd
    clear hdn eS
    by_cases h1 : b < 0
    · have h1' : decide (b < 0) = true := decide_eq_true h1
      clear hd
      go_enter Try.func34, Try.ntmps34
      go_wp2_with fail
      go_ret2
      exact ⟨rfl, rfl⟩
    · have h1' : decide (b < 0) = false := decide_eq_false h1
      have h2 : (S : Int) ≤ b := by
        rcases hd with hd | hd | hd
        · cases hd
        · omega
        · exact hd
      have h2' : decide ((S : Int) ≤ b) = true := decide_eq_true h2
      clear hd
      go_enter Try.func34, Try.ntmps34
      go_wp2_with fail
      go_ret2
      exact ⟨rfl, rfl⟩

set_option maxRecDepth 100000 in
set_option maxHeartbeats 800000 in
theorem rrs_yes {w : World} {m : M} {p : RP} {Q : List Rb} (h : Rv w m p Q) (n : Nat) (hd : m.down = false) (hn : n < m.S) (hq : Q.length + 1 ≤ 8796093022208) (hk : m.k + 1 < 4611686018427387904) :
    Calls Try.prog 34 #[.pointer (some ⟨p.db, 0, none⟩), .int .i64 n] w (RRPost w p Q (if Hits m.F 2 n (m.R 2 n + 1) = true then (37, [], (m.cS1.rd 2 n).hit) else (0, cut m.B m.scr n, m.cS1.rd 2 n))) := by
  have c10 := h.counts.2.2.2.2
  have c7 := h.counts.2.1
  have c1 := h.cells.2.1
  have f7 := h.frz 7
  have hdl := lt_of_heap h.dev
  have hcS : (m.cS : Int) < 4611686018427387904 := by have := h.good.cS; omega
  have b1 := h.good.b1
  have b2 := h.good.b2
  have s2 := h.good.s2
  rw [hd] at c10
  have H1 : Rv (w.setCell ⟨p.db, 7, none⟩ (.int .i64 ((m.cS : Int) + 1))) m.cS1 p Q := h.cS1
  have S1 : Hid (Same (ROwn p) w (w.setCell ⟨p.db, 7, none⟩ (.int .i64 ((m.cS : Int) + 1)))) := (Same.refl (ROwn p) w).setCell _ (.inr (.inl rfl)) _
  have HRD : Hid _ := rread_any H1 2 n hq (show m.k + 1 < _ from hk)
  have HSL : Hid (m.scr.length = m.B * m.S) := h.good.scr
  obtain ⟨B, eB⟩ : ∃ B, B = m.B := ⟨_, rfl⟩
  rw [← eB] at b1 b2
  obtain ⟨S, eS⟩ : ∃ S, S = m.S := ⟨_, rfl⟩
  rw [← eS] at c1 hn s2
  obtain ⟨lo, elo⟩ : ∃ lo, lo = n * B := ⟨_, rfl⟩
  have hlo : (n : Int) * (B : Int) = (lo : Int) := by rw [elo]; simp
  obtain ⟨hi, ehi⟩ : ∃ hi, hi = (n + 1) * B := ⟨_, rfl⟩
  have hhi : ((n : Int) + 1) * (B : Int) = (hi : Int) := by rw [ehi]; simp
  have hlh : hi = lo + B := by rw [ehi, elo, Nat.succ_mul]
  have hlh' : lo ≤ hi := by omega
  have HLH : Hid _ := hlh
  have hhs : hi ≤ B * S := by rw [ehi, Nat.mul_comm]; exact Nat.mul_le_mul_left _ hn
  have hbs : B * S ≤ 4194304 := Nat.le_trans (Nat.mul_le_mul b2 s2) (by decide)
  obtain ⟨BS, eBS⟩ : ∃ BS, BS = B * S := ⟨_, rfl⟩
  rw [← eBS] at hhs hbs
  have EBS : Hid (m.B * m.S = BS) := by rw [eBS, eB, eS]; exact rfl
  have EB : Hid _ := eB
  have ELO : Hid _ := elo
  have EHI : Hid _ := ehi
  have d1 : decide ((n : Int) < 0) = false := decide_eq_false (by omega)
  have d2 : decide ((S : Int) ≤ (n : Int)) = false := decide_eq_false (by omega)
  have d2' : ¬ ((S : Int) ≤ (n : Int)) := by omega
  have HQL : Hid (Q.length + 1 ≤ Q.length + 1) := Nat.le_refl _
  have HLO : Hid _ := hlo
  have HHI : Hid _ := hhi
  obtain ⟨X, eX⟩ : ∃ X, X = (if Hits m.F 2 n (m.R 2 n + 1) = true then ((37 : Int), ([] : List Int), (m.cS1.rd 2 n).hit) else (0, cut m.B m.scr n, m.cS1.rd 2 n)) := ⟨_, rfl⟩
  rw [← eX]
  have EX : Hid _ := eX
  clear h hd H1 eB eS elo ehi eBS hq hk hlh hlo hhi eX
  go_enter Try.func34, Try.ntmps34
  go_wp2_with fail
  refine Calls.mono HRD.out ?_
  rintro e w2 ⟨v, rfl, hr2, k2, n2⟩
  have eh : Hits m.cS1.F 2 n (m.cS1.R 2 n + 1) = Hits m.F 2 n (m.R 2 n + 1) := rfl
  rw [eh] at hr2 ⊢
  have S2 : Hid (Same (ROwn p) w w2) := S1.out.trans' k2
  have N2 : Hid (RNew w p v) := n2.trans S1.out.size
  clear k2 n2 eh
  cases hh : Hits m.F 2 n (m.R 2 n + 1) with
  | true =>
    rw [hh] at hr2
    simp only [if_true] at hr2
    have R2 : Hid _ := hr2
    have EX2 : Hid (X = (37, [], (m.cS1.rd 2 n).hit)) := by have := EX.out; rw [hh, if_pos rfl] at this; exact this
    clear hr2 hh
    go_wp2_with fail
    go_ret2
    rw [EX2.out]
    exact RRPost.none R2.out S2.out N2.out (by simp)
  | false =>
    rw [hh] at hr2
    simp only [Bool.false_eq_true, if_false] at hr2
    have R2 : Hid _ := hr2
    have e0 : w2.cell? ⟨p.db, 0, none⟩ = some (.int .i64 B) := by rw [EB.out]; exact hr2.cells.1
    have l2 : p.db < w2.heap.size := lt_of_heap hr2.dev
    have EX2 : Hid (X = (0, cut m.B m.scr n, m.cS1.rd 2 n)) := by have := EX.out; rw [hh, if_neg (by simp)] at this; exact this
    clear hr2 hh
    have hlo := HLO.out
    have hhi := HHI.out
    go_wp2_with fail
    go_loopw [7, 8] (fun s7 s8 wr => ∃ (i : Nat) (av : Value), lo ≤ i ∧ i ≤ hi ∧ s8 = .int .i64 i ∧ av = s7 ∧ wr.ownsRow w2.heap.size 5 1 av ((m.scr.drop lo).take (i - lo)).length (byt ((m.scr.drop lo).take (i - lo))) ∧ Kept w2 wr) (fun _ i _ => hi - (intOf i).toNat)
    case atStart => exact ⟨lo, _, Nat.le_refl _, by omega, rfl, rfl, by rw [Nat.sub_self, List.take_zero]; exact World.ownsRow_nil _ _ _ _, Same.refl _ _⟩
    case round =>
      obtain ⟨i, av, hi0, hi1, rfl, rfl, hown, kk⟩ := hrel
      have KK : Hid _ := kk
      have HO : Hid _ := hown
      have hr := Rv.on R2.out kk
      have x0 : wr.cell? ⟨p.db, 0, none⟩ = some (.int .i64 B) := by rw [EB.out]; exact hr.cells.1
      have x3 : wr.cell? ⟨p.db, 3, none⟩ = some (.slice (some ⟨p.sb, 0, none⟩) BS BS) := by rw [← EBS.out]; exact hr.cells.2.2.2.1
      have xl : p.db < wr.heap.size := lt_of_heap hr.dev
      by_cases hlt : i < hi
      · have a1 : decide ((i : Int) < (hi : Int)) = true := by simp only [decide_eq_true_eq]; omega
        have a2 : (i : Int) < (hi : Int) := by omega
        have a3 : (i : Int) < (BS : Int) := by omega
        obtain ⟨x, hx⟩ : ∃ x, m.scr[i]? = some x := ⟨_, List.getElem?_eq_getElem (by rw [HSL.out, EBS.out]; omega)⟩
        have cx : wr.cell? ⟨p.sb, i, none⟩ = some (.int .u8 x) := by
          obtain ⟨b', off', q1, q2, q3⟩ := bytes_row hr.scr i x hx
          cases q1
          rwa [Nat.zero_add] at q3
        have sl : p.sb < wr.heap.size := lt_of_heap hr.scr
        have HN : Hid _ := cut_snoc (B := B) (b := n) (by rw [← ELO.out]; exact hi0) (by rw [← EHI.out]; exact hlt) hx
        rw [← ELO.out] at HN
        have HAP : Hid _ := app_byte (x := x) hown (by rw [List.length_take]; omega) kk.size
        clear kk hown hr hx
        go_wp2_with (at_builtin; apply Hid.out)
        refine wpList_app rfl (.tmp 51) (.tmp 59) 22 rfl av (.slice (some ⟨wr.heap.size, 0, none⟩) 1 1) rfl rfl _ HAP.out ?_
        rintro v5 w5 ⟨o5, k5⟩
        have HW : Hid (∃ (j : Nat) (u : Value), lo ≤ j ∧ j ≤ hi ∧ .int .i64 ((i : Int) + 1) = Value.int .i64 j ∧ u = v5 ∧ w5.ownsRow w2.heap.size 5 1 u ((m.scr.drop lo).take (j - lo)).length (byt ((m.scr.drop lo).take (j - lo))) ∧ Kept w2 w5) :=
          ⟨i + 1, v5, by omega, by omega, by simp, rfl, by rw [HN.out]; exact o5, KK.out.trans k5 fun k hk e => by omega⟩
        clear o5 k5 HAP
        go_wp2_with fail
        go_roundw
        case rel => exact HW.out
        case measure => simp only [intOf]; omega
      · have a1 : decide ((i : Int) < (hi : Int)) = false := by simp only [decide_eq_false_iff_not]; omega
        obtain rfl : i = hi := by omega
        have HE : Hid ((m.scr.drop lo).take (i - lo) = cut m.B m.scr n) := by
          unfold cut
          rw [← EB.out, ← ELO.out, show i - lo = B by have := HLH.out; omega]
          exact rfl
        clear kk hown hr
        go_wp2_with fail
        go_ret2
        have h5 := HO.out
        rw [HE.out] at h5
        obtain ⟨a, cap, q1, q2, q3⟩ := BytesAt.of_row h5
        rw [EX2.out]
        refine ⟨a, cap, v, _, by rw [← q1]; rfl, q2, fun k hk => Nat.le_trans S2.out.size (q3 k hk), Rv.on R2.out KK.out, S2.out.trans' (Kept.to KK.out _), N2.out, by simp⟩
end Go.Proofs.Ytagkgenhgllglaa
