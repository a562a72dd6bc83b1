/- What is proved: the document's space (a list that says of each block whether it is used) in memory, and what its small calls answer; the space is small. -/
import Derived.Test.YtfllilgadphlcaaECnt
import Derived.Deep.OwnRows
namespace Go.Proofs.Ytfllilgadphlcaa
open Go.RowKit

theorem Try.infoBool : (Try.prog.info? 4).map (fun i => (i.zero, i.size, i.bytes)) = some (some (.bool false), 1, 1) := by kernel_rfl
theorem Try.infoPair : (Try.prog.info? 66).map (fun i => (i.zero, i.size, i.bytes)) = some (some (.agg #[.int .i64 0, .int .i64 0]), 2, 16) := by kernel_rfl

/-- The document's space lies in w. -/
structure RS (w : World) (q g N : Nat) (U : Nat → Bool) : Prop where
  obj : w.heap[q]? = some (.cells #[.slice (some ⟨g, 0, none⟩) N N] 53 (0, 0))
  row : w.rowIs g 4 N (fun i => .bool (U i))
  ne : q ≠ g
theorem RS.kept {S : Nat → Prop} {w w' : World} {q g N : Nat} {U : Nat → Bool} (h : RS w q g N U) (k : Same S w w') (hq : ¬ S q) (hg : ¬ S g) : RS w' q g N U :=
  ⟨(k.block _ (lt_of_heap h.obj) hq).trans h.obj, h.row.of_block (k.block _ h.row.lt hg), h.ne⟩
theorem RS.on {w w' : World} {q g N : Nat} {U : Nat → Bool} (h : RS w q g N U) (k : Kept w w') : RS w' q g N U := h.kept k (fun h => h) (fun h => h)
theorem RS.c0 {w : World} {q g N : Nat} {U : Nat → Bool} (h : RS w q g N U) : w.cell? ⟨q, 0, none⟩ = some (.slice (some ⟨g, 0, none⟩) N N) := (cell_of h.obj 0).trans rfl
theorem RS.congr {w : World} {q g N : Nat} {U V : Nat → Bool} (h : RS w q g N U) (e : ∀ i, i < N → U i = V i) : RS w q g N V := ⟨h.obj, h.row.congr fun i hi => by rw [e i hi], h.ne⟩
theorem RS.set {w : World} {q g N : Nat} {U : Nat → Bool} (h : RS w q g N U) (j : Nat) (u : Bool) : RS (w.setCell ⟨g, j, none⟩ (.bool u)) q g N (fun i => if i = j then u else U i) := by
  refine ⟨?_, (h.row.set j (.bool u)).congr fun i _ => by split <;> rfl, h.ne⟩
  rw [Below.heap_setCell _ _ _ _ h.ne]
  exact h.obj

/-- The free ones among the first n. -/
def fr (U : Nat → Bool) : Nat → Nat
  | 0 => 0
  | n + 1 => fr U n + if U n then 0 else 1
theorem fr_le (U : Nat → Bool) (n : Nat) : fr U n ≤ n := by
  induction n with
  | zero => exact Nat.le_refl _
  | succ n ih => simp only [fr]; split <;> omega
/-- The holes are those of the list. -/
def Ag (U : Nat → Bool) (N : Nat) (L : List Ex) : Prop := ∀ b : Nat, b < N → (U b = false ↔ Mm (b : Int) L)
theorem fr_sum {U : Nat → Bool} {N : Nat} {L : List Ex} (h : Ag U N L) (hw : WF 0 N L) : (fr U N : Int) = sum L := by
  rw [sum_cnt hw (Int.le_refl _)]
  have : ∀ n, n ≤ N → (fr U n : Int) = cnt (mmb L) n := by
    intro n hn
    induction n with
    | zero => rfl
    | succ n ih =>
      have ih := ih (by omega)
      have hb := h n (by omega)
      simp only [fr, cnt]
      cases hU : U n with
      | true =>
        have : mmb L (n : Int) = false := by
          cases hm : mmb L (n : Int) with
          | false => rfl
          | true => have := hb.2 ((mmb_iff _ _).1 hm); rw [hU] at this; cases this
        rw [this]; simp; omega
      | false =>
        have : mmb L (n : Int) = true := (mmb_iff _ _).2 (hb.1 hU)
        rw [this]; simp; omega
  exact this N (Nat.le_refl _)

set_option maxRecDepth 100000 in
set_option maxHeartbeats 800000 in
theorem rleft_any {w : World} {q g N : Nat} {U : Nat → Bool} (h : RS w q g N U) (hN : N ≤ 4096) : Calls Try.prog 24 #[.pointer (some ⟨q, 0, none⟩)] w fun e w' => e = .returned (.int .i64 (fr U N : Nat)) ∧ Kept w w' := by
  have hnot : ∀ (x : Bool) (w : World), (Op.unary .not (.bool x)).run Try.prog w = .ok (.bool (!x)) w := fun _ _ => rfl
  have HR : Hid _ := h
  have FL : Hid _ := fr_le U
  clear h
  go_enter Try.func24, Try.ntmps24
  go_wp2_with fail
  go_loopw [3, 4] (fun s i wr => ∃ j : Nat, j ≤ N ∧ i = .int .i64 j ∧ s = .int .i64 (fr U j : Nat) ∧ Kept w wr) (fun _ i _ => N - (intOf i).toNat)
  case atStart => exact ⟨0, Nat.zero_le _, rfl, rfl, Same.refl _ _⟩
  case round =>
    obtain ⟨j, hj, rfl, rfl, kk⟩ := hrel
    have KK : Hid _ := kk
    have hr := RS.on HR.out kk
    have c0 := hr.c0
    have hql := lt_of_heap hr.obj
    have hgl := hr.row.lt
    have hfl := FL.out j
    by_cases hlt : j < N
    · have c1' : decide ((j : Int) < (N : Int)) = true := by simp only [decide_eq_true_eq]; omega
      have hlt2 : (j : Int) < (N : Int) := by omega
      have cj := hr.row.cell hlt
      have hS : fr U (j + 1) = fr U j + if U j then 0 else 1 := rfl
      have HS : Hid _ := hS
      cases hU : U j with
      | true =>
        rw [hU] at cj HS
        clear kk hr hS hU
        go_wp2_with fail
        go_roundw
        case rel => exact ⟨j + 1, by omega, by simp, by rw [HS.out]; simp, KK.out⟩
        case measure => simp only [intOf]; omega
      | false =>
        rw [hU] at cj HS
        clear kk hr hS hU
        obtain ⟨S, eS⟩ : ∃ S, S = fr U j := ⟨_, rfl⟩
        rw [← eS] at HS hfl ⊢
        clear eS
        go_wp2_with fail
        go_roundw
        case rel => exact ⟨j + 1, by omega, by simp, by rw [HS.out]; simp, KK.out⟩
        case measure => simp only [intOf]; omega
    · have c1' : decide ((j : Int) < (N : Int)) = false := by simp only [decide_eq_false_iff_not]; omega
      obtain rfl : j = N := by omega
      clear kk hr
      go_wp2_with fail
      go_ret
      exact ⟨rfl, KK.out⟩

set_option maxRecDepth 100000 in
set_option maxHeartbeats 1600000 in
theorem rinside_any {w : World} {q g N : Nat} {U : Nat → Bool} (h : RS w q g N U) (hN : N ≤ 4096) (f c : Int) : Calls Try.prog 36 #[.pointer (some ⟨q, 0, none⟩), .int .i64 f, .int .i64 c] w fun e w' => e = .returned (.bool (decide (Has N ⟨f, c⟩))) ∧ Kept w w' := by
  have c0 := h.c0
  have hql := lt_of_heap h.obj
  clear h
  by_cases h1 : 1 ≤ c
  · have h1' : decide (1 ≤ c) = true := decide_eq_true h1
    by_cases h2 : 0 ≤ f
    · have h2' : decide (0 ≤ f) = true := decide_eq_true h2
      by_cases h4 : f < (N : Int)
      · have h4' : decide (f < (N : Int)) = true := decide_eq_true h4
        by_cases h3 : c ≤ (N : Int) - f
        · have h3' : decide (c ≤ (N : Int) - f) = true := decide_eq_true h3
          rw [decide_eq_true (show Has N ⟨f, c⟩ from ⟨h1, h2, h3⟩)]
          go_enter Try.func36, Try.ntmps36
          go_wp2_with fail
          go_ret
          exact ⟨rfl, Same.refl _ w⟩
        · have h3' : decide (c ≤ (N : Int) - f) = false := decide_eq_false h3
          rw [decide_eq_false (show ¬ Has N ⟨f, c⟩ from fun h => h3 h.2.2)]
          go_enter Try.func36, Try.ntmps36
          go_wp2_with fail
          go_ret
          exact ⟨rfl, Same.refl _ w⟩
      · have h4' : decide (f < (N : Int)) = false := decide_eq_false h4
        rw [decide_eq_false (show ¬ Has N ⟨f, c⟩ from fun h => by have := h.2.2; simp only at this; omega)]
        go_enter Try.func36, Try.ntmps36
        go_wp2_with fail
        go_ret
        exact ⟨rfl, Same.refl _ w⟩
    · have h2' : decide (0 ≤ f) = false := decide_eq_false h2
      rw [decide_eq_false (show ¬ Has N ⟨f, c⟩ from fun h => h2 h.2.1)]
      go_enter Try.func36, Try.ntmps36
      go_wp2_with fail
      go_ret
      exact ⟨rfl, Same.refl _ w⟩
  · have h1' : decide (1 ≤ c) = false := decide_eq_false h1
    rw [decide_eq_false (show ¬ Has N ⟨f, c⟩ from fun h => h1 h.1)]
    go_enter Try.func36, Try.ntmps36
    go_wp2_with fail
    go_ret
    exact ⟨rfl, Same.refl _ w⟩

set_option maxRecDepth 100000 in
set_option maxHeartbeats 1600000 in
theorem rall_any {w : World} {q g N : Nat} {U : Nat → Bool} (h : RS w q g N U) (hN : N ≤ 4096) (f c : Nat) (u : Bool) (hfc : f + c ≤ N) : Calls Try.prog 37 #[.pointer (some ⟨q, 0, none⟩), .int .i64 f, .int .i64 c, .bool u] w fun e w' => ∃ r : Bool, e = .returned (.bool r) ∧ (r = true ↔ ∀ i, f ≤ i → i < f + c → U i = u) ∧ Kept w w' := by
  have HR : Hid _ := h
  clear h
  go_enter Try.func37, Try.ntmps37
  go_wp2_with fail
  go_loopw [9] (fun i wr => ∃ j : Nat, f ≤ j ∧ j ≤ f + c ∧ i = .int .i64 j ∧ (∀ i, f ≤ i → i < j → U i = u) ∧ Kept w wr) (fun i _ => f + c - (intOf i).toNat)
  case atStart => exact ⟨f, Nat.le_refl _, by omega, rfl, fun i h1 h2 => by omega, Same.refl _ _⟩
  case round =>
    obtain ⟨j, hj0, hj, rfl, hall, kk⟩ := hrel
    have KK : Hid _ := kk
    have HA : Hid _ := hall
    have hr := RS.on HR.out kk
    have c0 := hr.c0
    have hql := lt_of_heap hr.obj
    have hgl := hr.row.lt
    by_cases hlt : j < f + c
    · have c1' : decide ((j : Int) < (f : Int) + (c : Int)) = true := by simp only [decide_eq_true_eq]; omega
      have hlt2 : (j : Int) < (f : Int) + (c : Int) := by omega
      have hlt3 : (j : Int) < (N : Int) := by omega
      have cj := hr.row.cell (i := j) (by omega)
      by_cases hU : U j = u
      · have HU : Hid _ := hU
        rw [hU] at cj
        clear kk hr hall hU
        cases u <;>
        · go_wp2_with fail
          go_roundw
          case rel =>
            refine ⟨j + 1, by omega, by omega, by simp, fun i h1 h2 => ?_, KK.out⟩
            rcases Nat.lt_or_ge i j with h | h
            · exact HA.out i h1 h
            · obtain rfl : i = j := by omega
              exact HU.out
          case measure => simp only [intOf]; omega
      · have HU : Hid _ := hU
        have hU2 : U j = !u := by cases h : U j <;> cases u <;> simp_all
        rw [hU2] at cj
        clear kk hr hall hU hU2
        cases u <;>
        · go_wp2_with fail
          go_ret
          exact ⟨false, rfl, ⟨fun h => (by cases h), fun h => absurd (h j hj0 hlt) HU.out⟩, KK.out⟩
    · have c1' : decide ((j : Int) < (f : Int) + (c : Int)) = false := by simp only [decide_eq_false_iff_not]; omega
      obtain rfl : j = f + c := by omega
      clear kk hr hall
      go_wp2_with fail
      go_ret
      exact ⟨true, rfl, ⟨fun _ => HA.out, fun _ => rfl⟩, KK.out⟩

/-- The blocks of an extent are marked. -/
def mk (U : Nat → Bool) (f c : Nat) (u : Bool) (i : Nat) : Bool := if f ≤ i ∧ i < f + c then u else U i

set_option maxRecDepth 100000 in
set_option maxHeartbeats 1600000 in
theorem rmark_any {w : World} {q g N : Nat} {U : Nat → Bool} (h : RS w q g N U) (hN : N ≤ 4096) (f c : Nat) (u : Bool) (hfc : f + c ≤ N) : Calls Try.prog 35 #[.pointer (some ⟨q, 0, none⟩), .int .i64 f, .int .i64 c, .bool u] w fun e w' => e = .returned (.tuple #[]) ∧ RS w' q g N (mk U f c u) ∧ Same (fun k => k = g) w w' := by
  have HR : Hid _ := h
  have hne := h.ne
  clear h
  go_enter Try.func35, Try.ntmps35
  go_wp2_with fail
  go_loopw [8] (fun i wr => ∃ j : Nat, f ≤ j ∧ j ≤ f + c ∧ i = .int .i64 j ∧ RS wr q g N (mk U f (j - f) u) ∧ Same (fun k => k = g) w wr) (fun i _ => f + c - (intOf i).toNat)
  case atStart => exact ⟨f, Nat.le_refl _, by omega, rfl, RS.congr HR.out (fun i _ => by rw [Nat.sub_self]; unfold mk; rw [if_neg (by omega)]), Same.refl _ _⟩
  case round =>
    obtain ⟨j, hj0, hj, rfl, hr, kk⟩ := hrel
    have KK : Hid _ := kk
    have HRR : Hid _ := hr
    have c0 := hr.c0
    have hql := lt_of_heap hr.obj
    have hgl := hr.row.lt
    by_cases hlt : j < f + c
    · have c1' : decide ((j : Int) < (f : Int) + (c : Int)) = true := by simp only [decide_eq_true_eq]; omega
      have hlt2 : (j : Int) < (f : Int) + (c : Int) := by omega
      have c2' : decide ((j : Int) < (N : Int)) = true := by simp only [decide_eq_true_eq]; omega
      have hlt3 : (j : Int) < (N : Int) := by omega
      have cj := hr.row.cell (i := j) (by omega)
      have fj := hr.row.frozen j
      clear kk hr
      go_wp2_with fail
      go_roundw
      case rel =>
        refine ⟨j + 1, by omega, by omega, by simp, RS.congr (RS.set HRR.out j u) (fun i _ => ?_), KK.out.setCell _ (.inr rfl) _⟩
        unfold mk
        by_cases h1 : i = j
        · rw [if_pos h1, if_pos (by omega)]
        · rw [if_neg h1]
          by_cases h2 : f ≤ i ∧ i < f + (j - f)
          · rw [if_pos h2, if_pos (by omega)]
          · rw [if_neg h2, if_neg (by omega)]
      case measure => simp only [intOf]; omega
    · have c1' : decide ((j : Int) < (f : Int) + (c : Int)) = false := by simp only [decide_eq_false_iff_not]; omega
      obtain rfl : j = f + c := by omega
      rw [Nat.add_sub_cancel_left] at HRR
      clear kk hr
      go_wp2_with fail
      go_end0
      exact ⟨rfl, HRR.out, KK.out⟩
end Go.Proofs.Ytfllilgadphlcaa
