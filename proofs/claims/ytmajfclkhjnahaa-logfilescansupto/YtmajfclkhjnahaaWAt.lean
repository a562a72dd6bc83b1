/- What is proved: the document's At reads the number that stands at a place; the list lies in memory. -/
import Derived.Test.YtmajfclkhjnahaaWFirst
namespace Go.Proofs.Ytmajfclkhjnahaa
open Go.RowKit

/-- What the groups of a list of bytes are worth. -/
def val : List Int → Nat
  | [] => 0
  | x :: r => x.toNat % 128 + 128 * val r
theorem val_snoc (l : List Int) (x : Int) : val (l ++ [x]) = val l + x.toNat % 128 * 128 ^ l.length := by
  induction l with
  | nil => simp [val]
  | cons y r ih =>
    simp only [List.cons_append, val, ih, List.length_cons, Nat.pow_succ, Nat.mul_add]
    rw [← Nat.mul_assoc 128, Nat.mul_comm 128 (x.toNat % 128), Nat.mul_assoc, Nat.mul_comm 128 (128 ^ r.length), Nat.add_assoc]
theorem val_lt (l : List Int) : val l < 128 ^ l.length := by
  induction l with
  | nil => simp [val]
  | cons y r ih =>
    simp only [val, List.length_cons, Nat.pow_succ]
    omega
/-- The first j bytes are all 128 or more. -/
def Lead (r : List Int) (j : Nat) : Prop := ∀ i, i < j → ∃ x, r[i]? = some x ∧ 128 ≤ x
theorem Lead.len {r : List Int} {j : Nat} (h : Lead r j) : j ≤ r.length := by
  cases j with
  | zero => omega
  | succ j =>
    obtain ⟨x, hx, _⟩ := h j (by omega)
    have := (List.getElem?_eq_some_iff.1 hx).1
    omega
theorem take_snoc {r : List Int} {j : Nat} {x : Int} (h : r[j]? = some x) : r.take (j + 1) = r.take j ++ [x] := by
  rw [List.take_add_one, h]
  rfl
theorem num_lead {r : List Int} {j : Nat} (h : Lead r j) (hj : j ≤ 8) : num 8 r = more j (val (r.take j)) (num (8 - j) (r.drop j)) := by
  induction j with
  | zero => exact (more_zero _ num_err).symm
  | succ j ih =>
    rw [ih (fun i hi => h i (by omega)) (by omega)]
    obtain ⟨x, hx, h8⟩ := h j (by omega)
    obtain ⟨hj', ex⟩ := List.getElem?_eq_some_iff.1 hx
    have hd : r.drop j = x :: r.drop (j + 1) := by rw [← ex]; exact List.drop_eq_getElem_cons hj'
    rw [hd, show 8 - j = (8 - (j + 1)) + 1 by omega, more_step h8, take_snoc hx, val_snoc, List.length_take, Nat.min_eq_left (by omega)]
theorem num_long {r : List Int} (h : Lead r 8) : num 8 r = (0, 0, 52) := num_lead h (Nat.le_refl _)
theorem num_end {r : List Int} (h : Lead r r.length) (hl : r.length < 8) : num 8 r = (0, 0, 51) := by
  rw [num_lead h (by omega), List.drop_length]
  obtain ⟨k, hk⟩ : ∃ k, 8 - r.length = k + 1 := ⟨7 - r.length, by omega⟩
  rw [hk]
  rfl
theorem num_found {r : List Int} {j : Nat} {x : Int} (h : Lead r j) (hj : j < 8) (hx : r[j]? = some x) (h8 : ¬ 128 ≤ x) (h0 : 0 ≤ x) : num 8 r = if x = 0 ∧ 0 < j then (0, 0, 52) else (val (r.take (j + 1)), j + 1, 0) := by
  rw [num_lead h (by omega)]
  obtain ⟨hj', ex⟩ := List.getElem?_eq_some_iff.1 hx
  have hd : r.drop j = x :: r.drop (j + 1) := by rw [← ex]; exact List.drop_eq_getElem_cons hj'
  obtain ⟨k, hk⟩ : ∃ k, 8 - j = k + 1 := ⟨7 - j, by omega⟩
  rw [hd, hk]
  by_cases hz : x = 0 ∧ 0 < j
  · rw [if_pos hz]
    have e : num (k + 1) (x :: r.drop (j + 1)) = (0, 0, 52) := by
      simp only [num]
      rw [if_neg h8, if_pos ⟨hz.1, by omega⟩]
    rw [e]
    rfl
  · rw [if_neg hz]
    have e : num (k + 1) (x :: r.drop (j + 1)) = (x.toNat, 1, 0) := by
      simp only [num]
      rw [if_neg h8, if_neg (by omega)]
    rw [e, take_snoc hx, val_snoc, List.length_take, Nat.min_eq_left (by omega), show x.toNat % 128 = x.toNat by omega]
    simp [more, Nat.mul_comm]

set_option maxRecDepth 100000 in
set_option maxHeartbeats 3200000 in
theorem at_any (w : World) (oa : Option Addr) (c : Nat) (l : List Int) (pl : Nat) (hl : BytesAt w oa l) (hby : Byts l) (hlen : l.length ≤ 140737488355328) (hpl : pl ≤ l.length) :
    Calls Try.prog 32 #[.slice oa l.length c, .int .i64 (pl : Int)] w fun e w' => e = .returned (.tuple #[.int .i64 (num 8 (l.drop pl)).1, .int .i64 (num 8 (l.drop pl)).2.1, .int .i64 (num 8 (l.drop pl)).2.2]) ∧ w' = w := by
  obtain ⟨r, er⟩ : ∃ r, r = l.drop pl := ⟨_, rfl⟩
  have hget : ∀ i : Nat, r[i]? = l[pl + i]? := fun i => by rw [er, List.getElem?_drop]
  have hrl : r.length = l.length - pl := by rw [er]; simp
  rw [← er]
  obtain ⟨n, en⟩ : ∃ n, n = l.length := ⟨_, rfl⟩
  rw [← en] at hlen hpl hrl ⊢
  have HL : Hid _ := hl
  have HBY : Hid _ := hby
  have HG : Hid _ := hget
  have HRL : Hid _ := hrl
  have EN : Hid _ := en
  clear hl hby hget hrl er en
  go_enter Try.func32, Try.ntmps32
  go_wp2_with fail
  go_loop [7, 8] (fun s i => (∃ j : Nat, s = .int .i64 0 ∧ i = .int .i64 ((pl + j : Nat) : Int) ∧ j < 8 ∧ pl + j ≤ n ∧ Lead r j) ∨ (∃ (j : Nat) (x : Int), s = .int .i64 ((j + 1 : Nat) : Int) ∧ i = .int .i64 ((pl + (j + 1) : Nat) : Int) ∧ j < 8 ∧ pl + (j + 1) ≤ n ∧ Lead r j ∧ r[j]? = some x ∧ x < 128)) (fun _ i => n + 8 - (intOf i).toNat)
  case atStart => exact .inl ⟨0, rfl, rfl, by decide, hpl, fun i hi => absurd hi (by omega)⟩
  case round =>
    rcases hrel with ⟨j, rfl, rfl, hj, hjn, hld⟩ | ⟨j, x, rfl, rfl, hj, hjn, hld, hx, hx8⟩
    · have HLD : Hid _ := hld
      clear hld
      obtain ⟨p, ep⟩ : ∃ p, p = pl + j := ⟨_, rfl⟩
      rw [← ep] at hjn ⊢
      by_cases hp : p < n
      · have c1 : decide ((p : Int) < (n : Int)) = true := decide_eq_true (by omega)
        have c1' : (p : Int) < (n : Int) := by omega
        obtain ⟨x, hx⟩ : ∃ x, l[p]? = some x := ⟨_, List.getElem?_eq_getElem (by rw [← EN.out]; exact hp)⟩
        obtain ⟨b, off, rfl, -, q0⟩ := HL.out p x hx
        obtain ⟨x0, x1⟩ := Byts.get HBY.out hx
        have HX : Hid (r[j]? = some x) := by rw [HG.out, ← ep]; exact hx
        have hsub : (p : Int) - (pl : Int) = (j : Int) := by omega
        have hj7 : (j : Int) ≤ 7 := by omega
        have EP : Hid (p = pl + j) := ep
        clear hx ep
        by_cases h8 : 128 ≤ x
        · have c2 : decide (x < 128) = false := decide_eq_false (by omega)
          have c3 : decide (128 ≤ x) = true := decide_eq_true h8
          have c2' : ¬ x < 128 := by omega
          have HL2 : Hid (Lead r (j + 1)) := fun i hi => by
            by_cases e : i = j
            · subst e; exact ⟨x, HX.out, h8⟩
            · exact HLD.out i (by omega)
          by_cases h7 : j = 7
          · have c4 : ((j : Int) == 7) = true := by simp; omega
            have c4' : (j : Int) = 7 := by omega
            have E : Hid (num 8 r = (0, 0, 52)) := by
              have := HL2.out
              rw [h7] at this
              exact num_long this
            clear h7
            go_wp2_with fail
            go_ret3
            exact ⟨by rw [E.out]; rfl, rfl⟩
          · have c4 : ((j : Int) == 7) = false := by simp; omega
            have c4' : ¬ (j : Int) = 7 := by omega
            go_wp2_with fail
            go_round
            case rel => exact .inl ⟨j + 1, rfl, by have := EP.out; congr 1; omega, by omega, by have := EP.out; omega, HL2.out⟩
            case measure => simp only [intOf]; omega
        · have c2 : decide (x < 128) = true := decide_eq_true (by omega)
          have c3 : decide (128 ≤ x) = false := decide_eq_false h8
          have c2' : x < 128 := by omega
          go_wp2_with fail
          go_round
          case rel => exact .inr ⟨j, x, by congr 1, by have := EP.out; congr 1; omega, hj, by have := EP.out; omega, HLD.out, HX.out, c2'⟩
          case measure => simp only [intOf]; omega
      · have c1 : decide ((p : Int) < (n : Int)) = false := decide_eq_false (by omega)
        have c1' : ¬ (p : Int) < (n : Int) := by omega
        have E : Hid (num 8 r = (0, 0, 51)) := by
          have e : r.length = j := by rw [HRL.out]; omega
          exact num_end (by rw [e]; exact HLD.out) (by omega)
        clear ep
        go_wp2_with fail
        go_ret3
        exact ⟨by rw [E.out]; rfl, rfl⟩
    · obtain ⟨sz, es⟩ : ∃ sz, sz = j + 1 := ⟨_, rfl⟩
      obtain ⟨p, ep⟩ : ∃ p, p = pl + sz := ⟨_, rfl⟩
      rw [← es] at hjn ⊢
      rw [← ep] at hjn ⊢
      have x0 : 0 ≤ x := by
        rw [HG.out] at hx
        exact (Byts.get HBY.out hx).1
      have HX : Hid _ := hx
      have E : Hid _ := num_found hld hj hx (by omega) x0
      have hs0 : ((sz : Int) == 0) = false := by simp; omega
      have hs0' : ¬ (sz : Int) = 0 := by omega
      have q1 : (pl : Int) + (sz : Int) = (p : Int) := by omega
      obtain ⟨z, ez⟩ : ∃ z, z = p - 1 := ⟨_, rfl⟩
      have q2 : (p : Int) - 1 = (z : Int) := by omega
      have q3 : (z : Int) < (n : Int) := by omega
      have q4 : (p : Int) ≤ 140737488355328 := by omega
      have hz : l[z]? = some x := by rw [← hx, HG.out]; congr 1; omega
      obtain ⟨b, off, rfl, -, q0⟩ := HL.out z x hz
      have ES : Hid _ := es
      have EP : Hid _ := ep
      have hsz8 : (sz : Int) ≤ 8 := by omega
      have hsz1 : 1 ≤ (sz : Int) := by omega
      have hpn : ∀ pn : Nat, decide ((pn : Int) < (n : Int)) = true ∨ decide ((pn : Int) < (n : Int)) = false := fun pn => by
        cases decide ((pn : Int) < (n : Int)) <;> simp
      have HJ : Hid _ := hj
      clear hld hx hz
      by_cases hzz : x = 0 ∧ 0 < j
      · obtain ⟨rfl, hj0⟩ := hzz
        have c1 : decide (1 < (sz : Int)) = true := decide_eq_true (by omega)
        have c1' : 1 < (sz : Int) := by omega
        have E2 : Hid (num 8 r = (0, 0, 52)) := E.out.trans (if_pos ⟨rfl, hj0⟩)
        clear E es ep ez hj0 hj
        rcases hpn p with c0 | c0
        · have c0' : (p : Int) < (n : Int) := of_decide_eq_true c0
          go_wp2_with fail
          go_ret3
          exact ⟨by rw [E2.out]; rfl, rfl⟩
        · have c0' : ¬ (p : Int) < (n : Int) := of_decide_eq_false c0
          go_wp2_with fail
          go_ret3
          exact ⟨by rw [E2.out]; rfl, rfl⟩
      · have E2 : Hid (num 8 r = (val (r.take sz), sz, 0)) := (E.out.trans (if_neg hzz)).trans (by rw [ES.out])
        have hpn2 : (decide ((p : Int) < (n : Int)) = true ∧ (p : Int) < (n : Int)) ∨ (decide ((p : Int) < (n : Int)) = false ∧ ¬ (p : Int) < (n : Int)) := by
          by_cases h : (p : Int) < (n : Int)
          · exact .inl ⟨decide_eq_true h, h⟩
          · exact .inr ⟨decide_eq_false h, h⟩
        have hx1 : (decide (1 < (sz : Int)) = false ∧ ¬ 1 < (sz : Int)) ∨ (decide (1 < (sz : Int)) = true ∧ 1 < (sz : Int) ∧ (x == 0) = false ∧ ¬ x = 0) := by
          by_cases h : 1 < (sz : Int)
          · exact .inr ⟨decide_eq_true h, h, by simp; omega, by omega⟩
          · exact .inl ⟨decide_eq_false h, h⟩
        have HT : Hid ((r.take sz).length = sz) := by
          have := HRL.out
          show (r.take sz).length = sz
          rw [List.length_take]
          omega
        have hpl2 : (pl : Int) ≤ 140737488355328 := by omega
        have HPN : Hid (pl + sz ≤ n) := by show pl + sz ≤ n; omega
        clear E es ep ez hzz hj hpn hjn
        rcases hpn2 with ⟨c0, c0'⟩ | ⟨c0, c0'⟩ <;> rcases hx1 with ⟨c1, c1'⟩ | ⟨c1, c1', c2, c2'⟩
        all_goals
          go_wp2_with fail
          go_loop [9, 10] (fun a i => ∃ k : Nat, k ≤ sz ∧ i = .int .i64 ((k : Int) - 1) ∧ a = .int .i64 (val ((r.take sz).drop k) : Nat)) (fun _ i => (intOf i + 1).toNat)
          case atStart =>
            refine ⟨sz, Nat.le_refl _, rfl, ?_⟩
            rw [List.drop_eq_nil_of_le (by rw [HT.out]; exact Nat.le_refl _)]
            rfl
          case round =>
            obtain ⟨k, hk, rfl, rfl⟩ := hrel
            cases k with
            | zero =>
              go_wp2_with fail
              go_ret3
              exact ⟨by rw [E2.out]; rfl, rfl⟩
            | succ m =>
              have e1 : ((m + 1 : Nat) : Int) - 1 = (m : Int) := by omega
              rw [e1]
              obtain ⟨t, et⟩ : ∃ t, t = pl + m := ⟨_, rfl⟩
              have ht : (pl : Int) + (m : Int) = (t : Int) := by omega
              have htn : t < n := by have := HPN.out; omega
              have htn' : (t : Int) < (n : Int) := by omega
              obtain ⟨y, hy⟩ : ∃ y, l[t]? = some y := ⟨_, List.getElem?_eq_getElem (by rw [← EN.out]; exact htn)⟩
              obtain ⟨b', off', e', -, q5⟩ := HL.out t y hy
              cases e'
              obtain ⟨y0, y1⟩ := Byts.get HBY.out hy
              have hy2 : (r.take sz)[m]? = some y := by
                rw [List.getElem?_take_of_lt (by omega), HG.out, ← et]
                exact hy
              obtain ⟨hm', ey⟩ := List.getElem?_eq_some_iff.1 hy2
              have hv : val ((r.take sz).drop m) = y.toNat % 128 + 128 * val ((r.take sz).drop (m + 1)) := by
                rw [List.drop_eq_getElem_cons hm', ey]
                rfl
              have hvl := val_lt ((r.take sz).drop (m + 1))
              rw [List.length_drop, HT.out] at hvl
              have hvl2 : val ((r.take sz).drop (m + 1)) < 562949953421312 := Nat.lt_of_lt_of_le hvl (Nat.pow_le_pow_right (n := 128) (by decide) (show sz - (m + 1) ≤ 7 by omega))
              have HV : Hid _ := hv
              generalize val ((r.take sz).drop (m + 1)) = V at hvl2 HV ⊢
              have hV : (V : Int) < 562949953421312 := by omega
              clear e1 et hy hy2 ey hm' hv hvl htn
              go_wp2_with fail
              go_round
              case rel => exact ⟨m, by omega, by congr 1, by rw [HV.out]; congr 1; omega⟩
              case measure => simp only [intOf]; omega
end Go.Proofs.Ytmajfclkhjnahaa
