/- What is proved: plain facts: a log's lines are read back as the log, without the last byte as an error at the last line, and with an empty line in between as an error there; parts of a list of transactions; no condition. -/
import Derived.Test.YtlldgibpajbabaaDoorNoPg
import Derived.Test.YtlldgibpajbabaaDoorNoPq
import Derived.Test.YtlldgibpajbabaaDoorNoBL
namespace Go.Proofs.YtlldgibpajbabaaDoor
open Go.RowKit

theorem line_nol {t : TxM} (h : Right t) : (line t).all nol = true := by
  have ha := asc_line (form_right h)
  rw [List.all_eq_true] at ha ⊢
  intro b hb
  obtain ⟨k, hk, rfl⟩ := List.mem_iff_getElem.1 hb
  have := (asc_at (l := line t) (asc_line (form_right h)) (k := k) (List.getElem?_eq_getElem hk)).1
  by_cases e : (line t)[k] = 10
  · rw [e] at this
    exact absurd this (by decide)
  · simp [nol, e]
theorem line_ne (t : TxM) : line t ≠ [] := by
  rw [line_eq]
  unfold numL
  simp
theorem parse_empty : parseT [] = (tz0, 210) := by
  have h : (readT []).2 = false := by
    cases e : (readT []).2 with
    | false => rfl
    | true =>
      obtain ⟨t, -, ht⟩ := read_form e
      exact absurd ht (line_ne t)
  unfold parseT
  rw [if_pos h]
theorem lead_line {t : TxM} (h : Right t) (s : List UInt8) : lead nol (line t ++ 10 :: s) = (line t).length := lead_stop (line_nol h) (halt_cons (by decide) _)
theorem plR_line {t : TxM} (h : Right t) (n : Nat) (acc : List TxM) (hacc : acc.length ≠ 4096) (s : List UInt8) : plR (n + 1) acc (line t ++ 10 :: s) = plR n (acc ++ [t]) s := by
  rw [plR_succ, if_neg (by simp), if_neg hacc, lead_line h, if_neg (by simp), List.take_left, right_parse h, if_neg (by simp)]
  congr 1
  rw [List.drop_append, List.drop_of_length_le (by omega), Nat.add_sub_cancel_left]
  rfl
theorem lines_cons (t : TxM) (l : List TxM) (s : List UInt8) : linesL (t :: l) ++ s = line t ++ 10 :: (linesL l ++ s) := by simp [linesL]
theorem plR_lines : ∀ (l : List TxM) (acc : List TxM) (m : Nat) (s : List UInt8), (∀ t ∈ l, Right t) → acc.length + l.length ≤ 4096 → plR (m + l.length) acc (linesL l ++ s) = plR m (acc ++ l) s
  | [], acc, m, s, _, _ => by simp [linesL]
  | t :: l, acc, m, s, h, hl => by
    rw [List.length_cons] at hl
    rw [lines_cons, List.length_cons, ← Nat.add_assoc, plR_line (h t List.mem_cons_self) _ _ (by omega), plR_lines l (acc ++ [t]) m s (fun x hx => h x (List.mem_cons_of_mem _ hx)) (by rw [List.length_append, List.length_singleton]; omega), List.append_assoc]
    rfl
theorem plR_fuel : ∀ (n n' : Nat) (acc : List TxM) (s : List UInt8), s.length ≤ n → s.length ≤ n' → plR n acc s = plR n' acc s
  | 0, n', acc, s, h, _ => by
    obtain rfl := List.eq_nil_of_length_eq_zero (Nat.le_zero.1 h)
    rw [plR_end, plR_end]
  | n + 1, 0, acc, s, _, h => by
    obtain rfl := List.eq_nil_of_length_eq_zero (Nat.le_zero.1 h)
    rw [plR_end, plR_end]
  | n + 1, n' + 1, acc, s, h, h' => by
    rw [plR_succ, plR_succ]
    by_cases h1 : s = []
    · rw [if_pos h1, if_pos h1]
    · have h0 : s.length ≠ 0 := fun e => h1 (List.eq_nil_of_length_eq_zero e)
      rw [plR_fuel n n' (acc ++ [(parseT (s.take (lead nol s))).1]) (s.drop (lead nol s + 1)) (by rw [List.length_drop]; omega) (by rw [List.length_drop]; omega)]
/-- What is read of lines with a text behind them. -/
theorem plogP_lines {l : List TxM} (h : ∀ t ∈ l, Right t) (hl : l.length ≤ 4096) (s : List UInt8) : plogP (linesL l ++ s) = plR s.length l s := by
  show plR _ _ _ = _
  rw [plR_fuel _ ((linesL l ++ s).length + s.length + l.length) _ _ (Nat.le_refl _) (by omega), plR_lines l [] _ s h (by simpa using hl), List.nil_append]
  exact plR_fuel _ _ _ _ (by omega) (Nat.le_refl _)
theorem plogP_all {l : List TxM} (h : ∀ t ∈ l, Right t) (hl : l.length ≤ 4096) : plogP (linesL l) = (l, 0, 0) := by
  have := plogP_lines h hl []
  rw [List.append_nil] at this
  rw [this, plR_end]
theorem plogP_cut {l : List TxM} (h : ∀ t ∈ l, Right t) (hl : l.length ≤ 4096) (hne : l ≠ []) : plogP ((linesL l).take ((linesL l).length - 1)) = ([], l.length - 1, 210) := by
  obtain ⟨l', t, rfl⟩ : ∃ l' t, l = l' ++ [t] := ⟨l.dropLast, l.getLast hne, (List.dropLast_concat_getLast hne).symm⟩
  rw [List.length_append, List.length_singleton] at hl
  have e : (linesL (l' ++ [t])).take ((linesL (l' ++ [t])).length - 1) = linesL l' ++ line t := by
    rw [lines_snoc, List.length_append, List.length_singleton, Nat.add_sub_cancel, List.take_left]
  have ht := h t (by simp)
  have hll := lead_stop (f := nol) (a := line t) (r := []) (line_nol ht) (fun b hb => by simp at hb)
  rw [List.append_nil] at hll
  have h0 : (line t).length ≠ 0 := fun q => line_ne t (List.eq_nil_of_length_eq_zero q)
  rw [e, plogP_lines (fun x hx => h x (by simp [hx])) (by omega), List.length_append, List.length_singleton, Nat.add_sub_cancel]
  obtain ⟨n, en⟩ : ∃ n, (line t).length = n + 1 := ⟨(line t).length - 1, by omega⟩
  rw [en, plR_succ, if_neg (line_ne t), if_neg (by omega), if_pos hll]
theorem plogP_hole {l : List TxM} {k : Nat} (h : ∀ t ∈ l, Right t) (hk : k ≤ 4096) (hkl : k ≤ l.length) (s : List UInt8) : plogP (linesL (l.take k) ++ [10] ++ s) = ([], k, if k = 4096 then 71 else 210) := by
  have hlen : (l.take k).length = k := by rw [List.length_take]; omega
  have hz : lead nol (10 :: s) = 0 := by simp [lead, nol]
  rw [List.append_assoc, plogP_lines (fun x hx => h x (List.mem_of_mem_take hx)) (by omega)]
  show plR (s.length + 1) _ (10 :: s) = _
  rw [plR_succ, if_neg (by simp), hlen, hz]
  by_cases h4 : k = 4096
  · rw [if_pos h4, if_pos h4]
  · rw [if_neg h4, if_neg h4, if_neg (by simp), List.take_zero, parse_empty, if_pos (by simp)]
/-- Parts of a list that is an argument. -/
theorem arg_take {w : World} {a : Option Addr} {c : Nat} {l : List TxR} (h : ArgL w a c l) (k : Nat) : ArgL w a c (l.take k) := by
  have hk : (l.take k).length ≤ l.length := by rw [List.length_take]; omega
  refine ⟨fun i r hi => ?_, fun e => ⟨by have := (h.nil e).1; omega, (h.nil e).2⟩, by have := h.len; omega, fun r hr => h.each r (List.mem_of_mem_take hr)⟩
  have hi' := (List.getElem?_eq_some_iff.1 hi).1
  rw [List.length_take] at hi'
  rw [List.getElem?_take_of_lt (by omega)] at hi
  exact h.txs i r hi
theorem arg_drop {w : World} {b off c : Nat} {l : List TxR} (h : ArgL w (some ⟨b, off, none⟩) c l) (k : Nat) : ArgL w (some ⟨b, off + k * 8, none⟩) (c - k) (l.drop k) := by
  refine ⟨fun i r hi => ?_, fun e => (by cases e), by rw [List.length_drop]; have := h.len; omega, fun r hr => h.each r (List.mem_of_mem_drop hr)⟩
  rw [List.getElem?_drop] at hi
  obtain ⟨b', off', e, h1, h2⟩ := h.txs _ r hi
  cases e
  refine ⟨b, _, rfl, h1, fun j hj => ?_⟩
  rw [← h2 j hj]
  congr 2
  omega
theorem arg_none {w : World} {b off d : Nat} : ArgL w (some ⟨b, off, none⟩) d ([] : List TxR) := ⟨TxsAt.nil _ _, fun e => (by cases e), by unfold reachBytes; simp, fun r hr => (by cases hr)⟩
/-- The parts of a list at a place, as slices. -/
theorem arg_cut {w : World} {b off c : Nat} {l : List TxR} (h : ArgL w (some ⟨b, off, none⟩) c l) (hc : l.length ≤ c) (k : Nat) (hk : k ≤ l.length) :
    (∀ W, (Instr.sliceAt 33 (.slice (some ⟨b, off, none⟩) l.length c) none (some (.int .i64 (k : Int))) none).run Tryd.prog W = .ok (.slice (some ⟨b, off, none⟩) (l.take k).length c) W) ∧
    ∃ a', (∀ W, (Instr.sliceAt 33 (.slice (some ⟨b, off, none⟩) l.length c) (some (.int .i64 (k : Int))) none none).run Tryd.prog W = .ok (.slice a' (l.drop k).length (c - k)) W) ∧ ArgL w a' (c - k) (l.drop k) := by
  have h1 : (k : Int) ≤ (c : Int) := by omega
  have h2 : 0 ≤ (k : Int) := by omega
  have h3 : (k : Int) ≤ (l.length : Int) := by omega
  have e1 : (l.take k).length = k := by rw [List.length_take]; omega
  refine ⟨fun W => ?_, ?_⟩
  · rw [e1]
    go_simp
  · by_cases hck : c = k
    · refine ⟨some ⟨b, off, none⟩, fun W => ?_, ?_⟩
      · rw [List.length_drop]
        go_simp
      · rw [List.drop_of_length_le (by omega)]
        exact arg_none
    · refine ⟨some ⟨b, off + k * 8, none⟩, fun W => ?_, arg_drop h k⟩
      rw [List.length_drop]
      go_simp
theorem open_cap {H : Type} {enc : TypeId × Value → H} {W : World} {fuel : Nat} {sa : Option Addr} {len cap : Nat} {d : DataW H} {p : List MemPlace}
    (h : DataW.trod enc Tryd.prog W 0 (fun _ => true) true fuel 33 [.slice sa len cap] = some (d, p)) : len ≤ cap ∧ cap ≤ 9223372036854775807 := by
  rcases Go.Deep.open_slice Tryd.underlying33 h with ⟨hcs, -⟩ | ⟨a, len', cap', m, n, D, Pl, hcs, -, hl, hm, -⟩
  · simp only [List.cons.injEq, Value.slice.injEq, and_true] at hcs
    obtain ⟨rfl, rfl, rfl⟩ := hcs
    exact ⟨Nat.le_refl _, by decide⟩
  · simp only [List.cons.injEq, Value.slice.injEq, and_true] at hcs
    obtain ⟨rfl, rfl, rfl⟩ := hcs
    unfold maxLen at hm
    exact ⟨hl, by omega⟩
end Go.Proofs.YtlldgibpajbabaaDoor
