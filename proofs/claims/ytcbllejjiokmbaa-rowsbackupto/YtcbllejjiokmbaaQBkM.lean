/- What is proved: arguments of small bulk that are lists of rows or bytes lie in memory as the walks ask it, and bytes more behind a list of one's own; no condition but the bulk's. -/
import Derived.Test.YtcbllejjiokmbaaQRowsA
namespace Go.Proofs.Ytcbllejjiokmbaa
open Go.ChangeShapes Go.WideShapes Go.ChangeAt Go.RowKit

theorem bulk_one {H : Type} (d : DataW H) : 1 ≤ Rows.uptoBulk d := by
  cases d with
  | lit l => cases l <;> simp [Rows.uptoBulk]
  | nil => simp [Rows.uptoBulk]
  | ptr d => simp [Rows.uptoBulk]
  | slice elems spare => simp [Rows.uptoBulk]
  | agg parts => simp [Rows.uptoBulk]
  | iface t d => simp [Rows.uptoBulk]
  | map entries => simp [Rows.uptoBulk]
  | held h => simp [Rows.uptoBulk]
theorem bulk_len {H : Type} (l : List (DataW H)) : l.length ≤ Rows.uptoBulkAll l := by
  induction l with
  | nil => simp [Rows.uptoBulkAll]
  | cons x r ih => have := bulk_one x; simp only [Rows.uptoBulkAll, List.length_cons]; omega

theorem open_argU {H : Type} {enc : TypeId × Value → H} {W : World} {fuel : Nat} {sa : Option Addr} {len cap : Nat} {d : DataW H} {p : List MemPlace}
    (h : DataW.trod enc Try.prog W 0 (fun _ => true) true fuel 23 [.slice sa len cap] = some (d, p)) : ∃ l : List Int, len = l.length ∧ (Rows.uptoBulk d ≤ 1048576 → ArgB W sa cap l) ∧ l.length ≤ Rows.uptoBulk d := by
  rcases Go.Deep.open_slice1 Try.underlying23 Try.cellsB h with ⟨hcs, hd⟩ | ⟨a, len', cap', m, n, V, D, Pl, hcs, _, hl, hm, hmm, hd, hx⟩
  · simp only [List.cons.injEq, Value.slice.injEq, and_true] at hcs
    obtain ⟨rfl, rfl, rfl⟩ := hcs
    exact ⟨[], rfl, fun _ => ⟨BytesAt.nil _ _, fun _ => ⟨rfl, rfl⟩, Nat.le_refl _, Byts.nil, by simp⟩, Nat.zero_le _⟩
  · simp only [List.cons.injEq, Value.slice.injEq, and_true] at hcs
    obtain ⟨rfl, rfl, rfl⟩ := hcs
    simp only [if_true] at hmm
    simp only [Prod.mk.injEq] at hd
    have each : ∀ i, i < len → ∃ x : Int, W.cell? (a.add i) = some (.int .u8 x) ∧ 0 ≤ x ∧ x < 256 := by
      intro i hi
      obtain ⟨h1, h2⟩ := hx i (by omega)
      obtain ⟨x, e, _, hwf⟩ := DataW.trod_int Try.underlying5 h2
      simp only [List.cons.injEq, and_true] at e
      rw [e] at h1
      refine ⟨x, h1, ?_⟩
      have hwf : (decide (IntKind.u8.min ≤ x) && decide (x ≤ IntKind.u8.max)) = true := hwf
      rw [Bool.and_eq_true] at hwf
      have w1 : 0 ≤ x := of_decide_eq_true hwf.1
      have w2 : x ≤ 255 := of_decide_eq_true hwf.2
      omega
    obtain ⟨q, hq⟩ := Go.Deep.choose_lt each
    obtain ⟨e1, e2⟩ := list_of len q
    have hbk : len ≤ Rows.uptoBulk d := by
      rw [hd.1]
      simp only [Rows.uptoBulk]
      have := bulk_len ((List.range len).map D)
      simp only [List.length_map, List.length_range] at this
      omega
    refine ⟨(List.range len).map q, e1.symm, fun hw => ⟨fun i x hi => ?_, fun e => (by cases e), by rw [e1]; exact hl, fun x hx' => ?_, ?_⟩, by rw [e1]; exact hbk⟩
    · obtain ⟨hi', rfl⟩ := e2 i x hi
      have h0 := (hq i hi').1
      have h00 := (hq 0 (by omega)).1
      obtain ⟨b, off, spot⟩ := a
      have hspot : spot = none := by simpa [Addr.add] using World.cell?_spot h00
      subst hspot
      rw [Go.WideShapes.add_plain] at h0
      exact ⟨b, off, rfl, World.block_lt_of_cell? W _ h0, h0⟩
    · obtain ⟨i, hi, rfl⟩ := List.mem_map.1 hx'
      exact (hq i (List.mem_range.1 hi)).2
    · rw [e1]
      unfold reachBytes
      omega
theorem open_rowsU {H : Type} {enc : TypeId × Value → H} {W : World} {fuel : Nat} {sa : Option Addr} {len cap : Nat} {d : DataW H} {p : List MemPlace}
    (h : DataW.trod enc Try.prog W 0 (fun _ => true) true fuel 22 [.slice sa len cap] = some (d, p)) : ∃ l : List RwM, len = l.length ∧ (Rows.uptoBulk d ≤ 1048576 → RowsAt W sa l) ∧ l.length ≤ Rows.uptoBulk d := by
  obtain ⟨l, e, h1, -, -⟩ := open_rows h
  refine ⟨l, e, fun _ => h1, ?_⟩
  rw [← e]
  rcases Go.Deep.open_slice Try.underlying22 h with ⟨hcs, hd⟩ | ⟨a, len', cap', m, n, D, Pl, hcs, _, hl, hm, hmm, hd, hx⟩
  · simp only [List.cons.injEq, Value.slice.injEq, and_true] at hcs
    obtain ⟨-, rfl, -⟩ := hcs
    exact Nat.zero_le _
  · simp only [List.cons.injEq, Value.slice.injEq, and_true] at hcs
    obtain ⟨-, rfl, -⟩ := hcs
    simp only [Prod.mk.injEq] at hd
    rw [hd.1]
    simp only [Rows.uptoBulk]
    have := bulk_len ((List.range len).map D)
    simp only [List.length_map, List.length_range] at this
    omega
/-- Bytes more behind a list of one's own: no other block turns. -/
theorem app_bytes_at {w : World} {base : Nat} {v : Value} {xs l : List Int} {oa : Option Addr} {c : Nat} (hown : OwnB base w v xs) (hl : BytesAt w oa l) (hnil : oa = none → l.length = 0 ∧ c = 0) (hb : xs.length + l.length ≤ 140737488355328) (hbase : base ≤ w.heap.size) (ty : TypeId) :
    ∃ v' w', (Builtin.append_ #[23, 23] ty #[v, .slice oa l.length c]).run Try.prog w = .ok v' w' ∧ OwnB base w' v' (xs ++ l) ∧ Same (fun k => v.ownBlock = some k) w w' := by
  obtain ⟨i0, hi0, hz0, hz1, hz2⟩ := info_parts Try.infoByte
  cases oa with
  | none =>
    obtain ⟨h0, rfl⟩ := hnil rfl
    obtain rfl : l = [] := List.eq_nil_of_length_eq_zero h0
    refine ⟨v, w, run_append_owned_none (P := Try.prog) (w := w) base 23 ty 5 i0 1 Try.underlying23 hi0 v xs.length _ hown, ?_, Same.refl _ _⟩
    simpa using hown
  | some ad =>
    obtain ⟨v', w', hr, r1, r2, _, -⟩ := run_append_own_at (P := Try.prog) (w := w) base 23 ty 5 i0 _ 1 1 Try.underlying23 hi0 hz0 hz1 hz2 rfl (by decide) v xs.length _ hown ad l.length c (byt l) (by rw [length_byt, Nat.mul_one])
      (fun j u hu => by
        rw [byt_get] at hu
        obtain ⟨x, hx, rfl⟩ := Option.map_eq_some_iff.1 hu
        obtain ⟨b', off', e, _, hc⟩ := hl _ _ hx
        cases e
        rw [Addr.add_lit]
        exact hc) (byt_one _) (by unfold maxLen; omega) (by omega) hbase
    rw [← byt_append] at r1
    exact ⟨v', w', hr, by rw [OwnB, List.length_append]; exact r1, Same.of_grown r2 (fun k e => e)⟩
/-- The right rows of a list, and their bytes. -/
def good (l : List RwM) : List RwM := l.filter fun r => decide (rightR r)
def encs (l : List RwM) : List Int := l.flatMap bytesR
theorem good_more {l : List RwM} {j : Nat} {r : RwM} (h : l[j]? = some r) (hr : rightR r) : good (l.take (j + 1)) = good (l.take j) ++ [r] := by
  unfold good
  rw [List.take_add_one, h, List.filter_append]
  simp [hr]
theorem good_less {l : List RwM} {j : Nat} {r : RwM} (h : l[j]? = some r) (hr : ¬ rightR r) : good (l.take (j + 1)) = good (l.take j) := by
  unfold good
  rw [List.take_add_one, h, List.filter_append]
  simp [hr]
theorem good_right {l : List RwM} {r : RwM} (h : r ∈ good l) : rightR r := by
  have := (List.mem_filter.1 h).2
  simpa using this
theorem good_len (l : List RwM) (j : Nat) : (good (l.take j)).length ≤ l.length := by
  unfold good
  have h1 := List.length_filter_le (fun r => decide (rightR r)) (l.take j)
  rw [List.length_take] at h1
  omega
theorem encs_app (a b : List RwM) : encs (a ++ b) = encs a ++ encs b := by simp [encs]
theorem encs_one (r : RwM) : encs [r] = bytesR r := by simp [encs]
theorem encs_len {l : List RwM} (h : ∀ r ∈ l, rightR r) : (encs l).length ≤ 561 * l.length := by
  induction l with
  | nil => simp [encs]
  | cons r l ih =>
    have h1 := (bytesR_len (h r (by simp))).2
    have h2 := ih fun x hx => h x (by simp [hx])
    rw [show encs (r :: l) = bytesR r ++ encs l from rfl, List.length_append, List.length_cons]
    omega
theorem encs_byts {l : List RwM} (h : ∀ r ∈ l, rightR r) : Byts (encs l) := by
  induction l with
  | nil => exact Byts.nil
  | cons r l ih => exact (byts_bytesR (h r (by simp))).append (ih fun x hx => h x (by simp [hx]))
theorem encs_drop {g : List RwM} {m : Nat} {r : RwM} (h : g[m]? = some r) (t : List Int) : (encs g ++ t).drop (encs (g.take m)).length = bytesR r ++ (encs (g.drop (m + 1)) ++ t) := by
  obtain ⟨hm, rfl⟩ := List.getElem?_eq_some_iff.1 h
  have e : encs g = encs (g.take m) ++ (bytesR g[m] ++ encs (g.drop (m + 1))) := by
    conv => lhs; rw [← List.take_append_drop m g, encs_app, List.drop_eq_getElem_cons hm]
    rfl
  rw [e, List.append_assoc, List.drop_left]
  simp
theorem BytesAt.drop {w : World} {g off : Nat} {l : List Int} (h : BytesAt w (some ⟨g, off, none⟩) l) (m : Nat) : BytesAt w (some ⟨g, off + m, none⟩) (l.drop m) := fun i x hx => by
  rw [List.getElem?_drop] at hx
  obtain ⟨b, o, e, hb, hc⟩ := h (m + i) x hx
  cases e
  exact ⟨g, off + m, rfl, hb, by rw [Nat.add_assoc]; exact hc⟩
/-- A list of bytes and one of rows have no block in common. -/
theorem bytes_rows {base base' : Nat} {w : World} {v v' : Value} {l : List Int} {m : List RwM} (h : OwnB base w v l) (h' : OwnR base' w v' m) {k : Nat} (hk : v.ownBlock = some k) : v'.ownBlock ≠ some k := by
  intro hk'
  rcases h.2 with ⟨rfl, _⟩ | ⟨g, cap, cur, rfl, hb, hg, _⟩
  · simp [Value.ownBlock] at hk
  · rcases h'.2 with ⟨rfl, _⟩ | ⟨g', cap', cur', rfl, hb', hg', _⟩
    · simp [Value.ownBlock] at hk'
    · simp [Value.ownBlock] at hk hk'
      subst hk
      subst hk'
      have := hg.symm.trans hg'
      simp at this
end Go.Proofs.Ytcbllejjiokmbaa
