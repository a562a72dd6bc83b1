/- What is proved: the order by which places are held against one another, as the program's closure answers it; the list lies in memory. -/
import Derived.Test.YtcbllejjiokmbaaNRows
import Derived.Test.YtcbllejjiokmbaaNHeap
import Derived.Laws.EntriesVeiled
namespace Go.Proofs.Ytcbllejjiokmbaa
open Go.RowKit

theorem compare_f (order k t s i f u : Int) (y : ByteArray) (k' t' s' i' f' u' : Int) (y' : ByteArray) (w : World) : Calls Try.prog 31 #[.int .i64 order, .agg #[.int .i64 k, .int .i64 t, .int .i64 s, .int .i64 i, .int .i64 f, .int .i64 u, .string y], .agg #[.int .i64 k', .int .i64 t', .int .i64 s', .int .i64 i', .int .i64 f', .int .i64 u', .string y']] w fun e w' => e = .returned (.int .i64 (comp order ⟨k, t, s, i, f, u, y⟩ ⟨k', t', s', i', f', u', y'⟩)) ∧ Kept w w' := compare_any order ⟨k, t, s, i, f, u, y⟩ ⟨k', t', s', i', f', u', y'⟩ w
/-- What the sorting's closure reads: the order's box, the list's box and the list, all ahead of block B. -/
structure Env (B : Nat) (w : World) (ob lb : Nat) (order : Int) (a : Option Addr) (cap : Nat) (l : List RwM) : Prop where
  o : ob < B
  b : lb < B
  le : B ≤ w.heap.size
  co : w.cell? ⟨ob, 0, none⟩ = some (.int .i64 order)
  cl : w.cell? ⟨lb, 0, none⟩ = some (.slice a l.length cap)
  rows : RowsAt w a l
  low : ∀ k, InB a l.length k → k < B
  len : l.length ≤ 2199023255552
theorem Env.on {B : Nat} {w w' : World} {ob lb : Nat} {order : Int} {a : Option Addr} {cap : Nat} {l : List RwM} (h : Env B w ob lb order a cap l) (k : Same (fun k => B ≤ k) w w') : Env B w' ob lb order a cap l :=
  ⟨h.o, h.b, Nat.le_trans h.le k.size, (k.cell (p := ⟨ob, 0, none⟩) (Nat.lt_of_lt_of_le h.o h.le) (Nat.not_le.2 h.o)).trans h.co, (k.cell (p := ⟨lb, 0, none⟩) (Nat.lt_of_lt_of_le h.b h.le) (Nat.not_le.2 h.b)).trans h.cl,
    h.rows.kept k fun b hb => Nat.not_le.2 (h.low b hb), h.low, h.len⟩
theorem getD_row {l : List RwM} {i : Nat} {r : RwM} (h : l[i]? = some r) : l.getD i r0 = r := by rw [List.getD_eq_getElem?_getD, h]; rfl
theorem plt_comp (order : Int) (l : List RwM) {i j : Nat} {a b : RwM} (hi : l[i]? = some a) (hj : l[j]? = some b) : plt (bef order) l i j = if comp order a b ≠ 0 then decide (comp order a b < 0) else decide (i < j) := by
  unfold plt bef
  rw [getD_row hi, getD_row hj, comp_swap order a b]
  rcases comp_cases order a b with h | h | h <;> rw [h] <;> simp
set_option maxRecDepth 100000 in
set_option maxHeartbeats 1600000 in
theorem before10 {B : Nat} {w : World} {ob lb : Nat} {order : Int} {a : Option Addr} {cap : Nat} {l : List RwM} (h : Env B w ob lb order a cap l) {i j : Nat} (hi : i < l.length) (hj : j < l.length) :
    Calls Try.prog 62 #[.int .i64 i, .int .i64 j, .pointer (some ⟨ob, 0, none⟩), .pointer (some ⟨lb, 0, none⟩)] w fun e w' => e = .returned (.bool (plt (bef order) l i j)) ∧ Kept w w' := by
  obtain ⟨x, hx⟩ : ∃ x, l[i]? = some x := ⟨_, List.getElem?_eq_getElem hi⟩
  obtain ⟨y, hy⟩ : ∃ y, l[j]? = some y := ⟨_, List.getElem?_eq_getElem hj⟩
  have EV : Hid _ := plt_comp order l hx hy
  obtain ⟨b, off, rfl, hb, x0, x1, x2, x3, x4, x5, x6⟩ := h.rows i x hx
  obtain ⟨b', off', eb, hb', y0, y1, y2, y3, y4, y5, y6⟩ := h.rows j y hy
  cases eb
  have hco := h.co
  have hcl := h.cl
  have hlt1 : (i : Int) < (l.length : Int) := by omega
  have hlt2 : (j : Int) < (l.length : Int) := by omega
  have ho : ob < w.heap.size := Nat.lt_of_lt_of_le h.o h.le
  have hl : lb < w.heap.size := Nat.lt_of_lt_of_le h.b h.le
  obtain ⟨kind, time, seq, index, frm, til, body⟩ := x
  obtain ⟨kind', time', seq', index', frm', til', body'⟩ := y
  simp only at x0 x1 x2 x3 x4 x5 x6 y0 y1 y2 y3 y4 y5 y6
  have HC : Hid (∀ W, Kept w W → Calls _ _ _ _ fun e w' => _ ∧ Kept w w') := fun W (kw : Kept w W) => Calls.mono (compare_f order kind time seq index frm til body kind' time' seq' index' frm' til' body' W) (fun e w' hh => ⟨hh.1, kw.trans' hh.2⟩)
  generalize hc : comp order ⟨kind, time, seq, index, frm, til, body⟩ ⟨kind', time', seq', index', frm', til', body'⟩ = c at HC EV
  have hbd : -1 ≤ c ∧ c ≤ 1 := by
    have := comp_cases order ⟨kind, time, seq, index, frm, til, body⟩ ⟨kind', time', seq', index', frm', til', body'⟩
    omega
  generalize plt (bef order) l i j = v at EV ⊢
  clear h hx hy hi hj hc
  have WAYS : (c = 0 ∧ decide (i < j) = true ∧ v = true) ∨ (c = 0 ∧ decide (i < j) = false ∧ v = false) ∨ ((c != 0) = true ∧ decide (c < 0) = true ∧ v = true) ∨ ((c != 0) = true ∧ decide (c < 0) = false ∧ v = false) := by
    have e := EV.out
    by_cases hz : c = 0
    · rw [if_neg (fun g => g hz)] at e
      by_cases hij : i < j
      · exact .inl ⟨hz, decide_eq_true hij, by rw [e]; exact decide_eq_true hij⟩
      · exact .inr (.inl ⟨hz, decide_eq_false hij, by rw [e]; exact decide_eq_false hij⟩)
    · rw [if_pos hz] at e
      by_cases hn : c < 0
      · exact .inr (.inr (.inl ⟨by simpa using hz, decide_eq_true hn, by rw [e]; exact decide_eq_true hn⟩))
      · exact .inr (.inr (.inr ⟨by simpa using hz, decide_eq_false hn, by rw [e]; exact decide_eq_false hn⟩))
  have WY : Hid _ := WAYS
  clear WAYS EV hbd
  have HT : Hid (∀ W, Kept w W → Kept w W ∧ W.cell? ⟨ob, 0, none⟩ = some (.int .i64 order) ∧ W.cell? ⟨lb, 0, none⟩ = some (.slice (some ⟨b, off, none⟩) l.length cap) ∧ W.cell? ⟨b, off + i * 7, none⟩ = some (.int .i64 kind) ∧ W.cell? ⟨b, off + i * 7 + 1, none⟩ = some (.int .i64 time) ∧ W.cell? ⟨b, off + i * 7 + 2, none⟩ = some (.int .i64 seq) ∧ W.cell? ⟨b, off + i * 7 + 3, none⟩ = some (.int .i64 index) ∧ W.cell? ⟨b, off + i * 7 + 4, none⟩ = some (.int .i64 frm) ∧ W.cell? ⟨b, off + i * 7 + 5, none⟩ = some (.int .i64 til) ∧ W.cell? ⟨b, off + i * 7 + 6, none⟩ = some (.string body) ∧ W.cell? ⟨b, off + j * 7, none⟩ = some (.int .i64 kind') ∧ W.cell? ⟨b, off + j * 7 + 1, none⟩ = some (.int .i64 time') ∧ W.cell? ⟨b, off + j * 7 + 2, none⟩ = some (.int .i64 seq') ∧ W.cell? ⟨b, off + j * 7 + 3, none⟩ = some (.int .i64 index') ∧ W.cell? ⟨b, off + j * 7 + 4, none⟩ = some (.int .i64 frm') ∧ W.cell? ⟨b, off + j * 7 + 5, none⟩ = some (.int .i64 til') ∧ W.cell? ⟨b, off + j * 7 + 6, none⟩ = some (.string body')) := fun W (k : Kept w W) => by
    have t : ∀ (p : Addr), p.block < w.heap.size → W.cell? p = w.cell? p := fun p hp => k.cell hp (fun e => e)
    exact ⟨k, (t _ ho).trans hco, (t _ hl).trans hcl, (t _ hb).trans x0, (t _ hb).trans x1, (t _ hb).trans x2, (t _ hb).trans x3, (t _ hb).trans x4, (t _ hb).trans x5, (t _ hb).trans x6, (t _ hb).trans y0, (t _ hb).trans y1, (t _ hb).trans y2, (t _ hb).trans y3, (t _ hb).trans y4, (t _ hb).trans y5, (t _ hb).trans y6⟩
  go_enter Try.func62, Try.ntmps62
  go_wp2_with fail
  go_region_held3 (fun W => Kept w W ∧ W.cell? ⟨ob, 0, none⟩ = some (.int .i64 order) ∧ W.cell? ⟨lb, 0, none⟩ = some (.slice (some ⟨b, off, none⟩) l.length cap) ∧ W.cell? ⟨b, off + i * 7, none⟩ = some (.int .i64 kind) ∧ W.cell? ⟨b, off + i * 7 + 1, none⟩ = some (.int .i64 time) ∧ W.cell? ⟨b, off + i * 7 + 2, none⟩ = some (.int .i64 seq) ∧ W.cell? ⟨b, off + i * 7 + 3, none⟩ = some (.int .i64 index) ∧ W.cell? ⟨b, off + i * 7 + 4, none⟩ = some (.int .i64 frm) ∧ W.cell? ⟨b, off + i * 7 + 5, none⟩ = some (.int .i64 til) ∧ W.cell? ⟨b, off + i * 7 + 6, none⟩ = some (.string body) ∧ W.cell? ⟨b, off + j * 7, none⟩ = some (.int .i64 kind') ∧ W.cell? ⟨b, off + j * 7 + 1, none⟩ = some (.int .i64 time') ∧ W.cell? ⟨b, off + j * 7 + 2, none⟩ = some (.int .i64 seq') ∧ W.cell? ⟨b, off + j * 7 + 3, none⟩ = some (.int .i64 index') ∧ W.cell? ⟨b, off + j * 7 + 4, none⟩ = some (.int .i64 frm') ∧ W.cell? ⟨b, off + j * 7 + 5, none⟩ = some (.int .i64 til') ∧ W.cell? ⟨b, off + j * 7 + 6, none⟩ = some (.string body'))
    (exact HT.out _ (by (repeat (first | assumption | exact Same.refl _ _ | apply Same.alloc | apply Same.drew | apply Same.drewN)); done))
    ((first
    | (go_at_call 31; refine Calls.mono (HC.out _ (by (repeat (first | assumption | exact Same.refl _ _ | apply Same.alloc | apply Same.drew | apply Same.drewN)); done)) ?_; rintro r w1 ⟨rfl, k1⟩)))
  all_goals rcases WY.out with ⟨rfl, d, rfl⟩ | ⟨rfl, d, rfl⟩ | ⟨d0, d, rfl⟩ | ⟨d0, d, rfl⟩
  all_goals clear WY HC
  all_goals (go_wp2_with fail)
  all_goals (go_ret; exact ⟨rfl, by assumption⟩)
end Go.Proofs.Ytcbllejjiokmbaa
