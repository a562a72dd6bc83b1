/- What is proved: the document's sort of a list of rows gives a new list, sorted, rows alike as they stood; the list lies in memory. -/
import Derived.Test.YtbjmdpfoeeadeaaNEql
import Derived.Deep.DeepCutAuto
namespace Go.Proofs.Ytbjmdpfoeeadeaa.Rw
open Go.RowKit

theorem Try.infoRRow : (Try.prog.info? 43).map (fun i => (i.zero, i.size, i.bytes)) = some (some (.agg #[.int .i64 0, .int .i64 0, .int .i64 0, .int .i64 0, .int .i64 0, .int .i64 0, .string .empty]), 7, 64) := by kernel_rfl
/-- The value v is a list of the document's rows l of one's own, in a block from base on. -/
abbrev OwnQ (base : Nat) (w : World) (v : Value) (l : List RwM) : Prop := w.ownsRow base 43 7 v l.length (rwc l)
theorem OwnQ.nil (base : Nat) (w : World) : OwnQ base w (.slice none 0 0) [] := World.ownsRow_nil w base 43 7
theorem OwnQ.kept {S : Nat → Prop} {base : Nat} {w w' : World} {v : Value} {l : List RwM} (h : OwnQ base w v l) (hs : Same S w w') (hn : ∀ k, v.ownBlock = some k → ¬ S k) : OwnQ base w' v l := by
  refine ⟨h.1, ?_⟩
  rcases h.2 with h2 | ⟨g, cap, cur, rfl, hb, hg, h1, h2, h3, h4⟩
  · exact .inl h2
  · exact .inr ⟨g, cap, cur, rfl, hb, (hs.block g (lt_of_heap hg) (hn g (by simp [Value.ownBlock]))).trans hg, h1, h2, h3, h4⟩
theorem OwnQ.lower {base base' : Nat} {w : World} {v : Value} {l : List RwM} (h : OwnQ base w v l) (hb : base' ≤ base) : OwnQ base' w v l := by
  refine ⟨h.1, ?_⟩
  rcases h.2 with h2 | ⟨g, cap, cur, rfl, hb', rest⟩
  · exact .inl h2
  · exact .inr ⟨g, cap, cur, rfl, Nat.le_trans hb hb', rest⟩
theorem OwnQ.block {base : Nat} {w : World} {v : Value} {l : List RwM} (h : OwnQ base w v l) {k : Nat} (hk : v.ownBlock = some k) : base ≤ k ∧ k < w.heap.size := by
  rcases h.2 with ⟨rfl, _⟩ | ⟨g, cap, cur, rfl, hb, hg, h1, h2, h3, h4⟩
  · simp [Value.ownBlock] at hk
  · simp [Value.ownBlock] at hk
    subst hk
    exact ⟨hb, lt_of_heap hg⟩
theorem OwnQ.rows {base : Nat} {w : World} {v : Value} {l : List RwM} (h : OwnQ base w v l) : ∃ a cap, v = .slice a l.length cap ∧ RowsAt w a l ∧ l.length ≤ cap ∧ (a = none → l.length = 0 ∧ cap = 0) ∧ ∀ k, InB a l.length k → base ≤ k := by
  rcases h.2 with ⟨rfl, hn⟩ | ⟨g, cap, cur, rfl, hb, hg, h1, h2, h3, h4⟩
  · have : l = [] := List.eq_nil_of_length_eq_zero (by omega)
    subst this
    exact ⟨none, 0, rfl, RowsAt.nil _ _, Nat.le_refl _, fun _ => ⟨rfl, rfl⟩, fun k hk => absurd hk.1 (by simp)⟩
  · refine ⟨_, cap, rfl, fun i r hr => ⟨g, 0, rfl, lt_of_heap hg, ?_⟩, h1, fun e => (by cases e), fun k hk => by obtain ⟨_, off, e⟩ := hk; cases e; exact hb⟩
    have hi := (List.getElem?_eq_some_iff.1 hr).1
    have hget : ∀ j, j < 7 → w.cell? ⟨g, 0 + i * 7 + j, none⟩ = (rc1 r)[j]? := fun j hj => by
      rw [cell_of hg, Nat.zero_add, ← rwc_get hr j hj, ← h4, List.getElem?_take_of_lt (by omega)]
      simp
    exact ⟨hget 0 (by decide), hget 1 (by decide), hget 2 (by decide), hget 3 (by decide), hget 4 (by decide), hget 5 (by decide), hget 6 (by decide)⟩
theorem RowsAt.take {w : World} {a : Option Addr} {l : List RwM} (h : RowsAt w a l) (m : Nat) : RowsAt w a (l.take m) := fun i r hr => by
  have hi := (List.getElem?_eq_some_iff.1 hr).1
  rw [List.length_take] at hi
  rw [List.getElem?_take_of_lt (by omega)] at hr
  exact h i r hr
theorem RowsAt.drop {w : World} {b off : Nat} {l : List RwM} (h : RowsAt w (some ⟨b, off, none⟩) l) (m : Nat) : RowsAt w (some ⟨b, off + m * 7, none⟩) (l.drop m) := fun i r hr => by
  rw [List.getElem?_drop] at hr
  obtain ⟨b', off', e, hb, c0, c1, c2, c3, c4, c5, c6⟩ := h (m + i) r hr
  cases e
  have t : ∀ k, off + m * 7 + i * 7 + k = off + (m + i) * 7 + k := fun k => by omega
  have t0 : off + m * 7 + i * 7 = off + (m + i) * 7 := by omega
  exact ⟨b, off + m * 7, rfl, hb, by rw [t0]; exact c0, by rw [t]; exact c1, by rw [t]; exact c2, by rw [t]; exact c3, by rw [t]; exact c4, by rw [t]; exact c5, by rw [t]; exact c6⟩
/-- One of the document's rows more, the row lying in a block. -/
theorem app_q {w : World} {base b : Nat} {v : Value} {xs : List RwM} (r : RwM) (hown : OwnQ base w v xs) (hcell : w.heap[b]? = some (.cells #[.int .i64 r.kind, .int .i64 r.time, .int .i64 r.seq, .int .i64 r.index, .int .i64 r.frm, .int .i64 r.til, .string r.body] 43 (0, 0))) (hb : xs.length + 1 ≤ 2199023255552) (hbase : base ≤ w.heap.size) (ty : TypeId) :
    ∃ v' w', (Builtin.append_ #[38, 38] ty #[v, .slice (some ⟨b, 0, none⟩) 1 1]).run Try.prog w = .ok v' w' ∧ OwnQ base w' v' (xs ++ [r]) ∧ Same (fun k => v.ownBlock = some k) w w' ∧ ∀ k, v'.ownBlock = some k → v.ownBlock = some k ∨ w.heap.size ≤ k := by
  have hra : RowsAt w (some ⟨b, 0, none⟩) [r] := fun i x hx => by
    cases i with
    | zero =>
      simp only [List.getElem?_cons_zero, Option.some.injEq] at hx
      subst hx
      obtain ⟨⟨c0, c1, c2, c3, c4, c5, c6⟩, -⟩ := row_obj hcell
      exact ⟨b, 0, rfl, lt_of_heap hcell, c0, c1, c2, c3, c4, c5, c6⟩
    | succ i => simp at hx
  exact app_rows (cap := 1) Try.underlying38 Try.infoRRow hown hra (fun e => by cases e) (by simpa using hb) hbase ty
theorem before_f (order k t s i f u : Int) (y : ByteArray) (k' t' s' i' f' u' : Int) (y' : ByteArray) (w : World) : Calls Try.prog 21 #[.int .i64 order, .agg #[.int .i64 k, .int .i64 t, .int .i64 s, .int .i64 i, .int .i64 f, .int .i64 u, .string y], .agg #[.int .i64 k', .int .i64 t', .int .i64 s', .int .i64 i', .int .i64 f', .int .i64 u', .string y']] w fun e w' => e = .returned (.bool (bef order ⟨k, t, s, i, f, u, y⟩ ⟨k', t', s', i', f', u', y'⟩)) ∧ Kept w w' := before_any order ⟨k, t, s, i, f, u, y⟩ ⟨k', t', s', i', f', u', y'⟩ w
/-- What stands while two sorted lists are laid into one. -/
structure Mg (order : Int) (w : World) (base : Nat) (A B : List RwM) (ov : Value) (i j : Nat) (wr : World) : Prop where
  own : ∃ O, OwnQ base wr ov O ∧ O.length = i + j ∧ O ++ mrg (bef order) (A.drop i) (B.drop j) = mrg (bef order) A B
  il : i ≤ A.length
  jl : j ≤ B.length
  same : Same (fun k => base ≤ k) w wr
theorem Mg.more {order : Int} {w : World} {base : Nat} {A B : List RwM} {ov v5 : Value} {i j i' j' : Nat} {wr W w5 : World} {x : RwM} {O : List RwM} (m : Mg order w base A B ov i j wr) (hO : OwnQ base wr ov O) (hl : O.length = i + j) (he : O ++ mrg (bef order) (A.drop i) (B.drop j) = mrg (bef order) A B)
    (k : Kept wr W) (o5 : OwnQ base w5 v5 (O ++ [x])) (k5 : Same (fun k => ov.ownBlock = some k) W w5) (hn : mrg (bef order) (A.drop i) (B.drop j) = x :: mrg (bef order) (A.drop i') (B.drop j')) (hs : i' + j' = i + j + 1) (hi : i' ≤ A.length) (hj : j' ≤ B.length) : Mg order w base A B v5 i' j' w5 :=
  ⟨⟨O ++ [x], o5, by simp; omega, by rw [← he, hn]; simp⟩, hi, hj, (m.same.trans' (k.to _)).trans k5 fun b _ e => (OwnQ.block hO e).1⟩
theorem mrg_takeA {order : Int} {A B : List RwM} {i j : Nat} {x : RwM} (hx : A[i]? = some x) (h : B.length ≤ j ∨ ∃ y, B[j]? = some y ∧ bef order y x = false) : mrg (bef order) (A.drop i) (B.drop j) = x :: mrg (bef order) (A.drop (i + 1)) (B.drop j) := by
  obtain ⟨hi, rfl⟩ := List.getElem?_eq_some_iff.1 hx
  rw [List.drop_eq_getElem_cons hi]
  rcases h with h | ⟨y, hy, hb⟩
  · rw [List.drop_eq_nil_of_le h, mrg_nil, mrg_nil]
  · obtain ⟨hj, rfl⟩ := List.getElem?_eq_some_iff.1 hy
    rw [List.drop_eq_getElem_cons hj, mrg_fst _ _ hb]
theorem mrg_takeB {order : Int} {A B : List RwM} {i j : Nat} {y : RwM} (hy : B[j]? = some y) (h : A.length ≤ i ∨ ∃ x, A[i]? = some x ∧ bef order y x = true) : mrg (bef order) (A.drop i) (B.drop j) = y :: mrg (bef order) (A.drop i) (B.drop (j + 1)) := by
  obtain ⟨hj, rfl⟩ := List.getElem?_eq_some_iff.1 hy
  rw [List.drop_eq_getElem_cons hj]
  rcases h with h | ⟨x, hx, hb⟩
  · rw [List.drop_eq_nil_of_le h, nil_mrg, nil_mrg]
  · obtain ⟨hi, rfl⟩ := List.getElem?_eq_some_iff.1 hx
    rw [List.drop_eq_getElem_cons hi, mrg_snd _ _ hb]
set_option maxRecDepth 100000 in
set_option maxHeartbeats 4000000 in
theorem sorted_step (order : Int) {w : World} {a : Option Addr} {cap : Nat} {l : List RwM} (hr : RowsAt w a l) (hcap : l.length ≤ cap) (hnil : a = none → l.length = 0 ∧ cap = 0) (hn : l.length ≤ 2199023255552)
    (IH : ∀ (W : World) (a' : Option Addr) (cap' : Nat) (l' : List RwM), l'.length < l.length → RowsAt W a' l' → l'.length ≤ cap' → (a' = none → l'.length = 0 ∧ cap' = 0) → Calls Try.prog 60 #[.int .i64 order, .slice a' l'.length cap'] W fun e w' => ∃ v, e = .returned v ∧ OwnQ W.heap.size w' v (srt (bef order) l') ∧ Kept W w') :
    Calls Try.prog 60 #[.int .i64 order, .slice a l.length cap] w fun e w' => ∃ v, e = .returned v ∧ OwnQ w.heap.size w' v (srt (bef order) l) ∧ Kept w w' := by
  by_cases h2 : l.length < 2
  · have hs : srt (bef order) l = l := by
      match l, h2 with
      | [], _ => rfl
      | [x], _ => rfl
    rw [hs]
    have HC : Hid (∀ ty, _) := fun ty => copy_rows (cap := cap) Try.underlying38 Try.infoRRow hr hnil hn ty
    obtain ⟨n, en⟩ : ∃ n, n = l.length := ⟨_, rfl⟩
    rw [← en] at HC h2 ⊢
    have d1 : decide ((n : Int) < 2) = true := decide_eq_true (by omega)
    have d1' : (n : Int) < 2 := by omega
    have EN : Hid _ := en
    clear hr hcap hnil hn IH hs en
    go_enter Try.func60, Try.ntmps60
    go_wp2_with (at_builtin; refine wpList_app rfl (.tmp 13) (.tmp 14) 38 38 rfl (.slice (some ⟨w.heap.size, 0, none⟩) 0 0) (.slice a n cap) rfl rfl _ HC.out ?_; rintro v2 w2 ⟨o2, k2⟩; have R : Hid _ := And.intro o2 k2; clear o2 k2)
    go_ret
    obtain ⟨o2, k2⟩ := R.out
    rw [EN.out] at o2
    exact ⟨_, rfl, o2, k2⟩
  · obtain ⟨n, en⟩ : ∃ n, n = l.length := ⟨_, rfl⟩
    obtain ⟨m, em⟩ : ∃ m, m = n / 2 := ⟨_, rfl⟩
    obtain ⟨q, hnm⟩ : ∃ q, n - m = q := ⟨_, rfl⟩
    obtain ⟨cq, hcm⟩ : ∃ cq, cap - m = cq := ⟨_, rfl⟩
    have ea : ∃ b off, a = some ⟨b, off, none⟩ := by
      obtain ⟨b, off, e, _⟩ := hr 0 l[0] (List.getElem?_eq_getElem (by omega))
      exact ⟨b, off, e⟩
    obtain ⟨b, off, rfl⟩ := ea
    have lm : (l.take m).length = m := by rw [List.length_take]; omega
    have ld : (l.drop m).length = q := by rw [List.length_drop]; omega
    have HI1 : Hid _ := IH w (some ⟨b, off, none⟩) cap (l.take m) (by omega) (hr.take m) (by omega) (fun e => by cases e)
    have HI2 : Hid (∀ W, Kept w W → _) := fun W (k : Kept w W) => IH W (some ⟨b, off + m * 7, none⟩) cq (l.drop m) (by omega) ((hr.on k).drop m) (by omega) (fun e => by cases e)
    rw [lm] at HI1
    rw [ld] at HI2
    have hmrg : Hid _ := mrg_srt (bef_swo order) (l.take m) (l.drop m)
    rw [List.take_append_drop] at hmrg
    have la : (srt (bef order) (l.take m)).length = m := by rw [srt_len, lm]
    have lb : (srt (bef order) (l.drop m)).length = q := by rw [srt_len, ld]
    generalize srt (bef order) (l.take m) = A at *
    generalize srt (bef order) (l.drop m) = B at *
    rw [← hmrg.out]
    rw [← en] at hn hcap h2 ⊢
    have d1 : decide ((n : Int) < 2) = false := decide_eq_false (by omega)
    have d1' : ¬ (n : Int) < 2 := by omega
    have hq : Int.tdiv (n : Int) 2 = (m : Int) := by
      rw [em, Int.tdiv_eq_ediv_of_nonneg (by omega)]
      omega
    have hmn : m < n := by omega
    have hmc : (m : Int) ≤ (cap : Int) := by omega
    have hmn2 : (m : Int) ≤ (n : Int) := by omega
    have hmne : m ≠ cap := by omega
    have LA : Hid _ := la
    have LB : Hid _ := lb
    clear hr hnil IH lm ld em en la lb hmrg
    go_enter Try.func60, Try.ntmps60
    go_wp2_with fail
    refine Calls.mono HI1.out ?_
    rintro e w1 ⟨v1, rfl, o1, k1⟩
    have O1 : Hid _ := o1
    have K1 : Hid _ := k1
    have HI3 : Hid _ := HI2.out w1 k1
    obtain ⟨a1, c1, rfl, ra1, -, -, lo1⟩ := OwnQ.rows o1
    rw [LA.out]
    clear o1 k1 HI1 HI2
    go_wp2_with fail
    refine Calls.mono HI3.out ?_
    rintro e w2 ⟨v2, rfl, o2, k2⟩
    obtain ⟨a2, c2, rfl, ra2, -, -, lo2⟩ := OwnQ.rows o2
    rw [LB.out]
    obtain ⟨i0, hi0, hz0, hz1, hz2⟩ := info_parts Try.infoRRow
    obtain ⟨w3, hmk, hown, hgr⟩ := run_make_own (P := Try.prog) w2 w2.heap.size 38 43 i0 _ 7 Try.underlying38 hi0 hz0 hz1 .i64 .i64 n (by rw [hz2]; omega) (by unfold maxLen; omega) (Nat.le_refl _)
    have k3 : Kept w2 w3 := Same.of_grown hgr (fun k e => by cases e)
    have RA : Hid (∀ wr, Same (fun k => w2.heap.size ≤ k) w3 wr → RowsAt wr a1 A) := fun wr k => ((ra1.on k2).on k3).kept k fun b hb => by have := (ra1.on k2).lt hb; omega
    have RB : Hid (∀ wr, Same (fun k => w2.heap.size ≤ k) w3 wr → RowsAt wr a2 B) := fun wr k => (ra2.on k3).kept k fun b hb => by have := ra2.lt hb; omega
    have KW : Hid (Kept w w3 ∧ w.heap.size ≤ w2.heap.size) := ⟨(Same.trans' K1.out k2).trans' k3, (Same.trans' K1.out k2).size⟩
    have HBS : Hid (w2.heap.size ≤ w3.heap.size) := k3.size
    have MG : Hid (Mg order w3 w2.heap.size A B (.slice (some ⟨w2.heap.size, 0, none⟩) 0 n) 0 0 w3) := ⟨⟨[], hown, rfl, rfl⟩, Nat.zero_le _, Nat.zero_le _, Same.refl _ _⟩
    clear o2 k2 k3 hown hgr ra1 ra2 lo1 lo2 HI3 hz0 hz1 hz2 hi0 O1
    go_wp2_with fail
    generalize w2.heap.size = base at *
    clear hmk
    go_loopw [7, 8, 9] (fun u7 u8 u9 wr => ∃ i j : Nat, u8 = .int .i64 i ∧ u9 = .int .i64 j ∧ Mg order w3 base A B u7 i j wr) (fun _ u8 u9 _ => n - (intOf u8).toNat - (intOf u9).toNat)
    case atStart => exact ⟨0, 0, rfl, rfl, MG.out⟩
    case round =>
      clear MG
      obtain ⟨i, j, rfl, rfl, mg⟩ := hrel
      obtain ⟨O, hO, hOl, hOe⟩ := mg.own
      have hil := mg.il
      have hjl := mg.jl
      rw [LA.out] at hil
      rw [LB.out] at hjl
      have i1 : (i : Int) ≤ 2199023255552 := by omega
      have j1 : (j : Int) ≤ 2199023255552 := by omega
      by_cases hi : i < m
      · have p1 : decide ((i : Int) < (m : Int)) = true := decide_eq_true (by omega)
        have p1' : (i : Int) < (m : Int) := by omega
        have p1n : decide (i < m) = true := decide_eq_true (by omega)
        obtain ⟨x, hx⟩ : ∃ x, A[i]? = some x := ⟨_, List.getElem?_eq_getElem (by rw [LA.out]; exact hi)⟩
        obtain ⟨gx, ox, ex, hgx, x0, x1, x2, x3, x4, x5, x6⟩ := RA.out wr mg.same i x hx
        subst ex
        have HAX : Hid (∀ (W : World) (bb : Nat), Kept wr W → W.heap[bb]? = some (Obj.cells #[.int .i64 x.kind, .int .i64 x.time, .int .i64 x.seq, .int .i64 x.index, .int .i64 x.frm, .int .i64 x.til, .string x.body] 43 (0, 0)) → ∀ ty, _) := fun W bb (k : Kept wr W) hc ty => app_q x (OwnQ.kept hO k (fun _ _ e => e)) hc (by omega) (Nat.le_trans HBS.out (Nat.le_trans mg.same.size k.size)) ty
        have HMX : Hid ((B.length ≤ j ∨ ∃ y, B[j]? = some y ∧ bef order y x = false) → ∀ (W w5 : World) (v5 : Value), Kept wr W → OwnQ base w5 v5 (O ++ [x]) → Same (fun k => u7.ownBlock = some k) W w5 → Mg order w3 base A B v5 (i + 1) j w5) := fun hw W w5 v5 k o5 k5 => mg.more hO hOl hOe k o5 k5 (mrg_takeA hx hw) (by omega) (by rw [LA.out]; omega) mg.jl
        by_cases hj : j < q
        · have p2 : decide ((j : Int) < (q : Int)) = true := decide_eq_true (by omega)
          have p2' : (j : Int) < (q : Int) := by omega
          have p3 : decide ((q : Int) ≤ (j : Int)) = false := decide_eq_false (by omega)
          have p3' : ¬ (q : Int) ≤ (j : Int) := by omega
          have p3n : decide (q ≤ j) = false := decide_eq_false (by omega)
          have p3m : ¬ q ≤ j := by omega
          obtain ⟨y, hy⟩ : ∃ y, B[j]? = some y := ⟨_, List.getElem?_eq_getElem (by rw [LB.out]; exact hj)⟩
          obtain ⟨gy, oy, ey, hgy, y0, y1, y2, y3, y4, y5, y6⟩ := RB.out wr mg.same j y hy
          subst ey
          have HAY : Hid (∀ (W : World) (bb : Nat), Kept wr W → W.heap[bb]? = some (Obj.cells #[.int .i64 y.kind, .int .i64 y.time, .int .i64 y.seq, .int .i64 y.index, .int .i64 y.frm, .int .i64 y.til, .string y.body] 43 (0, 0)) → ∀ ty, _) := fun W bb (k : Kept wr W) hc ty => app_q y (OwnQ.kept hO k (fun _ _ e => e)) hc (by omega) (Nat.le_trans HBS.out (Nat.le_trans mg.same.size k.size)) ty
          have HMY : Hid ((A.length ≤ i ∨ ∃ x, A[i]? = some x ∧ bef order y x = true) → ∀ (W w5 : World) (v5 : Value), Kept wr W → OwnQ base w5 v5 (O ++ [y]) → Same (fun k => u7.ownBlock = some k) W w5 → Mg order w3 base A B v5 i (j + 1) w5) := fun hw W w5 v5 k o5 k5 => mg.more hO hOl hOe k o5 k5 (mrg_takeB hy hw) (by omega) mg.il (by rw [LB.out]; omega)
          have HMX2 : Hid (bef order y x = false → _) := fun e => HMX.out (.inr ⟨y, hy, e⟩)
          have HMY2 : Hid (bef order y x = true → _) := fun e => HMY.out (.inr ⟨x, hx, e⟩)
          obtain ⟨k1, t1, s1, i1', f1, z1, b1⟩ := x
          obtain ⟨k2, t2, s2, i2', f2, z2, b2⟩ := y
          simp only at *
          have HBF : Hid (∀ W, Kept wr W → Calls _ _ _ _ fun e w' => _ ∧ Kept wr w') := fun W (k : Kept wr W) => Calls.mono (before_f order k2 t2 s2 i2' f2 z2 b2 k1 t1 s1 i1' f1 z1 b1 W) fun e w' hh => ⟨hh.1, k.trans' hh.2⟩
          generalize bef order _ _ = bb at HBF HMX2 HMY2
          have HT : Hid (∀ W, Kept wr W → Kept wr W ∧ W.cell? ⟨gx, ox + i * 7, none⟩ = some (.int .i64 k1) ∧ W.cell? ⟨gx, ox + i * 7 + 1, none⟩ = some (.int .i64 t1) ∧ W.cell? ⟨gx, ox + i * 7 + 2, none⟩ = some (.int .i64 s1) ∧ W.cell? ⟨gx, ox + i * 7 + 3, none⟩ = some (.int .i64 i1') ∧ W.cell? ⟨gx, ox + i * 7 + 4, none⟩ = some (.int .i64 f1) ∧ W.cell? ⟨gx, ox + i * 7 + 5, none⟩ = some (.int .i64 z1) ∧ W.cell? ⟨gx, ox + i * 7 + 6, none⟩ = some (.string b1) ∧ W.cell? ⟨gy, oy + j * 7, none⟩ = some (.int .i64 k2) ∧ W.cell? ⟨gy, oy + j * 7 + 1, none⟩ = some (.int .i64 t2) ∧ W.cell? ⟨gy, oy + j * 7 + 2, none⟩ = some (.int .i64 s2) ∧ W.cell? ⟨gy, oy + j * 7 + 3, none⟩ = some (.int .i64 i2') ∧ W.cell? ⟨gy, oy + j * 7 + 4, none⟩ = some (.int .i64 f2) ∧ W.cell? ⟨gy, oy + j * 7 + 5, none⟩ = some (.int .i64 z2) ∧ W.cell? ⟨gy, oy + j * 7 + 6, none⟩ = some (.string b2)) := fun W k => ⟨k, (k.cell (p := ⟨gx, _, none⟩) hgx (fun e => e)).trans x0, (k.cell (p := ⟨gx, _, none⟩) hgx (fun e => e)).trans x1, (k.cell (p := ⟨gx, _, none⟩) hgx (fun e => e)).trans x2, (k.cell (p := ⟨gx, _, none⟩) hgx (fun e => e)).trans x3, (k.cell (p := ⟨gx, _, none⟩) hgx (fun e => e)).trans x4, (k.cell (p := ⟨gx, _, none⟩) hgx (fun e => e)).trans x5, (k.cell (p := ⟨gx, _, none⟩) hgx (fun e => e)).trans x6, (k.cell (p := ⟨gy, _, none⟩) hgy (fun e => e)).trans y0, (k.cell (p := ⟨gy, _, none⟩) hgy (fun e => e)).trans y1, (k.cell (p := ⟨gy, _, none⟩) hgy (fun e => e)).trans y2, (k.cell (p := ⟨gy, _, none⟩) hgy (fun e => e)).trans y3, (k.cell (p := ⟨gy, _, none⟩) hgy (fun e => e)).trans y4, (k.cell (p := ⟨gy, _, none⟩) hgy (fun e => e)).trans y5, (k.cell (p := ⟨gy, _, none⟩) hgy (fun e => e)).trans y6⟩
          clear hx hy mg hO hOe HMX HMY
          go_wp2_with fail
          go_cut [65] (fun s65 wx => s65 = .bool (!bb) ∧ Kept wr wx)
          case first =>
            clear HAX HAY HMX2 HMY2 RA RB
            go_region_held3 (fun W => Kept wr W ∧ W.cell? ⟨gx, ox + i * 7, none⟩ = some (.int .i64 k1) ∧ W.cell? ⟨gx, ox + i * 7 + 1, none⟩ = some (.int .i64 t1) ∧ W.cell? ⟨gx, ox + i * 7 + 2, none⟩ = some (.int .i64 s1) ∧ W.cell? ⟨gx, ox + i * 7 + 3, none⟩ = some (.int .i64 i1') ∧ W.cell? ⟨gx, ox + i * 7 + 4, none⟩ = some (.int .i64 f1) ∧ W.cell? ⟨gx, ox + i * 7 + 5, none⟩ = some (.int .i64 z1) ∧ W.cell? ⟨gx, ox + i * 7 + 6, none⟩ = some (.string b1) ∧ W.cell? ⟨gy, oy + j * 7, none⟩ = some (.int .i64 k2) ∧ W.cell? ⟨gy, oy + j * 7 + 1, none⟩ = some (.int .i64 t2) ∧ W.cell? ⟨gy, oy + j * 7 + 2, none⟩ = some (.int .i64 s2) ∧ W.cell? ⟨gy, oy + j * 7 + 3, none⟩ = some (.int .i64 i2') ∧ W.cell? ⟨gy, oy + j * 7 + 4, none⟩ = some (.int .i64 f2) ∧ W.cell? ⟨gy, oy + j * 7 + 5, none⟩ = some (.int .i64 z2) ∧ W.cell? ⟨gy, oy + j * 7 + 6, none⟩ = some (.string b2))
              (exact HT.out _ (by (repeat (first | assumption | exact Same.refl _ _ | apply Same.alloc | apply Same.drew | apply Same.drewN)); done))
              ((first
              | (go_at_call 21; refine Calls.mono (HBF.out _ (by (repeat (first | assumption | exact Same.refl _ _ | apply Same.alloc | apply Same.drew | apply Same.drewN)); done)) ?_; rintro e w5 ⟨rfl, k5⟩)))
            all_goals (go_wp2_with fail)
            all_goals go_meet
            all_goals exact ⟨rfl, (by (repeat (first | assumption | exact Same.refl _ _ | apply Same.alloc | apply Same.drew | apply Same.drewN)); done)⟩
          case rest =>
            obtain ⟨rfl, hk⟩ := hcut
            obtain ⟨-, x0, x1, x2, x3, x4, x5, x6, y0, y1, y2, y3, y4, y5, y6⟩ := HT.out _ hk
            have hgx2 : gx < wc.heap.size := Nat.lt_of_lt_of_le hgx hk.size
            have hgy2 : gy < wc.heap.size := Nat.lt_of_lt_of_le hgy hk.size
            clear HT HBF
            cases bb with
            | false =>
              have HMX : Hid _ := HMX2.out rfl
              clear HMX2 HMY2 HAY
              go_wp2_with (at_builtin; refine wpList_app rfl (.tmp 66) (.tmp 71) 38 38 rfl u7 (.slice (some ⟨_, 0, none⟩) 1 1) rfl rfl _ (HAX.out _ _ (by (repeat (first | assumption | exact Same.refl _ _ | apply Same.alloc | apply Same.drew | apply Same.drewN)); done) (by exact heap_new _ _)) ?_; rintro v5 w5 ⟨o5, k5, -⟩; have R : Hid _ := HMX.out _ _ _ (by (repeat (first | assumption | exact Same.refl _ _ | apply Same.alloc | apply Same.drew | apply Same.drewN)); done) o5 k5; clear o5 k5)
              go_roundw
              case rel => exact ⟨i + 1, j, by rw [Int.natCast_add]; rfl, rfl, R.out⟩
              case measure => simp only [intOf]; omega
            | true =>
              have HMY : Hid _ := HMY2.out rfl
              clear HMX2 HMY2 HAX
              go_wp2_with (at_builtin; refine wpList_app rfl (.tmp 75) (.tmp 80) 38 38 rfl u7 (.slice (some ⟨_, 0, none⟩) 1 1) rfl rfl _ (HAY.out _ _ (by (repeat (first | assumption | exact Same.refl _ _ | apply Same.alloc | apply Same.drew | apply Same.drewN)); done) (by exact heap_new _ _)) ?_; rintro v5 w5 ⟨o5, k5, -⟩; have R : Hid _ := HMY.out _ _ _ (by (repeat (first | assumption | exact Same.refl _ _ | apply Same.alloc | apply Same.drew | apply Same.drewN)); done) o5 k5; clear o5 k5)
              go_roundw
              case rel => exact ⟨i, j + 1, rfl, by rw [Int.natCast_add]; rfl, R.out⟩
              case measure => simp only [intOf]; omega
        · have p3 : decide ((q : Int) ≤ (j : Int)) = true := decide_eq_true (by omega)
          have p3' : (q : Int) ≤ (j : Int) := by omega
          have p3n : decide (q ≤ j) = true := decide_eq_true (by omega)
          have p3m : q ≤ j := by omega
          have HMX2 : Hid _ := HMX.out (.inl (by rw [LB.out]; omega))
          have HMX : Hid _ := HMX2.out
          clear HMX2
          clear hx mg hO hOe
          go_wp2_with fail
          go_region
          all_goals
            go_wp2_with (at_builtin; refine wpList_app rfl (.tmp 66) (.tmp 71) 38 38 rfl u7 (.slice (some ⟨_, 0, none⟩) 1 1) rfl rfl _ (HAX.out _ _ (by (repeat (first | assumption | exact Same.refl _ _ | apply Same.alloc | apply Same.drew | apply Same.drewN)); done) (by exact heap_new _ _)) ?_; rintro v5 w5 ⟨o5, k5, -⟩; have R : Hid _ := HMX.out _ _ _ (by (repeat (first | assumption | exact Same.refl _ _ | apply Same.alloc | apply Same.drew | apply Same.drewN)); done) o5 k5; clear o5 k5)
            go_roundw
            case rel => exact ⟨i + 1, j, by rw [Int.natCast_add]; rfl, rfl, R.out⟩
            case measure => simp only [intOf]; omega
      · have p1 : decide ((i : Int) < (m : Int)) = false := decide_eq_false (by omega)
        have p1' : ¬ (i : Int) < (m : Int) := by omega
        have p1n : decide (i < m) = false := decide_eq_false (by omega)
        by_cases hj : j < q
        · have p2 : decide ((j : Int) < (q : Int)) = true := decide_eq_true (by omega)
          have p2' : (j : Int) < (q : Int) := by omega
          have p3 : decide ((q : Int) ≤ (j : Int)) = false := decide_eq_false (by omega)
          have p3' : ¬ (q : Int) ≤ (j : Int) := by omega
          have p3n : decide (q ≤ j) = false := decide_eq_false (by omega)
          have p3m : ¬ q ≤ j := by omega
          obtain ⟨y, hy⟩ : ∃ y, B[j]? = some y := ⟨_, List.getElem?_eq_getElem (by rw [LB.out]; exact hj)⟩
          obtain ⟨gy, oy, ey, hgy, y0, y1, y2, y3, y4, y5, y6⟩ := RB.out wr mg.same j y hy
          subst ey
          have HAY : Hid (∀ (W : World) (bb : Nat), Kept wr W → W.heap[bb]? = some (Obj.cells #[.int .i64 y.kind, .int .i64 y.time, .int .i64 y.seq, .int .i64 y.index, .int .i64 y.frm, .int .i64 y.til, .string y.body] 43 (0, 0)) → ∀ ty, _) := fun W bb (k : Kept wr W) hc ty => app_q y (OwnQ.kept hO k (fun _ _ e => e)) hc (by omega) (Nat.le_trans HBS.out (Nat.le_trans mg.same.size k.size)) ty
          have HMY : Hid ((A.length ≤ i ∨ ∃ x, A[i]? = some x ∧ bef order y x = true) → ∀ (W w5 : World) (v5 : Value), Kept wr W → OwnQ base w5 v5 (O ++ [y]) → Same (fun k => u7.ownBlock = some k) W w5 → Mg order w3 base A B v5 i (j + 1) w5) := fun hw W w5 v5 k o5 k5 => mg.more hO hOl hOe k o5 k5 (mrg_takeB hy hw) (by omega) mg.il (by rw [LB.out]; omega)
          have HMY2 : Hid _ := HMY.out (.inl (by rw [LA.out]; omega))
          have HMY : Hid _ := HMY2.out
          clear HMY2
          clear hy mg hO hOe
          go_wp2_with fail
          go_region
          all_goals
            go_wp2_with (at_builtin; refine wpList_app rfl (.tmp 75) (.tmp 80) 38 38 rfl u7 (.slice (some ⟨_, 0, none⟩) 1 1) rfl rfl _ (HAY.out _ _ (by (repeat (first | assumption | exact Same.refl _ _ | apply Same.alloc | apply Same.drew | apply Same.drewN)); done) (by exact heap_new _ _)) ?_; rintro v5 w5 ⟨o5, k5, -⟩; have R : Hid _ := HMY.out _ _ _ (by (repeat (first | assumption | exact Same.refl _ _ | apply Same.alloc | apply Same.drew | apply Same.drewN)); done) o5 k5; clear o5 k5)
            go_roundw
            case rel => exact ⟨i, j + 1, rfl, by rw [Int.natCast_add]; rfl, R.out⟩
            case measure => simp only [intOf]; omega
        · have p2 : decide ((j : Int) < (q : Int)) = false := decide_eq_false (by omega)
          have p2' : ¬ (j : Int) < (q : Int) := by omega
          have hfin : O = mrg (bef order) A B := by
            rw [List.drop_eq_nil_of_le (by rw [LA.out]; omega), List.drop_eq_nil_of_le (by rw [LB.out]; omega), mrg_nil, List.append_nil] at hOe
            exact hOe
          rw [hfin] at hO
          have R : Hid (OwnQ w.heap.size wr u7 (mrg (bef order) A B) ∧ Kept w wr) := ⟨OwnQ.lower hO KW.out.2, ((KW.out.1.to _).trans' mg.same).mono fun b hb e => by have := KW.out.2; omega⟩
          clear hO hOe hfin mg
          go_wp2_with fail
          go_ret
          exact ⟨_, rfl, R.out⟩
theorem sorted10 (order : Int) : ∀ (N : Nat) {w : World} {a : Option Addr} {cap : Nat} {l : List RwM}, l.length < N → RowsAt w a l → l.length ≤ cap → (a = none → l.length = 0 ∧ cap = 0) → l.length ≤ 2199023255552 →
    Calls Try.prog 60 #[.int .i64 order, .slice a l.length cap] w fun e w' => ∃ v, e = .returned v ∧ OwnQ w.heap.size w' v (srt (bef order) l) ∧ Kept w w' := by
  intro N
  induction N with
  | zero => intro w a cap l h; omega
  | succ N ih =>
    intro w a cap l h hr hc hnil hn
    exact sorted_step order hr hc hnil hn fun W a' cap' l' hl hr' hc' hnil' => ih (by omega) hr' hc' hnil' (by omega)
end Go.Proofs.Ytbjmdpfoeeadeaa.Rw
