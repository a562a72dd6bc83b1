/- What is proved: within, isTime, isValue, Valid, New and Total of a top answer as the document says; the top lies in memory. -/
import Derived.Test.YtnfkjblhnpnaeaaVHold
namespace Go.Proofs.Ytnfkjblhnpnaeaa
open Go.RowKit

theorem ab18 : Ab Try.prog 13 nb1 :=
  ⟨by kernel_rfl, ekN, Try.func34, Try.func35, Try.func41, Try.call27, Try.call41, cmpN18, Try.underlying0, Try.underlying3, Try.underlying4, Try.underlying50, Try.isAgg0, Try.isAgg3, Try.isAgg4, Try.isAgg50, Try.isAgg55, Try.sizeOf0, Try.sizeOf3, Try.sizeOf4, Try.sizeOf50, Try.sizeOf55⟩
theorem ac18 : Ac Try.prog 13 nb1 :=
  ⟨ab18, Try.func24, Try.call34, Try.call35, rfl, rfl, Try.isAgg24, Try.isAgg52, Try.sizeOf24, Try.sizeOf52, ⟨_, Try.zeroValue55⟩, by decide, _, 128, Try.infoNumb, rfl, by decide⟩
abbrev OwnN (base : Nat) (w : World) (v : Value) (l : List Nb) : Prop := Own nb1 13 55 base w v l
abbrev OwnV (base : Nat) (w : World) (v : Value) (l : List Vl) : Prop := Own vl1 12 30 base w v l
/-- Between two bounds. -/
def wi (n a b : Int) : Bool := decide (n ≥ a) && decide (n ≤ b)
theorem wi_iff {n a b : Int} : wi n a b = true ↔ a ≤ n ∧ n ≤ b := by simp [wi]
set_option maxRecDepth 100000 in
theorem within18 (n a b : Int) (w : World) : Calls Try.prog 23 #[.int .i64 n, .int .i64 a, .int .i64 b] w fun e w' => e = .returned (.bool (wi n a b)) ∧ w' = w := by
  unfold wi
  by_cases h : n ≥ a
  · have d : decide (n ≥ a) = true := decide_eq_true h
    have d' : a ≤ n := h
    generalize hb : decide (n ≤ b) = c
    have HB : Hid (decide (n ≤ b) = c) := hb
    cases c with
    | true =>
      have d2 : n ≤ b := of_decide_eq_true hb
      go_enter Try.func23, Try.ntmps23
      go_wp2_with fail
      go_ret
      exact ⟨by simp [d'], rfl⟩
    | false =>
      have d2 : ¬ n ≤ b := of_decide_eq_false hb
      go_enter Try.func23, Try.ntmps23
      go_wp2_with fail
      go_ret
      exact ⟨by simp, rfl⟩
  · have d : decide (n ≥ a) = false := decide_eq_false h
    have d' : ¬ a ≤ n := h
    go_enter Try.func23, Try.ntmps23
    go_wp2_with fail
    go_ret
    exact ⟨by simp, rfl⟩
set_option maxRecDepth 100000 in
theorem isTime18 (n : Int) (w : World) : Calls Try.prog 32 #[.int .i64 n] w fun e w' => e = .returned (.bool (wi n 0 1099511627776)) ∧ w' = w := by
  have H : Hid (∀ W, _) := fun W => within18 n 0 1099511627776 W
  generalize wi n 0 1099511627776 = b at *
  go_enter Try.func32, Try.ntmps32
  go_wp2_with fail
  refine Calls.mono (H.out _) ?_
  rintro r w1 ⟨rfl, rfl⟩
  go_wp2_with fail
  go_ret
  exact ⟨rfl, rfl⟩
/-- A text where there is a value, or none. -/
def iv (th : Bool) (t : ByteArray) : Bool := decide (t.size ≤ 16) && (th || decide (t.size = 0))
theorem size_zero {t : ByteArray} (h : t.size = 0) : t = ByteArray.empty := by
  obtain ⟨d⟩ := t
  have : d = #[] := Array.eq_empty_of_size_eq_zero h
  subst this
  rfl
set_option maxRecDepth 100000 in
theorem isValue18 (th : Bool) (t : ByteArray) (w : World) : Calls Try.prog 33 #[.bool th, .string t] w fun e w' => e = .returned (.bool (iv th t)) ∧ w' = w := by
  by_cases h : t.size ≤ 16
  · have d : decide ((t.size : Int) ≤ 16) = true := decide_eq_true (by omega)
    have d' : (t.size : Int) ≤ 16 := by omega
    cases th with
    | true =>
      go_enter Try.func33, Try.ntmps33
      go_wp2_with fail
      go_ret
      exact ⟨by simp [iv, h], rfl⟩
    | false =>
      by_cases h0 : t.size = 0
      · obtain rfl := size_zero h0
        go_enter Try.func33, Try.ntmps33
        go_wp2_with fail
        go_ret
        exact ⟨by first | rfl | simp [iv], rfl⟩
      · have d2 : ¬ t = ByteArray.empty := fun e => h0 (by rw [e]; rfl)
        go_enter Try.func33, Try.ntmps33
        go_wp2_with fail
        go_ret
        exact ⟨by simp [iv, h0, d2, toList_nil_iff_emptyBytes], rfl⟩
  · have d : decide ((t.size : Int) ≤ 16) = false := decide_eq_false (by omega)
    have d' : ¬ (t.size : Int) ≤ 16 := by omega
    go_enter Try.func33, Try.ntmps33
    go_wp2_with fail
    go_ret
    exact ⟨by simp [iv, h], rfl⟩
/-- A violation is right. -/
def okV (x : Vl) : Bool := wi x.kd 1 10 && wi x.tm 0 1099511627776 && wi x.fr 0 1099511627776 && wi x.tt 0 1099511627776 && wi x.tx 0 4095 && wi x.wi (-1) 4095 && wi x.op (-1) 15 && decide (x.key.size ≤ 8) && iv x.wa x.ex && iv x.go x.ob
theorem vl_cells {w : World} {g : Nat} {x : Vl} {ty : TypeId} (h : w.heap[g]? = some (.cells #[.int .i64 x.kd, .int .i64 x.tm, .int .i64 x.tx, .int .i64 x.op, .int .i64 x.wi, .string x.key, .bool x.wa, .string x.ex, .bool x.go, .string x.ob, .int .i64 x.fr, .int .i64 x.tt] ty (0, 0))) : w.cell? ⟨g, 0, none⟩ = some (.int .i64 x.kd) ∧ w.cell? ⟨g, 1, none⟩ = some (.int .i64 x.tm) ∧ w.cell? ⟨g, 2, none⟩ = some (.int .i64 x.tx) ∧ w.cell? ⟨g, 3, none⟩ = some (.int .i64 x.op) ∧ w.cell? ⟨g, 4, none⟩ = some (.int .i64 x.wi) ∧ w.cell? ⟨g, 5, none⟩ = some (.string x.key) ∧ w.cell? ⟨g, 6, none⟩ = some (.bool x.wa) ∧ w.cell? ⟨g, 7, none⟩ = some (.string x.ex) ∧ w.cell? ⟨g, 8, none⟩ = some (.bool x.go) ∧ w.cell? ⟨g, 9, none⟩ = some (.string x.ob) ∧ w.cell? ⟨g, 10, none⟩ = some (.int .i64 x.fr) ∧ w.cell? ⟨g, 11, none⟩ = some (.int .i64 x.tt) :=
  ⟨(cell_of h 0).trans rfl, (cell_of h 1).trans rfl, (cell_of h 2).trans rfl, (cell_of h 3).trans rfl, (cell_of h 4).trans rfl, (cell_of h 5).trans rfl, (cell_of h 6).trans rfl, (cell_of h 7).trans rfl, (cell_of h 8).trans rfl, (cell_of h 9).trans rfl, (cell_of h 10).trans rfl, (cell_of h 11).trans rfl⟩
set_option maxRecDepth 100000 in
set_option maxHeartbeats 3200000 in
theorem valid18 (x : Vl) (w : World) : Calls Try.prog 20 #[vlV x] w fun e w' => e = .returned (.bool (okV x)) ∧ w' = w.alloc (vlO x) := by
  obtain ⟨kd, tm, tx, op, wit, key, wa, ex, gg, ob, fr, tt⟩ := x
  unfold okV vlV vlO
  simp only
  have H0 : Hid (∀ W, _) := fun W => within18 kd 1 10 W
  have H1 : Hid (∀ W, _) := fun W => isTime18 tm W
  have H2 : Hid (∀ W, _) := fun W => isTime18 fr W
  have H3 : Hid (∀ W, _) := fun W => isTime18 tt W
  have H4 : Hid (∀ W, _) := fun W => within18 tx 0 4095 W
  have H5 : Hid (∀ W, _) := fun W => within18 wit (-1) 4095 W
  have H6 : Hid (∀ W, _) := fun W => within18 op (-1) 15 W
  have H8 : Hid (∀ W, _) := fun W => isValue18 wa ex W
  have H9 : Hid (∀ W, _) := fun W => isValue18 gg ob W
  generalize wi kd 1 10 = b0 at *
  generalize wi tm 0 1099511627776 = b1 at *
  generalize wi fr 0 1099511627776 = b2 at *
  generalize wi tt 0 1099511627776 = b3 at *
  generalize wi tx 0 4095 = b4 at *
  generalize wi wit (-1) 4095 = b5 at *
  generalize wi op (-1) 15 = b6 at *
  generalize iv wa ex = b8 at *
  generalize iv gg ob = b9 at *
  cases b0 with
  | false =>
    go_enter Try.func20, Try.ntmps20
    go_wp2_with fail
    refine Calls.mono (H0.out _) ?_
    rintro r w1 ⟨rfl, rfl⟩
    go_wp2_with fail
    go_ret
    exact ⟨by simp, rfl⟩
  | true =>
    cases b1 with
    | false =>
      go_enter Try.func20, Try.ntmps20
      go_wp2_with fail
      refine Calls.mono (H0.out _) ?_
      rintro r w1 ⟨rfl, rfl⟩
      go_wp2_with fail
      refine Calls.mono (H1.out _) ?_
      rintro r w1 ⟨rfl, rfl⟩
      go_wp2_with fail
      go_ret
      exact ⟨by simp, rfl⟩
    | true =>
      cases b2 with
      | false =>
        go_enter Try.func20, Try.ntmps20
        go_wp2_with fail
        refine Calls.mono (H0.out _) ?_
        rintro r w1 ⟨rfl, rfl⟩
        go_wp2_with fail
        refine Calls.mono (H1.out _) ?_
        rintro r w1 ⟨rfl, rfl⟩
        go_wp2_with fail
        refine Calls.mono (H2.out _) ?_
        rintro r w1 ⟨rfl, rfl⟩
        go_wp2_with fail
        go_ret
        exact ⟨by simp, rfl⟩
      | true =>
        cases b3 with
        | false =>
          go_enter Try.func20, Try.ntmps20
          go_wp2_with fail
          refine Calls.mono (H0.out _) ?_
          rintro r w1 ⟨rfl, rfl⟩
          go_wp2_with fail
          refine Calls.mono (H1.out _) ?_
          rintro r w1 ⟨rfl, rfl⟩
          go_wp2_with fail
          refine Calls.mono (H2.out _) ?_
          rintro r w1 ⟨rfl, rfl⟩
          go_wp2_with fail
          refine Calls.mono (H3.out _) ?_
          rintro r w1 ⟨rfl, rfl⟩
          go_wp2_with fail
          go_ret
          exact ⟨by simp, rfl⟩
        | true =>
          cases b4 with
          | false =>
            go_enter Try.func20, Try.ntmps20
            go_wp2_with fail
            refine Calls.mono (H0.out _) ?_
            rintro r w1 ⟨rfl, rfl⟩
            go_wp2_with fail
            refine Calls.mono (H1.out _) ?_
            rintro r w1 ⟨rfl, rfl⟩
            go_wp2_with fail
            refine Calls.mono (H2.out _) ?_
            rintro r w1 ⟨rfl, rfl⟩
            go_wp2_with fail
            refine Calls.mono (H3.out _) ?_
            rintro r w1 ⟨rfl, rfl⟩
            go_wp2_with fail
            refine Calls.mono (H4.out _) ?_
            rintro r w1 ⟨rfl, rfl⟩
            go_wp2_with fail
            go_ret
            exact ⟨by simp, rfl⟩
          | true =>
            cases b5 with
            | false =>
              go_enter Try.func20, Try.ntmps20
              go_wp2_with fail
              refine Calls.mono (H0.out _) ?_
              rintro r w1 ⟨rfl, rfl⟩
              go_wp2_with fail
              refine Calls.mono (H1.out _) ?_
              rintro r w1 ⟨rfl, rfl⟩
              go_wp2_with fail
              refine Calls.mono (H2.out _) ?_
              rintro r w1 ⟨rfl, rfl⟩
              go_wp2_with fail
              refine Calls.mono (H3.out _) ?_
              rintro r w1 ⟨rfl, rfl⟩
              go_wp2_with fail
              refine Calls.mono (H4.out _) ?_
              rintro r w1 ⟨rfl, rfl⟩
              go_wp2_with fail
              refine Calls.mono (H5.out _) ?_
              rintro r w1 ⟨rfl, rfl⟩
              go_wp2_with fail
              go_ret
              exact ⟨by simp, rfl⟩
            | true =>
              cases b6 with
              | false =>
                go_enter Try.func20, Try.ntmps20
                go_wp2_with fail
                refine Calls.mono (H0.out _) ?_
                rintro r w1 ⟨rfl, rfl⟩
                go_wp2_with fail
                refine Calls.mono (H1.out _) ?_
                rintro r w1 ⟨rfl, rfl⟩
                go_wp2_with fail
                refine Calls.mono (H2.out _) ?_
                rintro r w1 ⟨rfl, rfl⟩
                go_wp2_with fail
                refine Calls.mono (H3.out _) ?_
                rintro r w1 ⟨rfl, rfl⟩
                go_wp2_with fail
                refine Calls.mono (H4.out _) ?_
                rintro r w1 ⟨rfl, rfl⟩
                go_wp2_with fail
                refine Calls.mono (H5.out _) ?_
                rintro r w1 ⟨rfl, rfl⟩
                go_wp2_with fail
                refine Calls.mono (H6.out _) ?_
                rintro r w1 ⟨rfl, rfl⟩
                go_wp2_with fail
                go_ret
                exact ⟨by simp, rfl⟩
              | true =>
                by_cases h7 : key.size ≤ 8
                · have d7 : decide ((key.size : Int) ≤ 8) = true := decide_eq_true (by omega)
                  have d7' : (key.size : Int) ≤ 8 := by omega
                  cases b8 with
                  | false =>
                    go_enter Try.func20, Try.ntmps20
                    go_wp2_with fail
                    refine Calls.mono (H0.out _) ?_
                    rintro r w1 ⟨rfl, rfl⟩
                    go_wp2_with fail
                    refine Calls.mono (H1.out _) ?_
                    rintro r w1 ⟨rfl, rfl⟩
                    go_wp2_with fail
                    refine Calls.mono (H2.out _) ?_
                    rintro r w1 ⟨rfl, rfl⟩
                    go_wp2_with fail
                    refine Calls.mono (H3.out _) ?_
                    rintro r w1 ⟨rfl, rfl⟩
                    go_wp2_with fail
                    refine Calls.mono (H4.out _) ?_
                    rintro r w1 ⟨rfl, rfl⟩
                    go_wp2_with fail
                    refine Calls.mono (H5.out _) ?_
                    rintro r w1 ⟨rfl, rfl⟩
                    go_wp2_with fail
                    refine Calls.mono (H6.out _) ?_
                    rintro r w1 ⟨rfl, rfl⟩
                    go_wp2_with fail
                    refine Calls.mono (H8.out _) ?_
                    rintro r w1 ⟨rfl, rfl⟩
                    go_wp2_with fail
                    go_ret
                    exact ⟨by simp [h7], rfl⟩
                  | true =>
                    go_enter Try.func20, Try.ntmps20
                    go_wp2_with fail
                    refine Calls.mono (H0.out _) ?_
                    rintro r w1 ⟨rfl, rfl⟩
                    go_wp2_with fail
                    refine Calls.mono (H1.out _) ?_
                    rintro r w1 ⟨rfl, rfl⟩
                    go_wp2_with fail
                    refine Calls.mono (H2.out _) ?_
                    rintro r w1 ⟨rfl, rfl⟩
                    go_wp2_with fail
                    refine Calls.mono (H3.out _) ?_
                    rintro r w1 ⟨rfl, rfl⟩
                    go_wp2_with fail
                    refine Calls.mono (H4.out _) ?_
                    rintro r w1 ⟨rfl, rfl⟩
                    go_wp2_with fail
                    refine Calls.mono (H5.out _) ?_
                    rintro r w1 ⟨rfl, rfl⟩
                    go_wp2_with fail
                    refine Calls.mono (H6.out _) ?_
                    rintro r w1 ⟨rfl, rfl⟩
                    go_wp2_with fail
                    refine Calls.mono (H8.out _) ?_
                    rintro r w1 ⟨rfl, rfl⟩
                    go_wp2_with fail
                    refine Calls.mono (H9.out _) ?_
                    rintro r w1 ⟨rfl, rfl⟩
                    go_wp2_with fail
                    go_ret
                    exact ⟨by simp [h7], rfl⟩
                · have d7 : decide ((key.size : Int) ≤ 8) = false := decide_eq_false (by omega)
                  have d7' : ¬ (key.size : Int) ≤ 8 := by omega
                  go_enter Try.func20, Try.ntmps20
                  go_wp2_with fail
                  refine Calls.mono (H0.out _) ?_
                  rintro r w1 ⟨rfl, rfl⟩
                  go_wp2_with fail
                  refine Calls.mono (H1.out _) ?_
                  rintro r w1 ⟨rfl, rfl⟩
                  go_wp2_with fail
                  refine Calls.mono (H2.out _) ?_
                  rintro r w1 ⟨rfl, rfl⟩
                  go_wp2_with fail
                  refine Calls.mono (H3.out _) ?_
                  rintro r w1 ⟨rfl, rfl⟩
                  go_wp2_with fail
                  refine Calls.mono (H4.out _) ?_
                  rintro r w1 ⟨rfl, rfl⟩
                  go_wp2_with fail
                  refine Calls.mono (H5.out _) ?_
                  rintro r w1 ⟨rfl, rfl⟩
                  go_wp2_with fail
                  refine Calls.mono (H6.out _) ?_
                  rintro r w1 ⟨rfl, rfl⟩
                  go_wp2_with fail
                  go_ret
                  exact ⟨by simp [h7], rfl⟩
/-- A top in memory: its limit, all that were put, what is held. -/
structure Tp (base : Nat) (w : World) (tb lim : Nat) (vs : List Vl) (v : Value) (L : List Nb) : Prop where
  obj : w.heap[tb]? = some (tpO lim vs.length v)
  low : base ≤ tb
  own : OwnN base w v L
  hd : Hd lim vs L
  lim : lim ≤ 10000
theorem Tp.on {base : Nat} {w w' : World} {tb lim : Nat} {vs : List Vl} {v : Value} {L : List Nb} {S : Nat → Prop} (h : Tp base w tb lim vs v L) (hs : Same S w w') (h1 : ¬ S tb) (h2 : ∀ b, v.ownBlock = some b → ¬ S b) : Tp base w' tb lim vs v L :=
  ⟨(hs.block tb (lt_of_heap h.obj) h1).trans h.obj, h.low, h.own.kept hs h2, h.hd, h.lim⟩
theorem Tp.kept {base : Nat} {w w' : World} {tb lim : Nat} {vs : List Vl} {v : Value} {L : List Nb} (h : Tp base w tb lim vs v L) (hs : Kept w w') : Tp base w' tb lim vs v L := h.on hs (fun e => e) (fun _ _ e => e)
theorem Tp.ne {base : Nat} {w : World} {tb lim : Nat} {vs : List Vl} {v : Value} {L : List Nb} (h : Tp base w tb lim vs v L) : v.ownBlock ≠ some tb := own_ne h.own h.obj (by decide)
set_option maxRecDepth 100000 in
theorem new18_no (lim : Int) (h : lim < 0 ∨ 10000 < lim) (w : World) : Calls Try.prog 10 #[.int .i64 lim] w fun e w' => e = .returned (.tuple #[.pointer none, .int .i64 180]) ∧ w' = w := by
  have H : Hid (∀ W, _) := fun W => within18 lim 0 10000 W
  have e : wi lim 0 10000 = false := by
    cases h1 : wi lim 0 10000
    · rfl
    · have := wi_iff.1 h1
      omega
  rw [e] at H
  clear e
  go_enter Try.func10, Try.ntmps10
  go_wp2_with fail
  refine Calls.mono (H.out _) ?_
  rintro r w1 ⟨rfl, rfl⟩
  go_wp2_with fail
  refine bodyPost_ret (results_tmp2 rfl _ _ _) rfl ?_
  exact ⟨rfl, rfl⟩
set_option maxRecDepth 100000 in
theorem new18_ok (lim : Nat) (h : lim ≤ 10000) (w : World) : Calls Try.prog 10 #[.int .i64 (lim : Int)] w fun e w' => e = .returned (.tuple #[.pointer (some ⟨w.heap.size, 0, none⟩), .int .i64 0]) ∧ w' = w.alloc (tpO lim 0 (.slice none 0 0)) := by
  have H : Hid (∀ W, _) := fun W => within18 (lim : Int) 0 10000 W
  have e : wi (lim : Int) 0 10000 = true := wi_iff.2 ⟨by omega, by omega⟩
  rw [e] at H
  clear e
  go_enter Try.func10, Try.ntmps10
  go_wp2_with fail
  refine Calls.mono (H.out _) ?_
  rintro r w1 ⟨rfl, rfl⟩
  go_wp2_with fail
  refine bodyPost_ret (results_tmp2 rfl _ _ _) rfl ?_
  exact ⟨rfl, rfl⟩
theorem Tp.new (w : World) (lim : Nat) (h : lim ≤ 10000) : Tp w.heap.size (w.alloc (tpO lim 0 (.slice none 0 0))) w.heap.size lim [] (.slice none 0 0) [] :=
  ⟨heap_new _ _, Nat.le_refl _, Own.nil _ _ _ _ _, Hd.start lim, h⟩
set_option maxRecDepth 100000 in
theorem total18 {base : Nat} {w : World} {tb lim : Nat} {vs : List Vl} {v : Value} {L : List Nb} (h : Tp base w tb lim vs v L) : Calls Try.prog 16 #[.pointer (some ⟨tb, 0, none⟩)] w fun e w' => e = .returned (.int .i64 (vs.length : Int)) ∧ w' = w := by
  have c1 : w.cell? ⟨tb, 1, none⟩ = some (.int .i64 (vs.length : Int)) := (cell_of h.obj 1).trans rfl
  generalize vs.length = n at *
  clear h
  go_enter Try.func16, Try.ntmps16
  go_wp2_with fail
  go_ret
  exact ⟨rfl, rfl⟩
theorem hold18 {base : Nat} {w : World} {tb lim : Nat} {vs : List Vl} {v : Value} {L : List Nb} (h : Tp base w tb lim vs v L) (x : Vl) : Calls Try.prog 24 #[.pointer (some ⟨tb, 0, none⟩), nbV ⟨x, (vs.length : Int)⟩] w fun e w' => e = .returned (.tuple #[]) ∧ ∃ v' L', w'.heap[tb]? = some (tpO lim vs.length v') ∧ OwnN base w' v' L' ∧ Hd lim (vs ++ [x]) L' ∧ Same (fun b => b = tb ∨ v.ownBlock = some b) w w' ∧ ∀ b, v'.ownBlock = some b → v.ownBlock = some b ∨ w.heap.size ≤ b :=
  hold_p ac18 h.obj h.own h.hd h.lim (Nat.le_trans h.low (Nat.le_of_lt (lt_of_heap h.obj))) x
end Go.Proofs.Ytnfkjblhnpnaeaa
