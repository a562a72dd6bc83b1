/- What is proved: the law LosersDry answers true, for every number of sources, every source and every row. -/
import Derived.Test.YtbjgjgcncdjhcaaTTieL
import Derived.Test.YtbjgjgcncdjhcaaQValR
namespace Go.Proofs.Ytbjgjgcncdjhcaa
open Go.RowKit

/-- The first q sources but x are finished; source x stands as s. -/
def dry1 (k q x : Nat) (s : Sr) : List Sr := gen k fun j => if j = x then s else if j < q then .fin else .wait
theorem dry_len (k q x : Nat) (s : Sr) : (dry1 k q x s).length = k := gen_len _ _
theorem dry_at {k q x : Nat} {s : Sr} (h : x < k) : (dry1 k q x s).getD x .wait = s := by rw [dry1, gen_get _ h, if_pos rfl]
theorem dry_ne {k q x j : Nat} {s : Sr} (h : j < k) (hj : j ≠ x) : (dry1 k q x s).getD j .wait = if j < q then .fin else .wait := by rw [dry1, gen_get _ h, if_neg hj]
theorem dry_set {k q x : Nat} {s t : Sr} : (dry1 k q x s).set x t = dry1 k q x t := gen_set _ _ _ (if_pos rfl) fun j _ hj => by rw [if_neg hj, if_neg hj]
theorem dry_wts {k x : Nat} {s : Sr} (h : x < k) (hs : s.wt = false) : wts (dry1 k k x s) = 0 := by
  rw [wts_zero]
  intro i hi
  rw [dry_len] at hi
  by_cases e : i = x
  · subst e; rw [dry_at hi]; exact hs
  · rw [dry_ne hi e, if_pos hi]; rfl
theorem dry_wait {k q x : Nat} (h : x < k) : 0 < wts (dry1 k q x .wait) := by
  by_cases e : wts (dry1 k q x .wait) = 0
  · have := wts_zero.1 e x (by rw [dry_len]; exact h)
    rw [dry_at h] at this
    cases this
  · omega
theorem win_fed {k x : Nat} (h : x < k) (r : RwM) : WinR 1 (dry1 k k x (.fed r)) x r 0 (dry1 k k x .wait) := by
  have := WinR.ok (order := 1) (S := dry1 k k x (.fed r)) (x := x) (r := r) (dry_wts h rfl) (by rw [dry_len]; exact h) (dry_at h) fun i hi => by
    rw [dry_len] at hi
    by_cases e : i = x
    · subst e; exact (bt_swo _ _).irr _
    · unfold bt
      rw [dry_ne hi e, if_pos hi]
  rwa [dry_set] at this
theorem win_dry {k x : Nat} (h : x < k) : WinR 1 (dry1 k k x .fin) 0 r0 114 (dry1 k k x .fin) := WinR.dry fun i hi => by
  rw [dry_len] at hi
  by_cases e : i = x
  · subst e; exact dry_at h
  · rw [dry_ne hi e, if_pos hi]
theorem filter_one {k x : Nat} (h : x < k) (p : Nat → Bool) (h1 : p x = true) (h2 : ∀ j, j < k → j ≠ x → p j = false) : (List.range k).filter p = [x] := by
  induction k with
  | zero => omega
  | succ k ih =>
    rw [List.range_succ, List.filter_append]
    by_cases e : x = k
    · subst e
      rw [List.filter_eq_nil_iff.2 fun j hj => by rw [h2 j (by have := List.mem_range.1 hj; omega) (by have := List.mem_range.1 hj; omega)]; decide]
      simp [h1]
    · rw [ih (by omega) fun j hj => h2 j (by omega)]
      have : p k = false := h2 k (by omega) (by omega)
      simp [this]
theorem wtl_dry {k x : Nat} (h : x < k) : wtl (dry1 k k x .wait) = [(x : Int)] := by
  unfold wtl wtq
  rw [dry_len, filter_one h]
  · rfl
  · rw [dry_at h]; rfl
  · intro j hj e
    rw [dry_ne hj e, if_pos hj]; rfl
theorem ref_out {S : List Sr} {i : Int} (h : i < 0 ∨ (S.length : Int) ≤ i) : refC S i = 111 := by unfold refC; rw [if_pos h]
theorem ref_fed {S : List Sr} {n : Nat} (h : n < S.length) (hw : (S.getD n .wait).wt = false) : refC S n = 112 := by
  unfold refC
  rw [if_neg (by omega), show ((n : Nat) : Int).toNat = n by omega, hw, if_neg (by decide)]
theorem ref_ok {S : List Sr} {n : Nat} (h : n < S.length) (hw : (S.getD n .wait).wt = true) : refC S n = 0 := by
  unfold refC
  rw [if_neg (by omega), show ((n : Nat) : Int).toNat = n by omega, hw, if_pos rfl]
theorem Tl.feedNo {w wr W : World} {b gs gn : Nat} {order : Int} {S : List Sr} (h : Tl w wr b gs gn order S) (k : Kept wr W) {i c : Int} {r : RwM} (hc : feedC S i r = c) (h0 : c ≠ 0) : Calls Try.prog 18 #[.pointer (some ⟨b, 0, none⟩), .int .i64 i, rowV r] W fun e w' => e = .returned (.int .i64 c) ∧ Tl w w' b gs gn order S ∧ Same (Ft b gs gn) wr w' := by
  have := h.feed k i r
  rwa [hc, show feedS S i r = S by unfold feedS; rw [if_neg (by rw [hc]; exact h0)]] at this
theorem Tl.finOk {w wr W : World} {b gs gn : Nat} {order : Int} {S : List Sr} (h : Tl w wr b gs gn order S) (k : Kept wr W) {n : Nat} (hn : n < S.length) (hw : (S.getD n .wait).wt = true) : Calls Try.prog 21 #[.pointer (some ⟨b, 0, none⟩), .int .i64 n] W fun e w' => e = .returned (.int .i64 0) ∧ Tl w w' b gs gn order (S.set n .fin) ∧ Same (Ft b gs gn) wr w' := by
  have := h.finish k n
  rwa [ref_ok hn hw, show finS S n = S.set n .fin by unfold finS; rw [if_pos (ref_ok hn hw)]; rfl] at this
theorem Tl.finNo {w wr W : World} {b gs gn : Nat} {order : Int} {S : List Sr} (h : Tl w wr b gs gn order S) (k : Kept wr W) {i c : Int} (hc : refC S i = c) (h0 : c ≠ 0) : Calls Try.prog 21 #[.pointer (some ⟨b, 0, none⟩), .int .i64 i] W fun e w' => e = .returned (.int .i64 c) ∧ Tl w w' b gs gn order S ∧ Same (Ft b gs gn) wr w' := by
  have := h.finish k i
  rwa [hc, show finS S i = S by unfold finS; rw [if_neg (by rw [hc]; exact h0)]] at this
theorem feed_fed {S : List Sr} {i c : Int} {r : RwM} (h : refC S i = c) (h0 : c ≠ 0) : feedC S i r = c := by unfold feedC; rw [if_pos (by rw [h]; exact h0), h]
theorem feed_wrong {S : List Sr} {i : Int} {r : RwM} (h : refC S i = 0) (hr : ¬ rightR r) : feedC S i r = 90 := by unfold feedC; rw [if_neg (fun e => e h), if_neg hr]
theorem neq_row (r : RwM) (w : World) : (binOp .neq 32 (rowV r) (rowV r)).run Try.prog w = .ok (.bool false) w := by
  obtain ⟨kind, time, seq, index, frm, til, body⟩ := r
  unfold rowV
  go_simp
theorem Tl.box {w wr : World} {b gs gn : Nat} {order : Int} {S : List Sr} (h : Tl w wr b gs gn order S) {g : Nat} {o : Obj} (hg : w.heap[g]? = some o) : wr.heap[g]? = some o := (h.same.block g (lt_of_heap hg) (fun e => by have := lt_of_heap hg; omega)).trans hg
set_option maxRecDepth 100000 in
set_option maxHeartbeats 4000000 in
theorem dry_law (k at_ : Int) (r : RwM) (w : World) : Calls Try.prog 7 #[.int .i64 k, .int .i64 at_, rowV r] w fun e w' => e = .returned (.bool true) ∧ Kept w w' := by
  have HA : Hid (∀ W, _) := anchor11_any
  have KB : Hid (Kept w (w.alloc (.cells #[.int .i64 r.kind, .int .i64 r.time, .int .i64 r.seq, .int .i64 r.index, .int .i64 r.frm, .int .i64 r.til, .string r.body] 32))) := (Same.refl _ w).alloc _
  have HBX : Hid _ := heap_new w (.cells #[.int .i64 r.kind, .int .i64 r.time, .int .i64 r.seq, .int .i64 r.index, .int .i64 r.frm, .int .i64 r.til, .string r.body] 32)
  by_cases hall : k < 1 ∨ 64 < k ∨ at_ < 0 ∨ k ≤ at_
  · have HL : Hid _ := hall
    clear hall
    obtain ⟨kind, time, seq, index, frm, til, body⟩ := r
    unfold rowV
    simp only at *
    obtain ⟨e1, d1⟩ : ∃ e1, decide (k < 1) = e1 := ⟨_, rfl⟩
    obtain ⟨e2, d2⟩ : ∃ e2, decide (64 < k) = e2 := ⟨_, rfl⟩
    obtain ⟨e3, d3⟩ : ∃ e3, decide (at_ < 0) = e3 := ⟨_, rfl⟩
    obtain ⟨e4, d4⟩ : ∃ e4, decide (k ≤ at_) = e4 := ⟨_, rfl⟩
    have HE : Hid (e1 = true ∨ e2 = true ∨ e3 = true ∨ e4 = true) := by
      show e1 = true ∨ e2 = true ∨ e3 = true ∨ e4 = true
      subst d1 d2 d3 d4
      simpa using HL.out
    cases e1 <;> cases e2 <;> cases e3 <;> cases e4 <;> first
    | (exfalso; have := HE.out; simp at this; done)
    | skip
    all_goals
      go_enter Try.func7, Try.ntmps7
      go_wp2_with fail
      refine Calls.mono (HA.out _) ?_
      rintro e w1 ⟨rfl, k1⟩
      have K1 : Hid _ := KB.out.trans' k1
      clear k1
      go_wp2_with fail
      go_ret
      exact ⟨rfl, K1.out⟩
  obtain ⟨n, rfl⟩ : ∃ n : Nat, k = (n : Int) := ⟨k.toNat, by omega⟩
  obtain ⟨x, rfl⟩ : ∃ x : Nat, at_ = (x : Int) := ⟨at_.toNat, by omega⟩
  have hn1 : 1 ≤ n := by omega
  have hn2 : n ≤ 64 := by omega
  have hx : x < n := by omega
  have d1 : decide ((n : Int) < 1) = false := decide_eq_false (by omega)
  have d2 : decide ((64 : Int) < (n : Int)) = false := decide_eq_false (by omega)
  have d3 : decide ((x : Int) < 0) = false := decide_eq_false (by omega)
  have d4 : decide ((n : Int) ≤ (x : Int)) = false := decide_eq_false (by omega)
  clear hall
  have HV : Hid (∀ W, _) := fun W => validR9_any r W
  have HP : Hid (∀ W, _) := fun W => plain_any r W
  have HQ := neq_row r
  obtain ⟨W0, eW0⟩ : ∃ W0, W0 = w.alloc (.cells #[.int .i64 r.kind, .int .i64 r.time, .int .i64 r.seq, .int .i64 r.index, .int .i64 r.frm, .int .i64 r.til, .string r.body] 32) := ⟨_, rfl⟩
  rw [← eW0] at KB HBX
  have HF0 : Hid (∀ (wr W : World) b gs gn q S, Tl W0 wr b gs gn 1 S → S = dry1 n q x .wait → Kept wr W → ¬ rightR r → _) := fun wr W b gs gn q S (h : Tl W0 wr b gs gn 1 S) (e : S = dry1 n q x .wait) (k : Kept wr W) (hr : ¬ rightR r) => h.feedNo k (i := (x : Int)) (feed_wrong (by rw [e]; exact ref_ok (by rw [dry_len]; exact hx) (by rw [dry_at hx]; rfl)) hr) (by decide)
  have HF1 : Hid (∀ (wr W : World) b gs gn, Tl W0 wr b gs gn 1 (dry1 n n x .wait) → Kept wr W → rightR r → _) := fun wr W b gs gn (h : Tl W0 wr b gs gn 1 (dry1 n n x .wait)) (k : Kept wr W) (hr : rightR r) => h.feedOk k (i := (x : Int)) (n := x) rfl (by rw [dry_len]; exact hx) (by rw [dry_at hx]; rfl) hr
  rw [dry_set] at HF1
  have HF2 : Hid (∀ (wr W : World) b gs gn s, Tl W0 wr b gs gn 1 (dry1 n n x s) → s.wt = false → Kept wr W → _) := fun wr W b gs gn s (h : Tl W0 wr b gs gn 1 (dry1 n n x s)) hs (k : Kept wr W) => h.feedNo k (i := (x : Int)) (r := r) (feed_fed (ref_fed (by rw [dry_len]; exact hx) (by rw [dry_at hx]; exact hs)) (by decide)) (by decide)
  have HF3 : Hid (∀ (wr W : World) b gs gn, Tl W0 wr b gs gn 1 (dry1 n n x .fin) → Kept wr W → _) := fun wr W b gs gn (h : Tl W0 wr b gs gn 1 (dry1 n n x .fin)) (k : Kept wr W) => h.feedNo k (i := -1) (r := r) (feed_fed (ref_out (.inl (by decide))) (by decide)) (by decide)
  have HB : Hid (∀ (wr : World) b gs gn S, Tl W0 wr b gs gn 1 S → _) := fun wr b gs gn S (h : Tl W0 wr b gs gn 1 S) => (row_obj (h.box HBX.out)).1
  have HBL : Hid (∀ (wr : World) b gs gn S, Tl W0 wr b gs gn 1 S → w.heap.size < wr.heap.size) := fun wr b gs gn S h => lt_of_heap (h.box HBX.out)
  have HWF : Hid _ := win_fed hx r
  obtain ⟨kind, time, seq, index, frm, til, body⟩ := r
  unfold rowV at *
  simp only at *
  go_enter Try.func7, Try.ntmps7
  go_wp2_with fail
  rw [← eW0]
  clear eW0
  refine Calls.mono (HA.out _) ?_
  rintro e w1 ⟨rfl, k1⟩
  have HN : Hid _ := Tl.new (order := 1) (.inl rfl) hn1 hn2 k1
  clear k1
  go_wp2_with fail
  refine Calls.mono HN.out ?_
  rintro e w2 ⟨b, gs, gn, rfl, t2⟩
  have T2 : Hid (Tl W0 w2 b gs gn 1 (dry1 n 0 x .wait)) := by
    show Tl W0 w2 b gs gn 1 (dry1 n 0 x .wait)
    rw [gen_wait] at t2
    rw [dry1, gen_ext _ (fun _ => .wait) fun j _ => by simp]
    exact t2
  clear t2 HN HA
  go_wp2_with fail
  go_loopw [9] (fun i wr => ∃ (q : Nat), q ≤ n ∧ i = .int .i64 (q : Int) ∧ Tl W0 wr b gs gn 1 (dry1 n q x .wait)) (fun i _ => n - (intOf i).toNat)
  case atStart => exact ⟨0, Nat.zero_le _, rfl, T2.out⟩
  case round =>
    clear T2
    obtain ⟨q, hq, rfl, tl⟩ := hrel
    have TL : Hid _ := tl
    by_cases hlt : q < n
    · have e1 : decide ((q : Int) < (n : Int)) = true := decide_eq_true (by omega)
      have e1' : (q : Int) < (n : Int) := by omega
      have hlt2 : Hid _ := hlt
      by_cases hqx : q = x
      · subst hqx
        have HST : Hid (dry1 n q q .wait = dry1 n (q + 1) q .wait) := gen_ext _ _ fun j _ => by
          by_cases e : j = q
          · rw [if_pos e, if_pos e]
          · rw [if_neg e, if_neg e]
            by_cases e2 : j < q
            · rw [if_pos e2, if_pos (by omega)]
            · rw [if_neg e2, if_neg (by omega)]
        clear tl
        go_wp2_with fail
        go_roundw
        case rel => exact ⟨q + 1, hlt2.out, by rw [Int.natCast_add]; rfl, by rw [← HST.out]; exact TL.out⟩
        case measure => simp only [intOf]; omega
      · have d5 : ((q : Int) != (x : Int)) = true := by simp; omega
        have d5' : ((q : Int) == (x : Int)) = false := by simp; omega
        have HF : Hid _ := tl.finOk (Same.refl _ _) (n := q) (by rw [dry_len]; exact hlt) (by rw [dry_ne hlt hqx, if_neg (by omega)]; rfl)
        rw [show (dry1 n q x .wait).set q .fin = dry1 n (q + 1) x .wait from gen_set _ _ _ (by rw [if_neg hqx, if_pos (by omega)]) fun j _ hj => by
          by_cases e : j = x
          · rw [if_pos e, if_pos e]
          · rw [if_neg e, if_neg e]
            by_cases e2 : j < q
            · rw [if_pos e2, if_pos (by omega)]
            · rw [if_neg e2, if_neg (by omega)]] at HF
        have hqx2 : Hid _ := hqx
        clear tl hqx
        go_wp2_with fail
        refine Calls.mono HF.out ?_
        rintro e w3 ⟨rfl, t3, -⟩
        have T3 : Hid _ := t3
        clear t3 HF
        go_wp2_with fail
        go_roundw
        case rel => exact ⟨q + 1, hlt2.out, by rw [Int.natCast_add]; rfl, T3.out⟩
        case measure => simp only [intOf]; omega
    · obtain rfl : n = q := by omega
      have e1 : decide ((n : Int) < (n : Int)) = false := by simp
      have HW : Hid _ := tl.win (Same.refl _ _) (WinR.wait (dry_wait hx))
      rw [show rowV r0 = .agg #[.int .i64 0, .int .i64 0, .int .i64 0, .int .i64 0, .int .i64 0, .int .i64 0, .string ⟨#[]⟩] from rfl] at HW
      clear tl TL
      go_wp2_with fail
      refine Calls.mono HW.out ?_
      rintro e w3 ⟨rfl, t3, -⟩
      have T3 : Hid _ := t3
      obtain ⟨y0, y1, y2, y3, y4, y5, y6⟩ := HB.out _ _ _ _ _ t3
      have hl3 := HBL.out _ _ _ _ _ t3
      clear t3 HW
      by_cases hr : rightR ⟨kind, time, seq, index, frm, til, body⟩
      · rw [decide_eq_true hr] at HV
        go_wp2_with fail
        refine Calls.mono (HF1.out _ _ _ _ _ T3.out ((Same.refl _ _).alloc _) hr) ?_
        rintro e w4 ⟨rfl, t4, -⟩
        have T4 : Hid _ := t4
        clear y0 y1 y2 y3 y4 y5 y6
        obtain ⟨y0, y1, y2, y3, y4, y5, y6⟩ := HB.out _ _ _ _ _ t4
        have hl4 := HBL.out _ _ _ _ _ t4
        clear t4 T3
        go_wp2_with fail
        refine Calls.mono (HP.out _) ?_
        rintro e w5 ⟨rfl, k5⟩
        have K5 : Hid _ := k5
        clear k5
        go_wp2_with fail
        refine Calls.mono (HV.out _) ?_
        rintro e w6 ⟨rfl, k6⟩
        have t6 := T4.out.on (K5.out.trans' k6)
        have T6 : Hid _ := t6
        clear y0 y1 y2 y3 y4 y5 y6
        obtain ⟨y0, y1, y2, y3, y4, y5, y6⟩ := HB.out _ _ _ _ _ t6
        have hl6 := HBL.out _ _ _ _ _ t6
        clear t6 k6 T4 K5 HV
        go_wp2_with fail
        refine Calls.mono (HF2.out _ _ _ _ _ _ T6.out rfl (Same.refl _ _)) ?_
        rintro e w7 ⟨rfl, t7, -⟩
        have HW2 : Hid _ := t7.win (Same.refl _ _) HWF.out
        unfold rowV at HW2
        clear y0 y1 y2 y3 y4 y5 y6 t7 T6
        go_wp2_with fail
        refine Calls.mono HW2.out ?_
        rintro e w8 ⟨rfl, t8, -⟩
        have T8 : Hid _ := t8
        obtain ⟨y0, y1, y2, y3, y4, y5, y6⟩ := HB.out _ _ _ _ _ t8
        have hl8 := HBL.out _ _ _ _ _ t8
        have HWT : Hid (∀ W, Kept w8 W → _) := fun W (k : Kept w8 W) => t8.waits k
        rw [wtl_dry hx] at HWT
        clear t8 HW2
        go_wp2_with fail
        refine Calls.mono (HWT.out _ ((Same.refl _ _).alloc _)) ?_
        rintro e w9 ⟨v, rfl, o9, k9⟩
        obtain ⟨a9, c9, rfl, -, -, -⟩ := OwnZ.nums o9
        have HFI : Hid _ := T8.out.finOk k9 (n := x) (by rw [dry_len]; exact hx) (by rw [dry_at hx]; rfl)
        rw [dry_set] at HFI
        clear o9 k9 HWT T8 y0 y1 y2 y3 y4 y5 y6
        simp only [List.length_cons, List.length_nil]
        go_wp2_with fail
        refine Calls.mono HFI.out ?_
        rintro e w10 ⟨rfl, t10, -⟩
        have HW3 : Hid _ := t10.win (Same.refl _ _) (win_dry hx)
        rw [show rowV r0 = .agg #[.int .i64 0, .int .i64 0, .int .i64 0, .int .i64 0, .int .i64 0, .int .i64 0, .string ⟨#[]⟩] from rfl] at HW3
        clear t10 HFI
        go_wp2_with fail
        refine Calls.mono HW3.out ?_
        rintro e w11 ⟨rfl, t11, -⟩
        have T11 : Hid _ := t11
        obtain ⟨y0, y1, y2, y3, y4, y5, y6⟩ := HB.out _ _ _ _ _ t11
        have hl11 := HBL.out _ _ _ _ _ t11
        clear t11 HW3
        go_wp2_with fail
        refine Calls.mono (HF2.out _ _ _ _ _ _ T11.out rfl ((Same.refl _ _).alloc _)) ?_
        rintro e w12 ⟨rfl, t12, -⟩
        have HFN : Hid _ := t12.finNo (Same.refl _ _) (i := (x : Int)) (ref_fed (by rw [dry_len]; exact hx) (by rw [dry_at hx]; rfl)) (by decide)
        clear t12 T11 y0 y1 y2 y3 y4 y5 y6
        go_wp2_with fail
        refine Calls.mono HFN.out ?_
        rintro e w13 ⟨rfl, t13, -⟩
        have HFO : Hid _ := t13.finNo (Same.refl _ _) (i := (n : Int)) (ref_out (.inr (by rw [dry_len]; exact Int.le_refl _))) (by decide)
        clear t13 HFN
        go_wp2_with fail
        refine Calls.mono HFO.out ?_
        rintro e w14 ⟨rfl, t14, -⟩
        have T14 : Hid _ := t14
        obtain ⟨y0, y1, y2, y3, y4, y5, y6⟩ := HB.out _ _ _ _ _ t14
        have hl14 := HBL.out _ _ _ _ _ t14
        clear t14 HFO
        go_wp2_with fail
        refine Calls.mono (HF3.out _ _ _ _ _ T14.out (Same.refl _ _)) ?_
        rintro e w15 ⟨rfl, t15, -⟩
        have K15 : Hid _ := KB.out.trans' t15.kept
        clear t15 T14 y0 y1 y2 y3 y4 y5 y6
        go_wp2_with fail
        go_ret
        exact ⟨rfl, K15.out⟩
      · rw [decide_eq_false hr] at HV
        go_wp2_with fail
        refine Calls.mono (HF0.out _ _ _ _ _ _ _ T3.out rfl ((Same.refl _ _).alloc _) hr) ?_
        rintro e w4 ⟨rfl, t4, -⟩
        have T4 : Hid _ := t4
        clear y0 y1 y2 y3 y4 y5 y6
        obtain ⟨y0, y1, y2, y3, y4, y5, y6⟩ := HB.out _ _ _ _ _ t4
        have hl4 := HBL.out _ _ _ _ _ t4
        clear t4 T3
        go_wp2_with fail
        refine Calls.mono (HP.out _) ?_
        rintro e w5 ⟨rfl, k5⟩
        have K5 : Hid _ := k5
        clear k5
        go_wp2_with fail
        refine Calls.mono (HV.out _) ?_
        rintro e w6 ⟨rfl, k6⟩
        have HWT : Hid _ := T4.out.waits (K5.out.trans' k6)
        rw [wtl_dry hx] at HWT
        have K4 : Hid _ := KB.out.trans' T4.out.kept
        clear k6 T4 K5 HV y0 y1 y2 y3 y4 y5 y6
        go_wp2_with fail
        refine Calls.mono HWT.out ?_
        rintro e w9 ⟨v, rfl, o9, k9⟩
        obtain ⟨a9, c9, rfl, -, -, -⟩ := OwnZ.nums o9
        have K9 : Hid _ := K4.out.trans' k9
        clear o9 k9 HWT
        simp only [List.length_cons, List.length_nil]
        go_wp2_with fail
        go_ret
        exact ⟨rfl, K9.out⟩
end Go.Proofs.Ytbjgjgcncdjhcaa
