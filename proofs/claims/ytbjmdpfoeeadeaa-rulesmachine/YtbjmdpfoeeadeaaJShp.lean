/- What is proved: Shape of the package tells of a transaction, right or not, what the document says, in a list of its own; no condition. -/
import Derived.Test.YtbjmdpfoeeadeaaJVl
namespace Go.Proofs.Ytbjmdpfoeeadeaa.Sw
open Go.RowKit

/-- A violation of a single transaction. -/
def sv (i kd tm fr tt : Int) : Vl := ⟨kd, tm, i, -1, -1, ⟨#[]⟩, false, ⟨#[]⟩, false, ⟨#[]⟩, fr, tt⟩
def sh1 (i : Int) (t : TxM) : List Vl := if t.f2 < t.f3 then [] else [sv i 1 t.f2 t.f2 t.f3]
def sh2 (i : Int) (t : TxM) : List Vl := if t.f5 < t.f4 then [sv i 2 t.f2 t.f4 t.f5] else []
def sh3 (i : Int) (t : TxM) (eps : Int) : List Vl := if t.f2 + eps < t.f4 then [sv i 3 t.f2 t.f4 t.f2] else []
def sh4 (i : Int) (t : TxM) (eps : Int) : List Vl := if t.f5 + eps < t.f3 then [sv i 4 t.f3 t.f3 t.f5] else []
/-- What is told of a right transaction. -/
def shp (i : Int) (t : TxM) (eps : Int) : List Vl := sh1 i t ++ sh2 i t ++ sh3 i t eps ++ sh4 i t eps
theorem sh1_len (i : Int) (t : TxM) : (sh1 i t).length ≤ 1 := by unfold sh1; split <;> simp
theorem sh2_len (i : Int) (t : TxM) : (sh2 i t).length ≤ 1 := by unfold sh2; split <;> simp
theorem sh3_len (i : Int) (t : TxM) (e : Int) : (sh3 i t e).length ≤ 1 := by unfold sh3; split <;> simp
theorem sh4_len (i : Int) (t : TxM) (e : Int) : (sh4 i t e).length ≤ 1 := by unfold sh4; split <;> simp
theorem shp_len (i : Int) (t : TxM) (e : Int) : (shp i t e).length ≤ 4 := by
  have := sh1_len i t
  have := sh2_len i t
  have := sh3_len i t e
  have := sh4_len i t e
  simp only [shp, List.length_append]
  omega
def codS (i : Int) (t : TxM) (eps : Int) : Int := if ¬ (0 ≤ i ∧ i < 4096) then 170 else if ¬ (0 ≤ eps ∧ eps ≤ 1099511627776) then 171 else valid t
def lisS (i : Int) (t : TxM) (eps : Int) : List Vl := if codS i t eps = 0 then shp i t eps else []

/-- One violation more in the list that the closure knows. -/
def TlP (w : World) (lb : Nat) (base : Nat) (v : Value) (xs : List Vl) (e : Ending) (w' : World) : Prop :=
  e = .returned (.tuple #[]) ∧ ∃ v', w'.heap[lb]? = some (.cells #[v'] 26 (0, 0)) ∧ OwnL base w' v' xs ∧ Same (fun k => k = lb ∨ v.ownBlock = some k) w w' ∧ ∀ k, v'.ownBlock = some k → v.ownBlock = some k ∨ w.heap.size ≤ k
theorem set_one {w : World} {b : Nat} {u : Value} {ty : TypeId} (h : w.heap[b]? = some (.cells #[u] ty (0, 0))) (v : Value) : (w.setCell ⟨b, 0, none⟩ v).heap[b]? = some (.cells #[v] ty (0, 0)) := by
  exact (setCell_at h 0 v).trans (by simp)
set_option maxRecDepth 100000 in
set_option maxHeartbeats 1600000 in
theorem tell17 {w : World} {lb ib base : Nat} {i : Int} (kd tm fr tt : Int) {v : Value} {xs : List Vl} (hl : w.heap[lb]? = some (.cells #[v] 26 (0, 0))) (hi : w.heap[ib]? = some (.cells #[.int .i64 i] 3 (0, 0))) (ho : OwnL base w v xs) (hb : base ≤ w.heap.size) (hx : xs.length ≤ 4096) :
    Calls Try.prog 49 #[.int .i64 kd, .int .i64 tm, .int .i64 fr, .int .i64 tt, .pointer (some ⟨lb, 0, none⟩), .pointer (some ⟨ib, 0, none⟩)] w (TlP w lb base v (xs ++ [sv i kd tm fr tt])) := by
  have hl1 := lt_of_heap hl
  have hi1 := lt_of_heap hi
  have nb : ∀ k, v.ownBlock = some k → k ≠ lb ∧ k ≠ ib := fun k hk => by
    obtain ⟨-, cur, hc⟩ := row_block ho hk
    exact ⟨fun e => types_ne (e ▸ hc) hl (by decide), fun e => types_ne (e ▸ hc) hi (by decide)⟩
  obtain ⟨a, cap, ev, -, -, -⟩ := row_shape ho
  have c1 : w.cell? ⟨lb, 0, none⟩ = some v := (cell_of hl 0).trans rfl
  have c1f := frozen_of hl 0
  have c2 : w.cell? ⟨ib, 0, none⟩ = some (.int .i64 i) := (cell_of hi 0).trans rfl
  have HAP : Hid (∀ W, Kept w W → W.heap.size = w.heap.size → ∀ ty, ∃ v' w', (Builtin.append_ #[26, 26] ty #[v, .slice (some ⟨w.heap.size, 0, none⟩) 1 1]).run Try.prog (W.alloc (vlO (sv i kd tm fr tt))) = .ok v' w' ∧ OwnL base w' v' (xs ++ [sv i kd tm fr tt]) ∧ Same (fun k => v.ownBlock = some k) w w' ∧ ∀ k, v'.ownBlock = some k → v.ownBlock = some k ∨ w.heap.size ≤ k) := fun W k hW ty => by
    have hn := heap_new W (vlO (sv i kd tm fr tt))
    rw [hW] at hn
    obtain ⟨v', w', r1, r2, r3, r4⟩ := app_vl (sv i kd tm fr tt) (row_kept ho (k.alloc _) (fun _ _ h => h)) hn hx (by rw [World.size_alloc]; omega) ty
    refine ⟨v', w', r1, r2, (Kept.to (k.alloc _) _).trans' r3, fun k' e => (r4 k' e).imp id fun e => ?_⟩
    rw [World.size_alloc] at e
    omega
  have HC : Hid (∀ W, Same (fun k => v.ownBlock = some k) w W → W.heap[lb]? = some (.cells #[v] 26 (0, 0))) := fun W k => (k.block lb hl1 (fun e => (nb lb e).1 rfl)).trans hl
  subst ev
  have NB : Hid _ := nb
  clear nb ho hl hi
  go_enter Try.func49, Try.ntmps49
  have HAP0 : Hid _ := HAP.out w (Same.refl _ _) rfl
  go_wp2_with (at_builtin; apply Hid.out)
  refine Ch.wpList_app rfl (.tmp 10) (.tmp 17) 26 rfl (.slice a xs.length cap) (.slice (some ⟨w.heap.size, 0, none⟩) 1 1) rfl rfl _ HAP0.out ?_
  rintro v3 w3 ⟨o3, k3, n3⟩
  obtain ⟨a3, cap3, rfl, -, -, -⟩ := row_shape o3
  have hb3 := HC.out w3 k3
  have c3 : w3.cell? ⟨lb, 0, none⟩ = some (.slice a xs.length cap) := (cell_of hb3 0).trans rfl
  have f3 := frozen_of hb3 0
  have hl3 := lt_of_heap hb3
  have O3 : Hid (OwnL base w3 (.slice a3 (xs ++ [sv i kd tm fr tt]).length cap3) (xs ++ [sv i kd tm fr tt])) := o3
  have K3 : Hid (Same (fun k => (Value.slice a xs.length cap).ownBlock = some k) w w3) := k3
  have N3 : Hid (∀ k, (Value.slice a3 (xs ++ [sv i kd tm fr tt]).length cap3).ownBlock = some k → (Value.slice a xs.length cap).ownBlock = some k ∨ w.heap.size ≤ k) := n3
  have HB3 : Hid _ := hb3
  clear o3 k3 n3 hb3
  generalize (xs ++ [sv i kd tm fr tt]).length = m3 at *
  go_wp2_with fail
  go_end0
  refine ⟨rfl, _, set_one HB3.out _, row_kept O3.out (Same.setCell (Same.refl (fun k => k = lb) w3) ⟨lb, 0, none⟩ (.inr rfl) _) (fun k hk e => ?_), (K3.out.mono (fun k _ h => .inr h)).setCell ⟨lb, 0, none⟩ (.inr (.inl rfl)) _, N3.out⟩
  obtain ⟨-, cur, hc⟩ := row_block O3.out hk
  exact types_ne (e ▸ hc) HB3.out (by decide)

set_option maxRecDepth 100000 in
theorem isPlace17 (i : Int) (w : World) : Calls Try.prog 28 #[.int .i64 i] w fun e w' => e = .returned (.bool (decide (0 ≤ i ∧ i < 4096))) ∧ w' = w := by
  by_cases h : 0 ≤ i
  · have h' : decide (0 ≤ i) = true := decide_eq_true h
    have h2 : decide (0 ≤ i ∧ i < 4096) = decide (i < 4096) := by simp [h]
    rw [h2]
    clear h h2
    go_enter Try.func28, Try.ntmps28
    go_wp2_with fail
    go_ret
    exact ⟨rfl, rfl⟩
  · have h' : decide (0 ≤ i) = false := decide_eq_false h
    have h2 : decide (0 ≤ i ∧ i < 4096) = false := by simp [h]
    rw [h2]
    clear h h2
    go_enter Try.func28, Try.ntmps28
    go_wp2_with fail
    go_ret
    exact ⟨rfl, rfl⟩
set_option maxRecDepth 100000 in
theorem sound17 (t : TxM) (a : Option Addr) (n c : Nat) (w : World) : Calls Try.prog 33 #[txV t (.slice a n c)] w fun e w' => e = .returned (.bool (decide (t.f2 < t.f3))) ∧ Kept w w' := by
  unfold txV
  go_enter Try.func33, Try.ntmps33
  go_wp2_with fail
  go_ret
  exact ⟨rfl, (Same.refl _ w).alloc _⟩
abbrev txO (t : TxM) (a : Option Addr) (n c : Nat) : Obj := .cells #[.int .i64 t.f0, .int .i64 t.f1, .int .i64 t.f2, .int .i64 t.f3, .int .i64 t.f4, .int .i64 t.f5, .int .i64 t.f6, .slice a n c] 24 (0, 0)
/-- While shape tells: its boxes, the list so far. -/
structure Sp (w W : World) (i : Int) (t : TxM) (a : Option Addr) (n c : Nat) (xs : List Vl) : Prop where
  bi : W.heap[w.heap.size]? = some (.cells #[.int .i64 i] 3 (0, 0))
  bt : W.heap[w.heap.size + 1]? = some (txO t a n c)
  li : ∃ v, W.heap[w.heap.size + 1 + 1]? = some (.cells #[v] 26 (0, 0)) ∧ OwnL w.heap.size W v xs
  kp : Kept w W
theorem Sp.on {w W W1 : World} {i : Int} {t : TxM} {a : Option Addr} {n c : Nat} {xs : List Vl} (h : Sp w W i t a n c xs) (k : Kept W W1) : Sp w W1 i t a n c xs := by
  obtain ⟨v, l1, l2⟩ := h.li
  exact ⟨(k.block _ (lt_of_heap h.bi) (fun e => e)).trans h.bi, (k.block _ (lt_of_heap h.bt) (fun e => e)).trans h.bt, ⟨v, (k.block _ (lt_of_heap l1) (fun e => e)).trans l1, row_kept l2 k (fun _ _ e => e)⟩, h.kp.trans' k⟩
theorem Sp.tell {w W : World} {i : Int} {t : TxM} {a : Option Addr} {n c : Nat} {xs : List Vl} (h : Sp w W i t a n c xs) (hx : xs.length ≤ 4096) (kd tm fr tt : Int) :
    Calls Try.prog 49 #[.int .i64 kd, .int .i64 tm, .int .i64 fr, .int .i64 tt, .pointer (some ⟨w.heap.size + 1 + 1, 0, none⟩), .pointer (some ⟨w.heap.size, 0, none⟩)] W fun e w' => e = .returned (.tuple #[]) ∧ Sp w w' i t a n c (xs ++ [sv i kd tm fr tt]) := by
  obtain ⟨v, l1, l2⟩ := h.li
  refine (tell17 kd tm fr tt l1 h.bi l2 h.kp.size hx).mono ?_
  rintro e w' ⟨rfl, v', m1, m2, m3, m4⟩
  have nb : ∀ k, v.ownBlock = some k → w.heap.size ≤ k ∧ k ≠ w.heap.size ∧ k ≠ w.heap.size + 1 := fun k hk => by
    obtain ⟨hb, cur, hc⟩ := row_block l2 hk
    exact ⟨hb, fun e => types_ne (e ▸ hc) h.bi (by decide), fun e => types_ne (e ▸ hc) h.bt (by decide)⟩
  refine ⟨rfl, (m3.block _ (lt_of_heap h.bi) ?_).trans h.bi, (m3.block _ (lt_of_heap h.bt) ?_).trans h.bt, ⟨v', m1, m2⟩, h.kp.trans m3 ?_⟩
  · rintro (e | e)
    · omega
    · exact (nb _ e).2.1 rfl
  · rintro (e | e)
    · omega
    · exact (nb _ e).2.2 rfl
  · rintro k hk (e | e)
    · omega
    · have := (nb _ e).1
      omega
theorem Sp.cells {w W : World} {i : Int} {t : TxM} {a : Option Addr} {n c : Nat} {xs : List Vl} (h : Sp w W i t a n c xs) : w.heap.size + 1 < W.heap.size ∧ W.cell? ⟨w.heap.size + 1, 0, none⟩ = some (.int .i64 t.f0) ∧ W.cell? ⟨w.heap.size + 1, 1, none⟩ = some (.int .i64 t.f1) ∧ W.cell? ⟨w.heap.size + 1, 2, none⟩ = some (.int .i64 t.f2) ∧ W.cell? ⟨w.heap.size + 1, 3, none⟩ = some (.int .i64 t.f3) ∧ W.cell? ⟨w.heap.size + 1, 4, none⟩ = some (.int .i64 t.f4) ∧ W.cell? ⟨w.heap.size + 1, 5, none⟩ = some (.int .i64 t.f5) ∧ W.cell? ⟨w.heap.size + 1, 6, none⟩ = some (.int .i64 t.f6) ∧ W.cell? ⟨w.heap.size + 1, 7, none⟩ = some (.slice a n c) := by
  obtain ⟨⟨c0, c1, c2, c3, c4, c5, c6, c7⟩, -⟩ := tx_obj h.bt
  exact ⟨lt_of_heap h.bt, c0, c1, c2, c3, c4, c5, c6, c7⟩
theorem Sp.start (w : World) (i : Int) (t : TxM) (a : Option Addr) (n c : Nat) : Sp w (((w.alloc (.cells #[.int .i64 i] 3 (0, 0))).alloc (txO t a n c)).alloc (.cells #[.slice none 0 0] 26 (0, 0))) i t a n c [] := by
  have h1 := two_new w (.cells #[.int .i64 i] 3 (0, 0)) (txO t a n c)
  have h2 := heap_new ((w.alloc (.cells #[.int .i64 i] 3 (0, 0))).alloc (txO t a n c)) (.cells #[.slice none 0 0] 26 (0, 0))
  rw [World.size_alloc, World.size_alloc] at h2
  exact ⟨(heap_old _ _ (by simp [World.size_alloc]; omega)).trans h1.1, (heap_old _ _ (by simp [World.size_alloc])).trans h1.2, ⟨_, h2, OwnL.nil _ _⟩, (((Same.refl _ w).alloc _).alloc _).alloc _⟩
set_option maxRecDepth 100000 in
set_option maxHeartbeats 3200000 in
theorem shape17 (i : Int) (t : TxM) (eps : Int) (a : Option Addr) (n c : Nat) (w : World) (hr : rightF t) (he : 0 ≤ eps ∧ eps ≤ 1099511627776) :
    Calls Try.prog 30 #[.int .i64 i, txV t (.slice a n c), .int .i64 eps] w fun e w' => ∃ v, e = .returned v ∧ OwnL w.heap.size w' v (shp i t eps) ∧ Kept w w' := by
  obtain ⟨-, -, b2, b3, b4, b5, -⟩ := hr
  unfold inB at b2 b3 b4 b5
  have w1 : IntKind.i64.wrap (t.f2 + eps) = t.f2 + eps := by rw [IntKind.wrap_i64] <;> omega
  have w2 : IntKind.i64.wrap (t.f5 + eps) = t.f5 + eps := by rw [IntKind.wrap_i64] <;> omega
  have HS : Hid (∀ W, _) := fun W => sound17 t a n c W
  have E1 : Hid (t.f2 < t.f3 → sh1 i t = []) := fun h => by unfold sh1; rw [if_pos h]
  have E1' : Hid (¬ t.f2 < t.f3 → sh1 i t = [sv i 1 t.f2 t.f2 t.f3]) := fun h => by unfold sh1; rw [if_neg h]
  have E2 : Hid (t.f5 < t.f4 → sh2 i t = [sv i 2 t.f2 t.f4 t.f5]) := fun h => by unfold sh2; rw [if_pos h]
  have E2' : Hid (¬ t.f5 < t.f4 → sh2 i t = []) := fun h => by unfold sh2; rw [if_neg h]
  have E3 : Hid (t.f2 + eps < t.f4 → sh3 i t eps = [sv i 3 t.f2 t.f4 t.f2]) := fun h => by unfold sh3; rw [if_pos h]
  have E3' : Hid (¬ t.f2 + eps < t.f4 → sh3 i t eps = []) := fun h => by unfold sh3; rw [if_neg h]
  have E4 : Hid (t.f5 + eps < t.f3 → sh4 i t eps = [sv i 4 t.f3 t.f3 t.f5]) := fun h => by unfold sh4; rw [if_pos h]
  have E4' : Hid (¬ t.f5 + eps < t.f3 → sh4 i t eps = []) := fun h => by unfold sh4; rw [if_neg h]
  have L1 := sh1_len i t
  have L2 := sh2_len i t
  have L3 := sh3_len i t eps
  have HW : Hid (∀ P : List Vl → Prop, P (sh1 i t ++ sh2 i t ++ sh3 i t eps ++ sh4 i t eps) → P (shp i t eps)) := fun P h => h
  have LL : Hid (_ ∧ _ ∧ _) := ⟨L1, L2, L3⟩
  generalize shp i t eps = R at *
  generalize sh1 i t = R1 at *
  generalize sh2 i t = R2 at *
  generalize sh3 i t eps = R3 at *
  generalize sh4 i t eps = R4 at *
  clear L1 L2 L3 b2 b3 b4 b5 he
  unfold txV
  go_enter Try.func30, Try.ntmps30
  go_upto_region 3 with fail
  have S0 : Hid (Sp w _ i t a n c []) := Sp.start w i t a n c
  generalize (((w.alloc (.cells #[.int .i64 i] 3 (0, 0))).alloc (txO t a n c)).alloc (.cells #[.slice none 0 0] 26 (0, 0))) = W0 at *
  obtain ⟨hl0, p0, p1, p2, p3, p4, p5, p6, p7⟩ := Sp.cells S0.out
  go_wp2_with fail
  refine Calls.mono (HS.out _) ?_
  rintro e W1 ⟨rfl, k1⟩
  have S1 : Hid (Sp w W1 i t a n c []) := S0.out.on k1
  clear k1 hl0 p0 p1 p2 p3 p4 p5 p6 p7 HS S0
  obtain ⟨hl0, p0, p1, p2, p3, p4, p5, p6, p7⟩ := Sp.cells S1.out
  go_upto_if 12 with fail
  go_cut [20] (fun _ wx => Sp w wx i t a n c R1)
  case first =>
    by_cases h1 : t.f2 < t.f3
    · have d1 : decide (t.f2 < t.f3) = true := decide_eq_true h1
      have d2 : decide (t.f3 ≤ t.f2) = false := decide_eq_false (by omega)
      have h2 : ¬ t.f3 ≤ t.f2 := by omega
      simp only [d1, Bool.not_true]
      go_wp2_with fail
      go_meet
      rw [E1.out (by first | exact h1 | omega)]
      exact S1.out
    · have d1 : decide (t.f2 < t.f3) = false := decide_eq_false h1
      have d2 : decide (t.f3 ≤ t.f2) = true := decide_eq_true (by omega)
      have h2 : t.f3 ≤ t.f2 := by omega
      simp only [d1, Bool.not_false]
      go_wp2_with fail
      refine Calls.mono (S1.out.tell (by simp) 1 t.f2 t.f2 t.f3) ?_
      rintro e W2 ⟨rfl, s2⟩
      have S2 : Hid _ := s2
      clear s2
      go_wp2_with fail
      go_meet
      rw [E1'.out (by first | exact h1 | omega)]
      exact S2.out
  case rest =>
    obtain ⟨hl0, p0, p1, p2, p3, p4, p5, p6, p7⟩ := Sp.cells hcut
    have SA : Hid _ := hcut
    clear hcut
    go_upto_if 25 with fail
    go_cut [33] (fun _ wx => Sp w wx i t a n c (R1 ++ R2))
    case first =>
      by_cases h1 : t.f5 < t.f4
      · have d1 : decide (t.f5 < t.f4) = true := decide_eq_true h1
        go_wp2_with fail
        refine Calls.mono (Sp.tell SA.out (by have := LL.out; (try simp only [List.length_append]); omega) 2 t.f2 t.f4 t.f5) ?_
        rintro e W2 ⟨rfl, s2⟩
        have S2 : Hid _ := s2
        clear s2
        go_wp2_with fail
        go_meet
        rw [E2.out (by first | exact h1 | omega)]
        exact S2.out
      · have d1 : decide (t.f5 < t.f4) = false := decide_eq_false h1
        go_wp2_with fail
        go_meet
        rw [E2'.out (by first | exact h1 | omega), List.append_nil]
        exact SA.out
    case rest =>
      obtain ⟨hl0, p0, p1, p2, p3, p4, p5, p6, p7⟩ := Sp.cells hcut
      have SA : Hid _ := hcut
      clear hcut
      go_upto_if 40 with fail
      go_cut [48] (fun _ wx => Sp w wx i t a n c (R1 ++ R2 ++ R3))
      case first =>
        by_cases h1 : t.f2 + eps < t.f4
        · have d1 : decide (t.f2 + eps < t.f4) = true := decide_eq_true h1
          go_wp2_with fail
          refine Calls.mono (Sp.tell SA.out (by have := LL.out; (try simp only [List.length_append]); omega) 3 t.f2 t.f4 t.f2) ?_
          rintro e W2 ⟨rfl, s2⟩
          have S2 : Hid _ := s2
          clear s2
          go_wp2_with fail
          go_meet
          rw [E3.out (by first | exact h1 | omega)]
          exact S2.out
        · have d1 : decide (t.f2 + eps < t.f4) = false := decide_eq_false h1
          go_wp2_with fail
          go_meet
          rw [E3'.out (by first | exact h1 | omega), List.append_nil]
          exact SA.out
      case rest =>
        obtain ⟨hl0, p0, p1, p2, p3, p4, p5, p6, p7⟩ := Sp.cells hcut
        have SA : Hid _ := hcut
        clear hcut
        go_upto_if 55 with fail
        go_cut [63] (fun _ wx => Sp w wx i t a n c (R1 ++ R2 ++ R3 ++ R4))
        case first =>
          by_cases h1 : t.f5 + eps < t.f3
          · have d1 : decide (t.f5 + eps < t.f3) = true := decide_eq_true h1
            go_wp2_with fail
            refine Calls.mono (Sp.tell SA.out (by have := LL.out; (try simp only [List.length_append]); omega) 4 t.f3 t.f3 t.f5) ?_
            rintro e W2 ⟨rfl, s2⟩
            have S2 : Hid _ := s2
            clear s2
            go_wp2_with fail
            go_meet
            rw [E4.out (by first | exact h1 | omega)]
            exact S2.out
          · have d1 : decide (t.f5 + eps < t.f3) = false := decide_eq_false h1
            go_wp2_with fail
            go_meet
            rw [E4'.out (by first | exact h1 | omega), List.append_nil]
            exact SA.out
        case rest =>
          obtain ⟨v, l1, l2⟩ := Sp.li hcut
          have c1 : wc.cell? ⟨w.heap.size + 1 + 1, 0, none⟩ = some v := (cell_of l1 0).trans rfl
          have hl9 := lt_of_heap l1
          have L2 : Hid _ := l2
          have KP : Hid _ := hcut.kp
          obtain ⟨av, m, cv, ev⟩ : ∃ av m cv, v = .slice av m cv := by
            obtain ⟨av, cv, ev, -⟩ := row_shape l2
            exact ⟨_, _, _, ev⟩
          subst ev
          clear l1 l2 hcut
          go_wp2_with fail
          go_ret
          exact ⟨_, rfl, HW.out (fun R => OwnL w.heap.size wc _ R) L2.out, KP.out⟩

theorem codS_zero {i : Int} {t : TxM} {eps : Int} (h : codS i t eps = 0) : (0 ≤ i ∧ i < 4096) ∧ (0 ≤ eps ∧ eps ≤ 1099511627776) ∧ Right t := by
  unfold codS at h
  split at h
  · omega
  · split at h
    · omega
    · rename_i h1 h2
      exact ⟨by omega, by omega, valid_zero.1 h⟩
set_option maxRecDepth 100000 in
set_option maxHeartbeats 3200000 in
theorem Shape17 (i : Int) (t : TxM) (eps : Int) (a : Option Addr) (c : Nat) (w : World) (ht : ∀ W, Kept w W → TxA W t (txV t (.slice a t.ops.length c))) :
    Calls Try.prog 10 #[.int .i64 i, txV t (.slice a t.ops.length c), .int .i64 eps] w fun e w' => ∃ v, e = .returned (.tuple #[v, .int .i64 (codS i t eps)]) ∧ OwnL w.heap.size w' v (lisS i t eps) ∧ Kept w w' := by
  have HP : Hid (∀ W, _) := fun W => isPlace17 i W
  have HV : Hid (∀ W, Kept w W → _) := fun W k => valid_any W t _ (ht W k)
  have HS : Hid (rightF t → (0 ≤ eps ∧ eps ≤ 1099511627776) → ∀ W, _) := fun h1 h2 W => shape17 i t eps a t.ops.length c W h1 h2
  have EZ : Hid (∀ z : Int, z ≠ 0 → codS i t eps = z → lisS i t eps = []) := fun z hz h => by unfold lisS; rw [if_neg (by omega)]
  have EO : Hid (codS i t eps = 0 → lisS i t eps = shp i t eps) := fun h => by unfold lisS; rw [if_pos h]
  generalize hn : t.ops.length = n at *
  by_cases hi : 0 ≤ i ∧ i < 4096
  · have di : decide (0 ≤ i ∧ i < 4096) = true := decide_eq_true hi
    rw [di] at HP
    clear di
    by_cases he1 : eps < 0
    · have ec : codS i t eps = 171 := by unfold codS; rw [if_neg (by omega), if_pos (by omega)]
      rw [EZ.out 171 (by decide) ec, ec]
      have d1 : decide (eps < 0) = true := decide_eq_true he1
      clear HV HS EZ EO hi ec hn
      unfold txV
      go_enter Try.func10, Try.ntmps10
      go_wp2_with fail
      refine Calls.mono (HP.out _) ?_
      rintro e W1 ⟨rfl, ew⟩
      subst W1
      go_wp2_with fail
      go_ret2
      exact ⟨_, rfl, OwnL.nil _ _, (Same.refl _ w).alloc _⟩
    have d1 : decide (eps < 0) = false := decide_eq_false he1
    by_cases he2 : 1099511627776 < eps
    · have ec : codS i t eps = 171 := by unfold codS; rw [if_neg (by omega), if_pos (by omega)]
      rw [EZ.out 171 (by decide) ec, ec]
      have d2 : decide (1099511627776 < eps) = true := decide_eq_true he2
      clear HV HS EZ EO hi ec hn
      unfold txV
      go_enter Try.func10, Try.ntmps10
      go_wp2_with fail
      refine Calls.mono (HP.out _) ?_
      rintro e W1 ⟨rfl, ew⟩
      subst W1
      go_wp2_with fail
      go_ret2
      exact ⟨_, rfl, OwnL.nil _ _, (Same.refl _ w).alloc _⟩
    have d2 : decide (1099511627776 < eps) = false := decide_eq_false he2
    have ec : codS i t eps = valid t := by unfold codS; rw [if_neg (by omega), if_neg (by omega)]
    by_cases hv : valid t = 0
    · have dv : (valid t != 0) = false := by simp [hv]
      rw [EO.out (ec.trans hv), ec, hv]
      rw [hv] at HV
      have HS' : Hid (∀ W, _) := HS.out (valid_zero.1 hv).1 ⟨by omega, by omega⟩
      clear HS EZ EO hi ec hn hv dv
      unfold txV at HV HS' ⊢
      go_enter Try.func10, Try.ntmps10
      go_wp2_with fail
      refine Calls.mono (HP.out _) ?_
      rintro e W1 ⟨rfl, ew⟩
      subst W1
      go_wp2_with fail
      refine Calls.mono (HV.out _ ((Same.refl _ w).alloc _)) ?_
      rintro e W1 ⟨rfl, k1⟩
      have hb : W1.heap[w.heap.size]? = some (txO t a n c) := (k1.block _ (by simp [World.size_alloc]) (fun e => e)).trans (heap_new _ _)
      have K1 : Hid (Kept w W1) := ((Same.refl _ w).alloc _).trans' k1
      obtain ⟨⟨p0, p1, p2, p3, p4, p5, p6, p7⟩, -⟩ := tx_obj hb
      have hl := lt_of_heap hb
      clear hb k1
      go_wp2_with fail
      refine Calls.mono (HS'.out _) ?_
      rintro e W2 ⟨v, rfl, o2, k2⟩
      have O2 : Hid (OwnL w.heap.size W2 v (shp i t eps)) := row_base o2 K1.out.size
      have K2 : Hid (Kept w W2) := K1.out.trans' k2
      obtain ⟨av, m, cv, ev⟩ : ∃ av m cv, v = .slice av m cv := by
        obtain ⟨av, cv, ev, -⟩ := row_shape o2
        exact ⟨_, _, _, ev⟩
      subst ev
      clear o2 k2
      go_wp2_with fail
      go_ret2
      exact ⟨_, rfl, O2.out, K2.out⟩
    · have dv : (valid t != 0) = true := by simpa using hv
      rw [EZ.out _ hv ec, ec]
      clear HS EZ EO hi ec hn
      generalize valid t = cv at *
      unfold txV at HV ⊢
      go_enter Try.func10, Try.ntmps10
      go_wp2_with fail
      refine Calls.mono (HP.out _) ?_
      rintro e W1 ⟨rfl, ew⟩
      subst W1
      go_wp2_with fail
      refine Calls.mono (HV.out _ ((Same.refl _ w).alloc _)) ?_
      rintro e W1 ⟨rfl, k1⟩
      have K1 : Hid (Kept w W1) := ((Same.refl _ w).alloc _).trans' k1
      clear k1
      go_wp2_with fail
      go_ret2
      exact ⟨_, rfl, OwnL.nil _ _, K1.out⟩
  · have di : decide (0 ≤ i ∧ i < 4096) = false := decide_eq_false hi
    rw [di] at HP
    have ec : codS i t eps = 170 := by unfold codS; rw [if_pos hi]
    rw [EZ.out 170 (by decide) ec, ec]
    clear HV HS EZ EO hi ec hn di
    unfold txV
    go_enter Try.func10, Try.ntmps10
    go_wp2_with fail
    refine Calls.mono (HP.out _) ?_
    rintro e W1 ⟨rfl, ew⟩
    subst W1
    go_wp2_with fail
    go_ret2
    exact ⟨_, rfl, OwnL.nil _ _, (Same.refl _ w).alloc _⟩
end Go.Proofs.Ytbjmdpfoeeadeaa.Sw
