/- What is proved: a buffer in memory, and what New, Add, Take, Bytes, Len and Peak answer and leave; the buffer is one that New made. -/
import Derived.Test.YtcbllejjiokmbaaNOrd
namespace Go.Proofs.Ytcbllejjiokmbaa
open Go.RowKit

/-- How many bytes the rows have together. -/
def szs : List RwM → Nat
  | [] => 0
  | r :: l => (bytesR r).length + szs l
theorem szs_append (a b : List RwM) : szs (a ++ b) = szs a + szs b := by
  induction a with
  | nil => simp [szs]
  | cons r a ih => simp only [List.cons_append, szs, ih]; omega
theorem szs_one (r : RwM) : szs [r] = (bytesR r).length := by simp [szs]
theorem szs_len {l : List RwM} (h : ∀ r ∈ l, rightR r) : l.length * 7 ≤ szs l := by
  induction l with
  | nil => simp [szs]
  | cons r l ih =>
    have h1 := (bytesR_len (h r (by simp))).1
    have h2 := ih fun x hx => h x (by simp [hx])
    simp only [List.length_cons, szs]
    omega
/-- A buffer in block b, whose rows xs lie in the list v. -/
structure Bf (base : Nat) (w : World) (b : Nat) (order : Int) (bud : Nat) (v : Value) (xs : List RwM) (pk : Nat) : Prop where
  obj : w.heap[b]? = some (.cells #[.int .i64 order, .int .i64 (bud : Int), v, .int .i64 ((szs xs : Nat) : Int), .int .i64 (pk : Int)] 83 (0, 0))
  own : OwnR base w v xs
  low : base ≤ b
  right : ∀ r ∈ xs, rightR r
  fits : szs xs ≤ bud
  most : bud ≤ 16777216
theorem Bf.cells {base : Nat} {w : World} {b : Nat} {order : Int} {bud : Nat} {v : Value} {xs : List RwM} {pk : Nat} (h : Bf base w b order bud v xs pk) :
    (w.cell? ⟨b, 0, none⟩ = some (.int .i64 order) ∧ w.cell? ⟨b, 1, none⟩ = some (.int .i64 (bud : Int)) ∧ w.cell? ⟨b, 2, none⟩ = some v ∧ w.cell? ⟨b, 3, none⟩ = some (.int .i64 ((szs xs : Nat) : Int)) ∧ w.cell? ⟨b, 4, none⟩ = some (.int .i64 (pk : Int))) ∧ w.frozen? ⟨b, 2, none⟩ = false ∧ w.frozen? ⟨b, 3, none⟩ = false ∧ w.frozen? ⟨b, 4, none⟩ = false ∧ b < w.heap.size :=
  ⟨⟨(cell_of h.obj 0).trans rfl, (cell_of h.obj 1).trans rfl, (cell_of h.obj 2).trans rfl, (cell_of h.obj 3).trans rfl, (cell_of h.obj 4).trans rfl⟩, frozen_of h.obj 2, frozen_of h.obj 3, frozen_of h.obj 4, lt_of_heap h.obj⟩
theorem Bf.ne {base : Nat} {w : World} {b : Nat} {order : Int} {bud : Nat} {v : Value} {xs : List RwM} {pk : Nat} (h : Bf base w b order bud v xs pk) {k : Nat} (hk : v.ownBlock = some k) : k ≠ b := by
  rintro rfl
  rcases h.own.2 with ⟨rfl, _⟩ | ⟨g, cap, cur, rfl, hb, hg, h1, h2, h3, h4⟩
  · simp [Value.ownBlock] at hk
  · simp [Value.ownBlock] at hk
    subst hk
    have := hg.symm.trans h.obj
    simp at this
theorem Bf.onS {S : Nat → Prop} {base : Nat} {w w' : World} {b : Nat} {order : Int} {bud : Nat} {v : Value} {xs : List RwM} {pk : Nat} (h : Bf base w b order bud v xs pk) (k : Same S w w') (h1 : ¬ S b) (h2 : ∀ g, v.ownBlock = some g → ¬ S g) : Bf base w' b order bud v xs pk :=
  ⟨(k.block _ (lt_of_heap h.obj) h1).trans h.obj, OwnR.kept h.own k h2, h.low, h.right, h.fits, h.most⟩
theorem Bf.on {base : Nat} {w w' : World} {b : Nat} {order : Int} {bud : Nat} {v : Value} {xs : List RwM} {pk : Nat} (h : Bf base w b order bud v xs pk) (k : Kept w w') : Bf base w' b order bud v xs pk := h.onS k (fun e => e) (fun _ _ e => e)
theorem Bf.len {base : Nat} {w : World} {b : Nat} {order : Int} {bud : Nat} {v : Value} {xs : List RwM} {pk : Nat} (h : Bf base w b order bud v xs pk) : xs.length ≤ 2396745 := by
  have h1 := szs_len h.right
  have h2 := h.fits
  have h3 := h.most
  omega
set_option maxRecDepth 100000 in
theorem known10 (order : Int) (w : World) : Calls Try.prog 44 #[.int .i64 order] w fun e w' => e = .returned (.bool (decide (order = 1 ∨ order = 2))) ∧ Kept w w' := by
  by_cases h1 : order = 1
  · subst h1
    go_enter Try.func44, Try.ntmps44
    go_wp2_with fail
    go_ret
    exact ⟨rfl, Same.refl _ _⟩
  · by_cases h2 : order = 2
    · subst h2
      go_enter Try.func44, Try.ntmps44
      go_wp2_with fail
      go_ret
      exact ⟨rfl, Same.refl _ _⟩
    · have e : Hid (decide (order = 1 ∨ order = 2) = false) := decide_eq_false (by omega)
      have d1 : (order == 1) = false := by simpa using h1
      have d2 : (order == 2) = false := by simpa using h2
      rw [e.out]
      clear h1 h2
      go_enter Try.func44, Try.ntmps44
      go_wp2_with fail
      go_ret
      exact ⟨rfl, Same.refl _ _⟩
set_option maxRecDepth 100000 in
theorem new10_order {order : Int} (ho : ¬ (order = 1 ∨ order = 2)) (bud : Int) (w : World) : Calls Try.prog 15 #[.int .i64 order, .int .i64 bud] w fun e w' => e = .returned (.tuple #[.pointer none, .int .i64 91]) ∧ Kept w w' := by
  have HK : Hid _ := known10 order w
  rw [decide_eq_false ho] at HK
  clear ho
  go_enter Try.func15, Try.ntmps15
  go_wp2_with fail
  refine Calls.mono HK.out ?_
  rintro e w1 ⟨rfl, k1⟩
  have K1 : Hid _ := k1
  clear k1
  go_wp2_with fail
  go_ret2
  exact ⟨rfl, K1.out⟩
set_option maxRecDepth 100000 in
theorem new10_bud {order : Int} (ho : order = 1 ∨ order = 2) {bud : Int} (hb : bud < 1 ∨ 16777216 < bud) (w : World) : Calls Try.prog 15 #[.int .i64 order, .int .i64 bud] w fun e w' => e = .returned (.tuple #[.pointer none, .int .i64 100]) ∧ Kept w w' := by
  have HK : Hid _ := known10 order w
  rw [decide_eq_true ho] at HK
  clear ho
  have HB : Hid _ := hb
  clear hb
  go_enter Try.func15, Try.ntmps15
  go_wp2_with fail
  refine Calls.mono HK.out ?_
  rintro e w1 ⟨rfl, k1⟩
  have K1 : Hid _ := k1
  clear k1
  by_cases h1 : bud < 1
  · have d1 : decide (bud < 1) = true := decide_eq_true h1
    go_wp2_with fail
    go_ret2
    exact ⟨rfl, K1.out⟩
  · have d1 : decide (bud < 1) = false := decide_eq_false h1
    have h2 : 16777216 < bud := by have := HB.out; omega
    have d2 : decide (16777216 < bud) = true := decide_eq_true h2
    go_wp2_with fail
    go_ret2
    exact ⟨rfl, K1.out⟩
set_option maxRecDepth 100000 in
theorem new10_ok {order : Int} (ho : order = 1 ∨ order = 2) {bud : Nat} (h1 : 1 ≤ bud) (h2 : bud ≤ 16777216) (w : World) : Calls Try.prog 15 #[.int .i64 order, .int .i64 (bud : Int)] w fun e w' => ∃ b, e = .returned (.tuple #[.pointer (some ⟨b, 0, none⟩), .int .i64 0]) ∧ Bf w.heap.size w' b order bud (.slice none 0 0) [] 0 ∧ Kept w w' := by
  have HK : Hid _ := known10 order w
  rw [decide_eq_true ho] at HK
  clear ho
  have d1 : decide ((bud : Int) < 1) = false := decide_eq_false (by omega)
  have d2 : decide ((16777216 : Int) < (bud : Int)) = false := decide_eq_false (by omega)
  have d1' : ¬ (bud : Int) < 1 := by omega
  have d2' : ¬ (16777216 : Int) < (bud : Int) := by omega
  have HM : Hid _ := h2
  go_enter Try.func15, Try.ntmps15
  go_wp2_with fail
  refine Calls.mono HK.out ?_
  rintro e w1 ⟨rfl, k1⟩
  have K1 : Hid _ := k1
  clear k1 h1 h2
  go_wp2_with fail
  go_ret2
  exact ⟨_, rfl, ⟨heap_new _ _, OwnR.nil _ _, K1.out.size, fun r hr => by simp at hr, Nat.zero_le _, HM.out⟩, K1.out.alloc _⟩
theorem valid_f (k t s i f u : Int) (y : ByteArray) (w : World) : Calls Try.prog 10 #[.agg #[.int .i64 k, .int .i64 t, .int .i64 s, .int .i64 i, .int .i64 f, .int .i64 u, .string y]] w fun e w' => e = .returned (.bool (decide (rightR ⟨k, t, s, i, f, u, y⟩))) ∧ Kept w w' := valid9_any ⟨k, t, s, i, f, u, y⟩ w
/-- What Add answers. -/
def addC (bud : Nat) (xs : List RwM) (r : RwM) : Int := if ¬ rightR r then 90 else if bud < (bytesR r).length then 101 else if bud < szs xs + (bytesR r).length then 102 else 0
set_option maxRecDepth 100000 in
set_option maxHeartbeats 1600000 in
theorem add10_no {base : Nat} {w : World} {b : Nat} {order : Int} {bud : Nat} {v : Value} {xs : List RwM} {pk : Nat} (h : Bf base w b order bud v xs pk) (r : RwM) (hc : addC bud xs r ≠ 0) :
    Calls Try.prog 17 #[.pointer (some ⟨b, 0, none⟩), rowV r] w fun e w' => e = .returned (.int .i64 (addC bud xs r)) ∧ Kept w w' := by
  have HH : Hid _ := h
  have HS : Hid (∀ W, rightR r → _) := fun W hr => size9_ok W r hr
  have HV : Hid (∀ W, _) := fun W => valid9_any r W
  have HF : Hid _ := h.fits
  have HM : Hid _ := h.most
  have hbx := heap_new w (.cells #[.int .i64 r.kind, .int .i64 r.time, .int .i64 r.seq, .int .i64 r.index, .int .i64 r.frm, .int .i64 r.til, .string r.body] 26)
  have HBX : Hid _ := hbx
  have KB : Hid (Kept w (w.alloc (.cells #[.int .i64 r.kind, .int .i64 r.time, .int .i64 r.seq, .int .i64 r.index, .int .i64 r.frm, .int .i64 r.til, .string r.body] 26))) := (Same.refl _ w).alloc _
  unfold addC at hc ⊢
  by_cases hr : rightR r
  · rw [decide_eq_true hr] at HV
    rw [if_neg (fun e => e hr)] at hc ⊢
    obtain ⟨z, ez⟩ : ∃ z, z = (bytesR r).length := ⟨_, rfl⟩
    rw [← ez] at hc ⊢
    have HZ : Hid (∀ W, _) := fun W => HS.out W hr
    rw [← ez] at HZ
    have hz2 := (bytesR_len hr).2
    rw [← ez] at hz2
    have hfit := h.fits
    have hmost := h.most
    have hz3 : (z : Int) ≤ 561 := by omega
    have hs3 : ((szs xs : Nat) : Int) ≤ 16777216 := by omega
    clear hbx HS h ez hr
    obtain ⟨kind, time, seq, index, frm, til, body⟩ := r
    unfold rowV at *
    simp only at *
    obtain ⟨cd, ecd⟩ : ∃ cd, cd = (if bud < z then (101 : Int) else if bud < szs xs + z then 102 else 0) := ⟨_, rfl⟩
    rw [← ecd] at hc ⊢
    have ECD : Hid _ := ecd
    have HC : Hid _ := hc
    clear ecd hc
    go_enter Try.func17, Try.ntmps17
    go_wp2_with fail
    refine Calls.mono (HV.out _) ?_
    rintro e w1 ⟨rfl, k1⟩
    have K1 : Hid _ := KB.out.trans' k1
    have hb1 := (k1.block _ (lt_of_heap HBX.out) (fun e => e)).trans HBX.out
    have HB1 : Hid _ := hb1
    obtain ⟨⟨y0, y1, y2, y3, y4, y5, y6⟩, -⟩ := row_obj hb1
    clear k1 hb1 HBX KB
    go_wp2_with fail
    refine Calls.mono (HZ.out _) ?_
    rintro e w2 ⟨rfl, k2⟩
    have K2 : Hid _ := K1.out.trans' k2
    clear k2 y0 y1 y2 y3 y4 y5 y6 HZ HV
    obtain ⟨⟨c0, c1, c2, c3, c4⟩, -, -, -, hbl⟩ := (HH.out.on K2.out).cells
    by_cases hg : bud < z
    · have d1 : decide ((bud : Int) < (z : Int)) = true := decide_eq_true (by omega)
      have d1' : (bud : Int) < (z : Int) := by omega
      have E : Hid (cd = 101) := ECD.out.trans (if_pos hg)
      go_wp2_with fail
      go_ret
      exact ⟨congrArg (fun z => Ending.returned (Value.int IntKind.i64 z)) E.out.symm, K2.out⟩
    · have d1 : decide ((bud : Int) < (z : Int)) = false := decide_eq_false (by omega)
      have d1' : ¬ (bud : Int) < (z : Int) := by omega
      have hg2 : bud < szs xs + z := by
        have e := ECD.out
        rw [if_neg hg] at e
        by_cases g : bud < szs xs + z
        · exact g
        · rw [if_neg g] at e
          exact absurd e HC.out
      have E : Hid (cd = 102) := by
        have e := ECD.out
        rwa [if_neg hg, if_pos hg2] at e
      have d2 : decide ((bud : Int) < ((szs xs : Nat) : Int) + (z : Int)) = true := decide_eq_true (by omega)
      have d2' : (bud : Int) < ((szs xs : Nat) : Int) + (z : Int) := by omega
      generalize szs xs = sx at *
      go_wp2_with fail
      go_region
      all_goals
        go_wp2_with fail
        go_ret
        exact ⟨congrArg (fun z => Ending.returned (Value.int IntKind.i64 z)) E.out.symm, by first | exact K2.out | exact K2.out.drew⟩
  · rw [decide_eq_false hr] at HV
    rw [if_pos hr]
    clear hc h hbx HS
    obtain ⟨kind, time, seq, index, frm, til, body⟩ := r
    unfold rowV at *
    simp only at *
    clear hr
    go_enter Try.func17, Try.ntmps17
    go_wp2_with fail
    refine Calls.mono (HV.out _) ?_
    rintro e w1 ⟨rfl, k1⟩
    have K1 : Hid _ := KB.out.trans' k1
    clear k1 HBX KB
    go_wp2_with fail
    go_ret
    exact ⟨rfl, K1.out⟩
/-- What a row that is held leaves. -/
theorem Bf.more {base : Nat} {w : World} {b : Nat} {order : Int} {bud : Nat} {v : Value} {xs : List RwM} {pk : Nat} (h : Bf base w b order bud v xs pk) {r : RwM} (hr : rightR r) (hf : szs xs + (bytesR r).length ≤ bud) {W' w3 : World} {v3 : Value} (k : Kept w W') (o3 : OwnR base w3 v3 (xs ++ [r])) (k3 : Same (fun k => v.ownBlock = some k) W' w3) {pk' : Nat} :
    Bf base (((w3.setCell ⟨b, 2, none⟩ v3).setCell ⟨b, 3, none⟩ (.int .i64 ((szs xs + (bytesR r).length : Nat) : Int))).setCell ⟨b, 4, none⟩ (.int .i64 (pk' : Int))) b order bud v3 (xs ++ [r]) pk' ∧
    Same (fun k => k = b ∨ v.ownBlock = some k) w (((w3.setCell ⟨b, 2, none⟩ v3).setCell ⟨b, 3, none⟩ (.int .i64 ((szs xs + (bytesR r).length : Nat) : Int))).setCell ⟨b, 4, none⟩ (.int .i64 (pk' : Int))) := by
  have h2 := h.on k
  have ob3 := (k3.block b (lt_of_heap h2.obj) (fun e => h2.ne e rfl)).trans h2.obj
  have hs : Same (fun k => k = b) w3 (((w3.setCell ⟨b, 2, none⟩ v3).setCell ⟨b, 3, none⟩ (.int .i64 ((szs xs + (bytesR r).length : Nat) : Int))).setCell ⟨b, 4, none⟩ (.int .i64 (pk' : Int))) := (((Same.refl (fun k => k = b) w3).setCell ⟨b, 2, none⟩ (.inr rfl) _).setCell ⟨b, 3, none⟩ (.inr rfl) _).setCell ⟨b, 4, none⟩ (.inr rfl) _
  have hne : ∀ g, v3.ownBlock = some g → g ≠ b := by
    rintro g hg rfl
    rcases o3.2 with ⟨rfl, _⟩ | ⟨g', cap, cur, rfl, hb, hg', _⟩
    · simp [Value.ownBlock] at hg
    · simp [Value.ownBlock] at hg
      subst hg
      have := hg'.symm.trans ob3
      simp at this
  have hz : szs (xs ++ [r]) = szs xs + (bytesR r).length := by rw [szs_append, szs_one]
  refine ⟨⟨?_, OwnR.kept o3 hs (fun g hg e => hne g hg e), h.low, fun x hx => ?_, by rw [hz]; exact hf, h.most⟩, ((k.to _).trans (k3.mono fun i _ e => .inr e) fun i _ e => e).trans hs fun i _ e => .inl e⟩
  · rw [hz]
    exact (setCell_at (setCell_at (setCell_at ob3 _ _) _ _) _ _).trans rfl
  · rcases List.mem_append.1 hx with hx | hx
    · exact h.right x hx
    · rw [List.mem_singleton] at hx
      subst hx
      exact hr
set_option maxRecDepth 100000 in
set_option maxHeartbeats 1600000 in
theorem add10_ok {base : Nat} {w : World} {b : Nat} {order : Int} {bud : Nat} {v : Value} {xs : List RwM} {pk : Nat} (h : Bf base w b order bud v xs pk) {r : RwM} (hr : rightR r) (hf : szs xs + (bytesR r).length ≤ bud) :
    Calls Try.prog 17 #[.pointer (some ⟨b, 0, none⟩), rowV r] w fun e w' => e = .returned (.int .i64 0) ∧ ∃ v', Bf base w' b order bud v' (xs ++ [r]) (max pk (szs xs + (bytesR r).length)) ∧ Same (fun k => k = b ∨ v.ownBlock = some k) w w' ∧ ∀ k, v'.ownBlock = some k → v.ownBlock = some k ∨ w.heap.size ≤ k := by
  have HH : Hid _ := h
  have HS : Hid (∀ W, _) := fun W => size9_ok W r hr
  have HV : Hid (∀ W, _) := fun W => valid9_any r W
  rw [decide_eq_true hr] at HV
  have HBX : Hid _ := heap_new w (.cells #[.int .i64 r.kind, .int .i64 r.time, .int .i64 r.seq, .int .i64 r.index, .int .i64 r.frm, .int .i64 r.til, .string r.body] 26)
  have KB : Hid (Kept w (w.alloc (.cells #[.int .i64 r.kind, .int .i64 r.time, .int .i64 r.seq, .int .i64 r.index, .int .i64 r.frm, .int .i64 r.til, .string r.body] 26))) := (Same.refl _ w).alloc _
  have hz2 := (bytesR_len hr).2
  have hmost := h.most
  have HMO : Hid (∀ (W' w3 : World) (v3 : Value) (pk' : Nat), Kept w W' → OwnR base w3 v3 (xs ++ [r]) → Same (fun k => v.ownBlock = some k) W' w3 → _) := fun W' w3 v3 pk' k o3 k3 => h.more hr hf k o3 k3 (pk' := pk')
  have HAPP : Hid (∀ (W' : World) (bb : Nat), Kept w W' → W'.heap[bb]? = some (Obj.cells #[.int .i64 r.kind, .int .i64 r.time, .int .i64 r.seq, .int .i64 r.index, .int .i64 r.frm, .int .i64 r.til, .string r.body] 26 (0, 0)) → ∀ ty, _) := fun W' bb (k : Kept w W') hc ty => app_row_at r (OwnR.kept h.own k (fun _ _ e => e)) hc (by have := h.len; omega) (Nat.le_trans h.low (Nat.le_of_lt (Nat.lt_of_lt_of_le (lt_of_heap h.obj) k.size))) ty
  obtain ⟨z, ez⟩ : ∃ z, z = (bytesR r).length := ⟨_, rfl⟩
  rw [← ez] at HS hz2 hf HMO ⊢
  generalize hsx : szs xs = sx at *
  have hz3 : (z : Int) ≤ 561 := by omega
  have hs3 : (sx : Int) ≤ 16777216 := by omega
  obtain ⟨pk', epk⟩ : ∃ pk', pk' = max pk (sx + z) := ⟨_, rfl⟩
  rw [← epk]
  have hmx : max (pk : Int) ((sx : Int) + (z : Int)) = (pk' : Int) := by omega
  have d1 : decide ((bud : Int) < (z : Int)) = false := decide_eq_false (by omega)
  have d1' : ¬ (bud : Int) < (z : Int) := by omega
  have d2 : decide ((bud : Int) < (sx : Int) + (z : Int)) = false := decide_eq_false (by omega)
  have d2' : ¬ (bud : Int) < (sx : Int) + (z : Int) := by omega
  have HSX : Hid _ := hsx
  clear h ez epk hr hsx hf
  obtain ⟨kind, time, seq, index, frm, til, body⟩ := r
  unfold rowV at *
  simp only at *
  go_enter Try.func17, Try.ntmps17
  go_wp2_with fail
  refine Calls.mono (HV.out _) ?_
  rintro e w1 ⟨rfl, k1⟩
  have K1 : Hid _ := KB.out.trans' k1
  have hb1 := (k1.block _ (lt_of_heap HBX.out) (fun e => e)).trans HBX.out
  have HB1 : Hid _ := hb1
  obtain ⟨⟨y0, y1, y2, y3, y4, y5, y6⟩, -⟩ := row_obj hb1
  clear k1 hb1 HBX KB
  go_wp2_with fail
  refine Calls.mono (HS.out _) ?_
  rintro e w2 ⟨rfl, k2⟩
  have K2 : Hid _ := K1.out.trans' k2
  have hb2 := (k2.block _ (lt_of_heap HB1.out) (fun e => e)).trans HB1.out
  have hlx := lt_of_heap hb2
  clear y0 y1 y2 y3 y4 y5 y6
  obtain ⟨⟨y0, y1, y2, y3, y4, y5, y6⟩, -⟩ := row_obj hb2
  obtain ⟨⟨c0, c1, c2, c3, c4⟩, -, -, -, hbl⟩ := (HH.out.on K2.out).cells
  rw [HSX.out] at c3
  clear k2 hb2 HS HV HB1 K1
  go_wp2_with fail
  go_region
  go_wp2_with fail
  have HCE : Hid (∀ W' w3, Kept w W' → Same (fun k => v.ownBlock = some k) W' w3 → (w3.cell? ⟨b, 0, none⟩ = some (.int .i64 order) ∧ w3.cell? ⟨b, 1, none⟩ = some (.int .i64 (bud : Int)) ∧ w3.cell? ⟨b, 2, none⟩ = some v ∧ w3.cell? ⟨b, 3, none⟩ = some (.int .i64 (sx : Int)) ∧ w3.cell? ⟨b, 4, none⟩ = some (.int .i64 (pk : Int))) ∧ w3.frozen? ⟨b, 2, none⟩ = false ∧ w3.frozen? ⟨b, 3, none⟩ = false ∧ w3.frozen? ⟨b, 4, none⟩ = false ∧ b < w3.heap.size) := fun W' w3 k k3 => by
    have h2 := HH.out.on k
    have ob3 := (k3.block b (lt_of_heap h2.obj) (fun e => h2.ne e rfl)).trans h2.obj
    rw [HSX.out] at ob3
    exact ⟨⟨(cell_of ob3 0).trans rfl, (cell_of ob3 1).trans rfl, (cell_of ob3 2).trans rfl, (cell_of ob3 3).trans rfl, (cell_of ob3 4).trans rfl⟩, frozen_of ob3 2, frozen_of ob3 3, frozen_of ob3 4, lt_of_heap ob3⟩
  have HKA : Hid (Kept w (w2.alloc (.cells #[.int .i64 kind, .int .i64 time, .int .i64 seq, .int .i64 index, .int .i64 frm, .int .i64 til, .string body] 26))) := K2.out.alloc _
  go_region_law ((refine step_app rfl (.tmp 32) (.tmp 34) 22 rfl v (.slice (some ⟨w2.heap.size, 0, none⟩) 1 1) rfl rfl _ (HAPP.out _ _ (by (repeat (first | exact HKA.out | exact K2.out | apply Same.alloc | apply Same.drew)); done) (by exact heap_new _ _)) ?_); rintro v3 w3 ⟨o3, k3, n3⟩; obtain ⟨⟨e0, e1, e2, e3, e4⟩, f2, f3, f4, hb3⟩ := HCE.out _ w3 (by (repeat (first | exact HKA.out | exact K2.out | apply Same.alloc | apply Same.drew)); done) k3; obtain ⟨a3, cp3, rfl, -⟩ := OwnR.rows o3; have Q : Hid _ := And.intro o3 (And.intro k3 n3); clear o3 k3 n3)
  all_goals (go_wp2_with fail)
  all_goals go_region
  all_goals (go_wp2_with fail)
  all_goals go_ret
  all_goals
    obtain ⟨o3, k3, n3⟩ := Q.out
    have R := HMO.out _ w3 _ pk' (by (repeat (first | exact HKA.out | exact K2.out | apply Same.alloc | apply Same.drew)); done) o3 k3
    rw [Int.natCast_add] at R
    have hl : xs.length + 1 = (xs ++ [(⟨kind, time, seq, index, frm, til, body⟩ : RwM)]).length := by simp
    rw [hl]
    exact ⟨rfl, _, R.1.on (Same.refl _ _).drew, R.2.drew, fun k hk => (n3 k hk).imp id (fun e => Nat.le_trans (Same.size (S := fun _ => False) (w := w) (by (repeat (first | exact HKA.out | exact K2.out | apply Same.alloc | apply Same.drew)); done)) e)⟩
set_option maxRecDepth 100000 in
set_option maxHeartbeats 1600000 in
theorem take10 {base : Nat} {w : World} {b : Nat} {order : Int} {bud : Nat} {v : Value} {xs : List RwM} {pk : Nat} (h : Bf base w b order bud v xs pk) :
    Calls Try.prog 21 #[.pointer (some ⟨b, 0, none⟩)] w fun e w' => ∃ u, e = .returned u ∧ OwnR w.heap.size w' u (srt (bef order) xs) ∧ Bf base w' b order bud (.slice none 0 0) [] pk ∧ Same (fun k => k = b) w w' := by
  obtain ⟨a, cap, ev, hra, -⟩ := OwnR.rows h.own
  subst ev
  have HH : Hid _ := h
  have HO : Hid (∀ W, Kept w W → Calls Try.prog 47 #[.int .i64 order, .slice a xs.length cap] W fun e w' => ∃ u, e = .returned u ∧ OwnR w.heap.size w' u (srt (bef order) xs) ∧ Kept w w') := fun W k => Calls.mono (inorder10 order (hra.on k) (by have := h.len; omega)) fun e w' ⟨u, h1, h2, h3⟩ => ⟨u, h1, ⟨h2.1, by
    rcases h2.2 with g | ⟨g, cp, cur, e, hb, rest⟩
    · exact .inl g
    · exact .inr ⟨g, cp, cur, e, Nat.le_trans k.size hb, rest⟩⟩, k.trans' h3⟩
  obtain ⟨⟨c0, c1, c2, c3, c4⟩, -, -, -, hbl⟩ := h.cells
  have HT : Hid (∀ W, Kept w W → Kept w W ∧ W.cell? ⟨b, 0, none⟩ = some (.int .i64 order) ∧ W.cell? ⟨b, 2, none⟩ = some (.slice a xs.length cap)) := fun W k => ⟨k, (h.on k).cells.1.1, (h.on k).cells.1.2.2.1⟩
  have HD : Hid (∀ w1 u, Kept w w1 → OwnR w.heap.size w1 u (srt (bef order) xs) → OwnR w.heap.size ((w1.setCell ⟨b, 2, none⟩ (.slice none 0 0)).setCell ⟨b, 3, none⟩ (.int .i64 0)) u (srt (bef order) xs) ∧ Bf base ((w1.setCell ⟨b, 2, none⟩ (.slice none 0 0)).setCell ⟨b, 3, none⟩ (.int .i64 0)) b order bud (.slice none 0 0) [] pk ∧ Same (fun k => k = b) w ((w1.setCell ⟨b, 2, none⟩ (.slice none 0 0)).setCell ⟨b, 3, none⟩ (.int .i64 0))) := fun w1 u k o1 => by
    have hs : Same (fun k => k = b) w1 ((w1.setCell ⟨b, 2, none⟩ (.slice none 0 0)).setCell ⟨b, 3, none⟩ (.int .i64 0)) := ((Same.refl (fun k => k = b) w1).setCell ⟨b, 2, none⟩ (.inr rfl) _).setCell ⟨b, 3, none⟩ (.inr rfl) _
    refine ⟨OwnR.kept o1 hs fun g hg e => ?_, ⟨(setCell_at (setCell_at (h.on k).obj _ _) _ _).trans rfl, OwnR.nil _ _, h.low, fun r hr => by simp at hr, Nat.zero_le _, h.most⟩, (k.to _).trans' hs⟩
    have := (OwnR.block o1 hg).1
    omega
  have HCE : Hid (∀ w1, Kept w w1 → (w1.cell? ⟨b, 2, none⟩ = some (.slice a xs.length cap) ∧ ∃ z, w1.cell? ⟨b, 3, none⟩ = some z) ∧ w1.frozen? ⟨b, 2, none⟩ = false ∧ w1.frozen? ⟨b, 3, none⟩ = false ∧ b < w1.heap.size) := fun w1 k => ⟨⟨(h.on k).cells.1.2.2.1, _, (h.on k).cells.1.2.2.2.1⟩, (h.on k).cells.2.1, (h.on k).cells.2.2.1, (h.on k).cells.2.2.2.2⟩
  clear h hra
  go_enter Try.func21, Try.ntmps21
  go_wp2_with fail
  go_region_held3 (fun W => Kept w W ∧ W.cell? ⟨b, 0, none⟩ = some (.int .i64 order) ∧ W.cell? ⟨b, 2, none⟩ = some (.slice a xs.length cap))
    (exact HT.out _ (by (repeat (first | assumption | exact Same.refl _ _ | apply Same.alloc | apply Same.drew | apply Same.drewN)); done))
    ((first
    | (go_at_call 47; refine Calls.mono (HO.out _ (by (repeat (first | assumption | exact Same.refl _ _ | apply Same.alloc | apply Same.drew | apply Same.drewN)); done)) ?_; rintro e w1 ⟨u, rfl, o1, k1⟩)))
  all_goals
    obtain ⟨⟨e2, z, e3⟩, f2, f3, hb1⟩ := HCE.out _ k1
    have R : Hid _ := HD.out _ _ k1 o1
    obtain ⟨ua, uc, eu, -, -⟩ := OwnR.rows o1
    subst eu
    clear o1 k1
    go_wp2_with fail
    go_ret
    obtain ⟨r1, r2, r3⟩ := R.out
    first
    | exact ⟨_, rfl, r1, r2, r3⟩
    | exact ⟨_, rfl, OwnR.kept r1 ((Same.refl (fun _ => False) _).drew) (fun _ _ e => e), r2.on (Same.refl _ _).drew, r3.drew⟩
set_option maxRecDepth 100000 in
theorem bytes10 {base : Nat} {w : World} {b : Nat} {order : Int} {bud : Nat} {v : Value} {xs : List RwM} {pk : Nat} (h : Bf base w b order bud v xs pk) : Calls Try.prog 23 #[.pointer (some ⟨b, 0, none⟩)] w fun e w' => e = .returned (.int .i64 ((szs xs : Nat) : Int)) ∧ w' = w := by
  obtain ⟨⟨c0, c1, c2, c3, c4⟩, -, -, -, hbl⟩ := h.cells
  clear h
  go_enter Try.func23, Try.ntmps23
  go_wp2_with fail
  go_ret
  exact ⟨rfl, rfl⟩
set_option maxRecDepth 100000 in
theorem len10 {base : Nat} {w : World} {b : Nat} {order : Int} {bud : Nat} {v : Value} {xs : List RwM} {pk : Nat} (h : Bf base w b order bud v xs pk) : Calls Try.prog 24 #[.pointer (some ⟨b, 0, none⟩)] w fun e w' => e = .returned (.int .i64 (xs.length : Int)) ∧ w' = w := by
  obtain ⟨a, cap, ev, -, -⟩ := OwnR.rows h.own
  subst ev
  obtain ⟨⟨c0, c1, c2, c3, c4⟩, -, -, -, hbl⟩ := h.cells
  clear h
  go_enter Try.func24, Try.ntmps24
  go_wp2_with fail
  go_ret
  exact ⟨rfl, rfl⟩
set_option maxRecDepth 100000 in
theorem peak10 {base : Nat} {w : World} {b : Nat} {order : Int} {bud : Nat} {v : Value} {xs : List RwM} {pk : Nat} (h : Bf base w b order bud v xs pk) : Calls Try.prog 25 #[.pointer (some ⟨b, 0, none⟩)] w fun e w' => e = .returned (.int .i64 (pk : Int)) ∧ w' = w := by
  obtain ⟨⟨c0, c1, c2, c3, c4⟩, -, -, -, hbl⟩ := h.cells
  clear h
  go_enter Try.func25, Try.ntmps25
  go_wp2_with fail
  go_ret
  exact ⟨rfl, rfl⟩
end Go.Proofs.Ytcbllejjiokmbaa
