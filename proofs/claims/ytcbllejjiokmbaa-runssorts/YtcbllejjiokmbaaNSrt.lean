/- What is proved: whether a list of rows is sorted, as the program answers it; the list lies in memory. -/
import Derived.Test.YtcbllejjiokmbaaNEql
namespace Go.Proofs.Ytcbllejjiokmbaa
open Go.RowKit

/-- No row comes before the one ahead of it. -/
def UpL (order : Int) (l : List RwM) : Prop := ∀ i x y, l[i]? = some x → l[i + 1]? = some y → bef order y x = false
theorem comp_neg (order : Int) (a b : RwM) : (decide (comp order a b < 0)) = bef order a b := by
  unfold bef
  rcases comp_cases order a b with h | h | h <;> rw [h] <;> decide
set_option maxRecDepth 100000 in
set_option maxHeartbeats 800000 in
theorem sortedC10 {order : Int} {o : Nat} (x y : RwM) {w : World} (h : w.cell? ⟨o, 0, none⟩ = some (.int .i64 order)) (ho : o < w.heap.size) :
    Calls Try.prog 49 #[.agg #[.int .i64 x.kind, .int .i64 x.time, .int .i64 x.seq, .int .i64 x.index, .int .i64 x.frm, .int .i64 x.til, .string x.body], .agg #[.int .i64 y.kind, .int .i64 y.time, .int .i64 y.seq, .int .i64 y.index, .int .i64 y.frm, .int .i64 y.til, .string y.body], .pointer (some ⟨o, 0, none⟩)] w fun e w' => e = .returned (.int .i64 (comp order x y)) ∧ Kept w w' := by
  have HC : Hid (∀ W, _) := fun W => compare_any order x y W
  obtain ⟨k1, t1, s1, i1, f1, z1, b1⟩ := x
  obtain ⟨k2, t2, s2, i2, f2, z2, b2⟩ := y
  unfold rowV at HC
  simp only at *
  have hne : o ≠ w.heap.size := by omega
  have hne2 : o ≠ w.heap.size + 1 := by omega
  have KB : Hid (Kept w ((w.alloc (.cells #[.int .i64 k1, .int .i64 t1, .int .i64 s1, .int .i64 i1, .int .i64 f1, .int .i64 z1, .string b1] 26)).alloc (.cells #[.int .i64 k2, .int .i64 t2, .int .i64 s2, .int .i64 i2, .int .i64 f2, .int .i64 z2, .string b2] 26))) := ((Same.refl _ w).alloc _).alloc _
  have h2 := (KB.out.cell (p := ⟨o, 0, none⟩) ho (fun e => e)).trans h
  go_enter Try.func49, Try.ntmps49
  go_wp2_with fail
  refine Calls.mono (HC.out _) ?_
  rintro e w1 ⟨rfl, k1'⟩
  have K1 : Hid _ := KB.out.trans' k1'
  clear k1'
  go_wp2_with fail
  go_ret
  exact ⟨rfl, K1.out⟩
/-- The answer is true just where P holds. -/
def Ans (P : Prop) (e : Ending) : Prop := ∃ b, e = .returned (.bool b) ∧ (b = true ↔ P)
set_option maxRecDepth 100000 in
set_option maxHeartbeats 1600000 in
theorem isSorted10 {order : Int} {o : Nat} {w : World} {a : Option Addr} {cap : Nat} {l : List RwM} (h : w.cell? ⟨o, 0, none⟩ = some (.int .i64 order)) (ho : o < w.heap.size) (hr : RowsAt w a l) (hn : l.length ≤ 2199023255552) :
    Calls Try.prog 48 #[.slice a l.length cap, .func (.func 49) #[] #[.pointer (some ⟨o, 0, none⟩)]] w fun e w' => Ans (UpL order l) e ∧ Kept w w' := by
  obtain ⟨n, en⟩ : ∃ n, n = l.length := ⟨_, rfl⟩
  rw [← en] at hn ⊢
  have HR : Hid _ := hr
  have EN : Hid _ := en
  have HC : Hid (∀ (W : World) (x y : RwM), Kept w W → _) := fun W x y (k : Kept w W) => sortedC10 x y ((k.cell (p := ⟨o, 0, none⟩) ho (fun e => e)).trans h) (Nat.lt_of_lt_of_le ho k.size)
  have i0 : (n : Int) ≤ 2199023255552 := by omega
  clear hr en h
  go_enter Try.func48, Try.ntmps48
  go_wp2_with fail
  go_loopw [5] (fun i wr => ∃ z : Int, i = .int .i64 z ∧ -1 ≤ z ∧ z < n ∧ (∀ (k : Nat) (x y : RwM), z ≤ (k : Int) → l[k]? = some x → l[k + 1]? = some y → bef order y x = false) ∧ Kept w wr) (fun i _ => (intOf i + 1).toNat)
  case atStart => exact ⟨(n : Int) - 1, rfl, by omega, by omega, fun k x y hk hx hy => by
    have h1 := (List.getElem?_eq_some_iff.1 hy).1
    rw [← EN.out] at h1
    omega, Same.refl _ _⟩
  case round =>
    obtain ⟨z, rfl, hz1, hz2, hup, kk⟩ := hrel
    have KK : Hid _ := kk
    have HU : Hid _ := hup
    by_cases hz : 0 < z
    · obtain ⟨p, rfl⟩ : ∃ p : Nat, z = (p : Int) + 1 := ⟨(z - 1).toNat, by omega⟩
      have d1 : decide (0 < (p : Int) + 1) = true := decide_eq_true (by omega)
      obtain ⟨x, hx⟩ : ∃ x, l[p]? = some x := ⟨_, List.getElem?_eq_getElem (by rw [← EN.out]; omega)⟩
      obtain ⟨y, hy⟩ : ∃ y, l[p + 1]? = some y := ⟨_, List.getElem?_eq_getElem (by rw [← EN.out]; omega)⟩
      obtain ⟨g, off, ea, hg, x0, x1, x2, x3, x4, x5, x6⟩ := (RowsAt.on HR.out kk) p x hx
      subst ea
      obtain ⟨g', off', eb, -, y0, y1, y2, y3, y4, y5, y6⟩ := (RowsAt.on HR.out kk) (p + 1) y hy
      cases eb
      have HC1 : Hid (∀ W, Kept wr W → Calls _ _ _ _ fun e w' => _ ∧ Kept wr w') := fun W (k : Kept wr W) => Calls.mono (HC.out W y x (KK.out.trans' k)) fun e w' hh => ⟨hh.1, k.trans' hh.2⟩
      have hcn := comp_neg order y x
      have HSTEP : Hid (bef order y x = false → ∀ (k : Nat) (a b : RwM), (p : Int) ≤ (k : Int) → l[k]? = some a → l[k + 1]? = some b → bef order b a = false) := fun e k a b hk ha hb => by
        by_cases hkp : k = p
        · subst hkp
          rw [hx] at ha
          rw [hy] at hb
          cases ha
          cases hb
          exact e
        · exact HU.out k a b (by omega) ha hb
      have HNO : Hid (bef order y x = true → ¬ UpL order l) := fun e hu => by
        have := hu p x y hx hy
        rw [e] at this
        cases this
      obtain ⟨k1, t1, s1, i1, f1, z1, b1⟩ := x
      obtain ⟨k2, t2, s2, i2, f2, z2, b2⟩ := y
      simp only at *
      generalize bef order _ _ = bb at hcn HSTEP HNO
      generalize comp order _ _ = cc at hcn HC1
      have HT : Hid (∀ W, Kept wr W → Kept wr W ∧ W.cell? ⟨g, off + (p + 1) * 7, none⟩ = some (.int .i64 k2) ∧ W.cell? ⟨g, off + (p + 1) * 7 + 1, none⟩ = some (.int .i64 t2) ∧ W.cell? ⟨g, off + (p + 1) * 7 + 2, none⟩ = some (.int .i64 s2) ∧ W.cell? ⟨g, off + (p + 1) * 7 + 3, none⟩ = some (.int .i64 i2) ∧ W.cell? ⟨g, off + (p + 1) * 7 + 4, none⟩ = some (.int .i64 f2) ∧ W.cell? ⟨g, off + (p + 1) * 7 + 5, none⟩ = some (.int .i64 z2) ∧ W.cell? ⟨g, off + (p + 1) * 7 + 6, none⟩ = some (.string b2) ∧ W.cell? ⟨g, off + p * 7, none⟩ = some (.int .i64 k1) ∧ W.cell? ⟨g, off + p * 7 + 1, none⟩ = some (.int .i64 t1) ∧ W.cell? ⟨g, off + p * 7 + 2, none⟩ = some (.int .i64 s1) ∧ W.cell? ⟨g, off + p * 7 + 3, none⟩ = some (.int .i64 i1) ∧ W.cell? ⟨g, off + p * 7 + 4, none⟩ = some (.int .i64 f1) ∧ W.cell? ⟨g, off + p * 7 + 5, none⟩ = some (.int .i64 z1) ∧ W.cell? ⟨g, off + p * 7 + 6, none⟩ = some (.string b1)) := fun W k => ⟨k, (k.cell (p := ⟨g, _, none⟩) hg (fun e => e)).trans y0, (k.cell (p := ⟨g, _, none⟩) hg (fun e => e)).trans y1, (k.cell (p := ⟨g, _, none⟩) hg (fun e => e)).trans y2, (k.cell (p := ⟨g, _, none⟩) hg (fun e => e)).trans y3, (k.cell (p := ⟨g, _, none⟩) hg (fun e => e)).trans y4, (k.cell (p := ⟨g, _, none⟩) hg (fun e => e)).trans y5, (k.cell (p := ⟨g, _, none⟩) hg (fun e => e)).trans y6, (k.cell (p := ⟨g, _, none⟩) hg (fun e => e)).trans x0, (k.cell (p := ⟨g, _, none⟩) hg (fun e => e)).trans x1, (k.cell (p := ⟨g, _, none⟩) hg (fun e => e)).trans x2, (k.cell (p := ⟨g, _, none⟩) hg (fun e => e)).trans x3, (k.cell (p := ⟨g, _, none⟩) hg (fun e => e)).trans x4, (k.cell (p := ⟨g, _, none⟩) hg (fun e => e)).trans x5, (k.cell (p := ⟨g, _, none⟩) hg (fun e => e)).trans x6⟩
      have p1 : (p : Int) + 1 < (n : Int) := by omega
      have p2 : (p : Int) < (n : Int) := by omega
      have hw1 : IntKind.i64.wrap ((p : Int) + 1 - 1) = (p : Int) := by rw [IntKind.wrap_i64]; omega
      have hw2 : IntKind.i64.wrap (p : Int) = (p : Int) := by rw [IntKind.wrap_i64]; omega
      have p3 : (0 : Int) ≤ (p : Int) := by omega
      have p4 : p < n := by omega
      have p5 : p + 1 < n := by omega
      have p6 : (0 : Int) ≤ (p : Int) + 1 := by omega
      have hN : ((p : Int) + 1).toNat = p + 1 := by omega
      clear hx hy kk hup HU hz1 hz2 hz
      cases bb with
      | false =>
        have hc2 : ¬ cc < 0 := of_decide_eq_false hcn
        go_wp2_with fail
        go_region_held3 (fun W => Kept wr W ∧ W.cell? ⟨g, off + (p + 1) * 7, none⟩ = some (.int .i64 k2) ∧ W.cell? ⟨g, off + (p + 1) * 7 + 1, none⟩ = some (.int .i64 t2) ∧ W.cell? ⟨g, off + (p + 1) * 7 + 2, none⟩ = some (.int .i64 s2) ∧ W.cell? ⟨g, off + (p + 1) * 7 + 3, none⟩ = some (.int .i64 i2) ∧ W.cell? ⟨g, off + (p + 1) * 7 + 4, none⟩ = some (.int .i64 f2) ∧ W.cell? ⟨g, off + (p + 1) * 7 + 5, none⟩ = some (.int .i64 z2) ∧ W.cell? ⟨g, off + (p + 1) * 7 + 6, none⟩ = some (.string b2) ∧ W.cell? ⟨g, off + p * 7, none⟩ = some (.int .i64 k1) ∧ W.cell? ⟨g, off + p * 7 + 1, none⟩ = some (.int .i64 t1) ∧ W.cell? ⟨g, off + p * 7 + 2, none⟩ = some (.int .i64 s1) ∧ W.cell? ⟨g, off + p * 7 + 3, none⟩ = some (.int .i64 i1) ∧ W.cell? ⟨g, off + p * 7 + 4, none⟩ = some (.int .i64 f1) ∧ W.cell? ⟨g, off + p * 7 + 5, none⟩ = some (.int .i64 z1) ∧ W.cell? ⟨g, off + p * 7 + 6, none⟩ = some (.string b1))
          (exact HT.out _ (by (repeat (first | assumption | exact Same.refl _ _ | apply Same.alloc | apply Same.drew | apply Same.drewN)); done))
          ((first
          | (go_at_call 49; refine Calls.mono (HC1.out _ (by (repeat (first | assumption | exact Same.refl _ _ | apply Same.alloc | apply Same.drew | apply Same.drewN)); done)) ?_; rintro e w5 ⟨rfl, k5⟩)))
        all_goals
          have KF : Hid (Kept w _) := Same.trans' KK.out k5
          clear k5
          go_wp2_with fail
          go_roundw
          case rel => exact ⟨(p : Int), rfl, by omega, by omega, HSTEP.out (by first | exact rfl | trivial), by first | exact KF.out | exact Same.drew KF.out⟩
          case measure => simp only [intOf]; omega
      | true =>
        have hc2 : cc < 0 := of_decide_eq_true hcn
        go_wp2_with fail
        go_region_held3 (fun W => Kept wr W ∧ W.cell? ⟨g, off + (p + 1) * 7, none⟩ = some (.int .i64 k2) ∧ W.cell? ⟨g, off + (p + 1) * 7 + 1, none⟩ = some (.int .i64 t2) ∧ W.cell? ⟨g, off + (p + 1) * 7 + 2, none⟩ = some (.int .i64 s2) ∧ W.cell? ⟨g, off + (p + 1) * 7 + 3, none⟩ = some (.int .i64 i2) ∧ W.cell? ⟨g, off + (p + 1) * 7 + 4, none⟩ = some (.int .i64 f2) ∧ W.cell? ⟨g, off + (p + 1) * 7 + 5, none⟩ = some (.int .i64 z2) ∧ W.cell? ⟨g, off + (p + 1) * 7 + 6, none⟩ = some (.string b2) ∧ W.cell? ⟨g, off + p * 7, none⟩ = some (.int .i64 k1) ∧ W.cell? ⟨g, off + p * 7 + 1, none⟩ = some (.int .i64 t1) ∧ W.cell? ⟨g, off + p * 7 + 2, none⟩ = some (.int .i64 s1) ∧ W.cell? ⟨g, off + p * 7 + 3, none⟩ = some (.int .i64 i1) ∧ W.cell? ⟨g, off + p * 7 + 4, none⟩ = some (.int .i64 f1) ∧ W.cell? ⟨g, off + p * 7 + 5, none⟩ = some (.int .i64 z1) ∧ W.cell? ⟨g, off + p * 7 + 6, none⟩ = some (.string b1))
          (exact HT.out _ (by (repeat (first | assumption | exact Same.refl _ _ | apply Same.alloc | apply Same.drew | apply Same.drewN)); done))
          ((first
          | (go_at_call 49; refine Calls.mono (HC1.out _ (by (repeat (first | assumption | exact Same.refl _ _ | apply Same.alloc | apply Same.drew | apply Same.drewN)); done)) ?_; rintro e w5 ⟨rfl, k5⟩)))
        all_goals
          have KF : Hid (Kept w _) := Same.trans' KK.out k5
          clear k5
          go_wp2_with fail
          go_ret
          exact ⟨⟨false, rfl, ⟨fun e => (by cases e), fun e => absurd e (HNO.out (by first | exact rfl | trivial))⟩⟩, by first | exact KF.out | exact Same.drew KF.out⟩
    · have d1 : decide (0 < z) = false := decide_eq_false hz
      have HUP : Hid (UpL order l) := fun i x y hx hy => HU.out i x y (by omega) hx hy
      clear kk hup
      go_wp2_with fail
      go_ret
      exact ⟨⟨true, rfl, ⟨fun _ => HUP.out, fun _ => rfl⟩⟩, KK.out⟩
set_option maxRecDepth 100000 in
set_option maxHeartbeats 1600000 in
theorem usorted10 (order : Int) {w : World} {a : Option Addr} {cap : Nat} {l : List RwM} (hr : RowsAt w a l) (hn : l.length ≤ 2199023255552) :
    Calls Try.prog 28 #[.int .i64 order, .slice a l.length cap] w fun e w' => Ans (l.length < 2 ∨ ((order = 1 ∨ order = 2) ∧ UpL order l)) e ∧ Kept w w' := by
  have KB : Hid (Kept w (w.alloc (.cells #[.int .i64 order] 3))) := (Same.refl _ w).alloc _
  have HBX : Hid _ := heap_new w (.cells #[.int .i64 order] 3)
  have HK : Hid (∀ W, _) := fun W => known10 order W
  have HS : Hid (∀ W, Kept (w.alloc (.cells #[.int .i64 order] 3)) W → _) := fun W (k : Kept _ W) => isSorted10 (cap := cap) (o := w.heap.size) (order := order) ((k.cell (p := ⟨w.heap.size, 0, none⟩) (lt_of_heap HBX.out) (fun e => e)).trans ((cell_of HBX.out 0).trans rfl)) (Nat.lt_of_lt_of_le (lt_of_heap HBX.out) k.size) (hr.on (KB.out.trans' k)) hn
  have hmf : ∀ (fn : Fn) (first cap : Array Value) (w : World), (Instr.makeFunc fn first cap).run Try.prog w = .ok (.func fn first cap) w := fun _ _ _ _ => rfl
  obtain ⟨n, en⟩ : ∃ n, n = l.length := ⟨_, rfl⟩
  rw [← en] at hn HS ⊢
  by_cases h2 : n < 2
  · have d1 : decide ((n : Int) < 2) = true := decide_eq_true (by omega)
    have d1' : (n : Int) < 2 := by omega
    have H2 : Hid _ := h2
    clear hr en HS h2
    go_enter Try.func28, Try.ntmps28
    go_wp2_with fail
    go_ret
    exact ⟨⟨true, rfl, ⟨fun _ => .inl H2.out, fun _ => rfl⟩⟩, KB.out⟩
  · have d1 : decide ((n : Int) < 2) = false := decide_eq_false (by omega)
    have d1' : ¬ (n : Int) < 2 := by omega
    have H2 : Hid _ := h2
    by_cases ho : order = 1 ∨ order = 2
    · rw [decide_eq_true ho] at HK
      have HO : Hid _ := ho
      clear hr en h2 ho
      go_enter Try.func28, Try.ntmps28
      go_wp2_with fail
      refine Calls.mono (HK.out _) ?_
      rintro e w1 ⟨rfl, k1⟩
      have HS1 : Hid _ := HS.out w1 k1
      have K1 : Hid _ := KB.out.trans' k1
      clear k1
      go_wp2_with fail
      refine Calls.mono HS1.out ?_
      rintro e w2 ⟨⟨bb, rfl, hb⟩, k2⟩
      have R : Hid _ := And.intro hb (Same.trans' K1.out k2)
      clear hb k2
      go_wp2_with fail
      go_ret
      exact ⟨⟨bb, rfl, ⟨fun e => .inr ⟨HO.out, R.out.1.1 e⟩, fun e => R.out.1.2 (e.resolve_left H2.out).2⟩⟩, R.out.2⟩
    · rw [decide_eq_false ho] at HK
      have HO : Hid _ := ho
      clear hr en h2 ho HS
      go_enter Try.func28, Try.ntmps28
      go_wp2_with fail
      refine Calls.mono (HK.out _) ?_
      rintro e w1 ⟨rfl, k1⟩
      have K1 : Hid _ := KB.out.trans' k1
      clear k1
      go_wp2_with fail
      go_ret
      exact ⟨⟨false, rfl, ⟨fun e => (by cases e), fun e => absurd (e.resolve_left H2.out).1 HO.out⟩⟩, K1.out⟩
end Go.Proofs.Ytcbllejjiokmbaa
