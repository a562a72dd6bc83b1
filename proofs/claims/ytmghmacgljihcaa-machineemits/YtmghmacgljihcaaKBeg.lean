/- What is proved: begin gives a session an active transaction; the machine lies in memory, the session has none. -/
import Derived.Test.YtmghmacgljihcaaKTxn
import Derived.BigRegion
namespace Go.Proofs.Ytmghmacgljihcaa
open Go.RowKit

/-- What a step of the machine leaves in memory. -/
def MiP (tg : Nat → Tg) (w : World) (mb sb vb : Nat) (M' : Mm) (w' : World) : Prop := ∃ tg' lv' P' L', Mi tg' w' mb sb vb lv' P' L' M' ∧ (∀ b, tg' b ≠ .out → tg b ≠ .out ∨ w.heap.size ≤ b) ∧ Same (fun b => tg b ≠ .out) w w'
theorem SesA.upd {arr arr' : Array Value} {M M' : Mm} {P : Nat → Option Nat} (h : SesA arr M P) {i : Nat} {s : Sn} {q : Option Nat} (hi : i < M.ses.length) (hM : M'.ses = M.ses.set i s) (h0 : ∀ o, o ≠ i * 2 → o ≠ i * 2 + 1 → arr'[o]? = arr[o]?) (h1 : arr'[i * 2]? = some (.int .i64 s.begun)) (h2 : arr'[i * 2 + 1]? = some (.pointer (q.map fun g => ⟨g, 0, none⟩))) : SesA arr' M' (fun j => if j = i then q else P j) := fun j hj => by
  have hj' : j < M.ses.length := by rw [hM] at hj; simpa using hj
  have e : M'.at j = if i = j then s else M.at j := by
    unfold Mm.at
    rw [hM]
    exact at_set hi s
  by_cases hij : j = i
  · subst hij
    rw [e, if_pos rfl]
    simp only [if_true]
    exact ⟨h1, h2⟩
  · rw [e, if_neg (fun h => hij h.symm), h0 _ (by omega) (by omega), h0 _ (by omega) (by omega)]
    simp only [hij, if_false]
    exact h j hj'
theorem at_ne {M M' : Mm} {i j : Nat} {s : Sn} (hi : i < M.ses.length) (hM : M'.ses = M.ses.set i s) : M'.at j = if i = j then s else M.at j := by
  unfold Mm.at
  rw [hM]
  exact at_set hi s
theorem Mi.begin {tg : Nat → Tg} {w w' : World} {mb sb vb : Nat} {lv : Value} {P : Nat → Option Nat} {L : List (TxM × Value)} {M : Mm} (h : Mi tg w mb sb vb lv P L M) {i g : Nat} {v : Int} (hi : i < M.ses.length) (hg : w.heap.size ≤ g) (hsm : Same (fun b => b = mb ∨ b = sb) w w')
    (hob : w'.heap[mb]? = some (.cells #[.int .i64 M.flaw, .int .i64 M.clock, .int .i64 (M.begun + 1), .slice (some ⟨sb, 0, none⟩) M.ses.length M.ses.length, .pointer (some ⟨vb, 0, none⟩), lv] 62 (0, 0)))
    (hs : ∀ arr, w.heap[sb]? = some (.cells arr 71 (0, 0)) → w'.heap[sb]? = some (.cells ((arr.setIfInBounds (i * 2 + 1) (.pointer (some ⟨g, 0, none⟩))).setIfInBounds (i * 2) (.int .i64 ((M.at i).begun + 1))) 71 (0, 0)))
    (hbx : TxB w' g ⟨i, (M.at i).begun, M.clock, 0, v, 0, 0, []⟩ (.slice none 0 0) (.slice none 0 0)) : MiP tg w mb sb vb (beginM M i v) w' := by
  have hgo : tg g = .out := Classical.byContradiction fun hn => by have := h.lt g hn; omega
  have hM : (beginM M i v).ses = M.ses.set i ⟨(M.at i).begun + 1, some ⟨⟨i, (M.at i).begun, M.clock, 0, v, 0, 0, []⟩, []⟩⟩ := rfl
  have rin : retag tg (fun b => b = g) (.tx i) g = .tx i := retag_in (X := fun b => b = g) rfl
  have rno : ∀ b, b ≠ g → retag tg (fun b => b = g) (.tx i) b = tg b := fun b hb => retag_no (X := fun b => b = g) hb
  have hre : ∀ b, tg b ≠ .out → retag tg (fun b => b = g) (.tx i) b = tg b := fun b hb => rno b fun e => hb (by rw [e]; exact hgo)
  have hmo : ∀ b T, tg b = T → T ≠ .out → T ≠ .mach → T ≠ .sess → ¬ (b = mb ∨ b = sb) := fun b T hT h1 h2 h3 hb => by
    rcases hb with rfl | rfl
    · exact h2 (hT.symm.trans h.tm)
    · exact h3 (hT.symm.trans h.ts)
  refine ⟨retag tg (fun b => b = g) (.tx i), lv, fun j => if j = i then some g else P j, L, ?_, fun b hb => ?_, hsm.mono fun b _ hb => ?_⟩
  · refine ⟨by rw [show (beginM M i v).ses.length = M.ses.length by simp [beginM]]; exact hob, (hre mb (by rw [h.tm]; exact fun e => by cases e)).trans h.tm, ?_, (hre sb (by rw [h.ts]; exact fun e => by cases e)).trans h.ts, fun j a ha => ?_, fun j hj => ?_, ?_, row_kept h.lg hsm fun b hb => hmo b _ (h.tl b hb) (fun e => by cases e) (fun e => by cases e) (fun e => by cases e), fun b hb => (hre b (by rw [h.tl b hb]; exact fun e => by cases e)).trans (h.tl b hb), fun x hx => ⟨row_kept (h.lo x hx).1 hsm fun b hb => hmo b _ ((h.lo x hx).2 b hb) (fun e => by cases e) (fun e => by cases e) (fun e => by cases e), fun b hb => (hre b (by rw [(h.lo x hx).2 b hb]; exact fun e => by cases e)).trans ((h.lo x hx).2 b hb)⟩, h.ll, fun b hb => ?_⟩
    · obtain ⟨arr, h1, h2⟩ := h.ses
      have hsz : i * 2 + 1 < arr.size := (Array.getElem?_eq_some_iff.1 (h2 i hi).2).1
      refine ⟨_, hs arr h1, h2.upd hi hM (fun o ho1 ho2 => ?_) ?_ ?_⟩
      · rw [Array.getElem?_setIfInBounds_ne (fun e => ho1 e.symm), Array.getElem?_setIfInBounds_ne (fun e => ho2 e.symm)]
      · rw [Array.getElem?_setIfInBounds_self_of_lt (by simp; omega)]
      · rw [Array.getElem?_setIfInBounds_ne (by omega), Array.getElem?_setIfInBounds_self_of_lt hsz]
        rfl
    · rw [at_ne hi hM] at ha
      split at ha
      · rename_i hij
        subst hij
        cases ha
        exact ⟨g, _, _, if_pos rfl, hbx, rin, OwnO.nil _ _, fun b hb => (by cases hb), OwnI.nil _ _, fun b hb => (by cases hb)⟩
      · rename_i hij
        obtain ⟨g', ov, tv, h1, h2⟩ := h.act j a ha
        refine ⟨g', ov, tv, by rw [if_neg (fun e => hij e.symm)]; exact h1, (h2.kept hsm fun b hb => ?_).re fun b hb => hre b ?_⟩
        · rcases hb with hb | hb | hb <;> exact hmo b _ hb (fun e => by cases e) (fun e => by cases e) (fun e => by cases e)
        · rcases hb with hb | hb | hb <;> rw [hb] <;> exact fun e => by cases e
    · rw [at_ne hi hM] at hj
      split at hj
      · cases hj
      · rename_i hij
        rw [if_neg (fun e => hij e.symm)]
        exact h.non j hj
    · have := h.st.off hsm fun b hb => hmo b _ hb (fun e => by cases e) (fun e => by cases e) (fun e => by cases e)
      have e : (fun b => retag tg (fun b => b = g) (.tx i) b = .sto) = fun b => tg b = .sto := by
        funext b
        by_cases hb : b = g
        · subst hb
          rw [rin, hgo]
          simp
        · rw [rno b hb]
      rw [e]
      exact this
    · by_cases hbg : b = g
      · subst hbg
        exact lt_of_heap hbx
      · rw [rno b hbg] at hb
        exact Nat.lt_of_lt_of_le (h.lt b hb) hsm.size
  · by_cases hbg : b = g
    · exact .inr (by omega)
    · rw [rno b hbg] at hb
      exact .inl hb
  · rcases hb with rfl | rfl
    · rw [h.tm]; exact fun e => by cases e
    · rw [h.ts]; exact fun e => by cases e
theorem size_set (w : World) (p : Addr) (u : Value) : (w.setCell p u).heap.size = w.heap.size := by simp [World.setCell]
theorem heap_set {w : World} {p : Addr} {u : Value} {b : Nat} (h : b ≠ p.block) : (w.setCell p u).heap[b]? = w.heap[b]? := Below.heap_setCell _ _ _ _ h
theorem begin_world {w : World} {mb sb i : Nat} {p q r : Value} {bx : Obj} {ma : Array Value} {tm ts : TypeId} (ne : mb ≠ sb) (hm : w.heap[mb]? = some (.cells ma tm (0, 0))) :
    Same (fun b => b = mb ∨ b = sb) w (((((w.setCell ⟨sb, i * 2 + 1, none⟩ p).setCell ⟨sb, i * 2, none⟩ q).setCell ⟨mb, 2, none⟩ r).alloc bx).drew) ∧
    (((((w.setCell ⟨sb, i * 2 + 1, none⟩ p).setCell ⟨sb, i * 2, none⟩ q).setCell ⟨mb, 2, none⟩ r).alloc bx).drew).heap[mb]? = some (.cells (ma.setIfInBounds 2 r) tm (0, 0)) ∧
    (∀ arr, w.heap[sb]? = some (.cells arr ts (0, 0)) → (((((w.setCell ⟨sb, i * 2 + 1, none⟩ p).setCell ⟨sb, i * 2, none⟩ q).setCell ⟨mb, 2, none⟩ r).alloc bx).drew).heap[sb]? = some (.cells ((arr.setIfInBounds (i * 2 + 1) p).setIfInBounds (i * 2) q) ts (0, 0))) ∧
    (((((w.setCell ⟨sb, i * 2 + 1, none⟩ p).setCell ⟨sb, i * 2, none⟩ q).setCell ⟨mb, 2, none⟩ r).alloc bx).drew).heap[w.heap.size]? = some bx := by
  have hz : (((w.setCell ⟨sb, i * 2 + 1, none⟩ p).setCell ⟨sb, i * 2, none⟩ q).setCell ⟨mb, 2, none⟩ r).heap.size = w.heap.size := by rw [size_set, size_set, size_set]
  refine ⟨(((((Same.refl _ w).setCell _ (.inr (.inr rfl)) _).setCell _ (.inr (.inr rfl)) _).setCell _ (.inr (.inl rfl)) _).alloc _).drew, ?_, fun arr ha => ?_, ?_⟩
  · refine (heap_old _ _ (by rw [hz]; exact lt_of_heap hm)).trans (setCell_at ?_ 2 r)
    rw [heap_set ne, heap_set ne]
    exact hm
  · refine (heap_old _ _ (by rw [hz]; exact lt_of_heap ha)).trans ?_
    rw [heap_set (fun e => ne e.symm)]
    exact setCell_at (setCell_at ha _ _) _ _
  · have := heap_new (((w.setCell ⟨sb, i * 2 + 1, none⟩ p).setCell ⟨sb, i * 2, none⟩ q).setCell ⟨mb, 2, none⟩ r) bx
    rw [hz] at this
    exact this
set_option maxRecDepth 100000 in
set_option maxHeartbeats 3200000 in
theorem begin15 {tg : Nat → Tg} {w : World} {mb sb vb : Nat} {lv : Value} {P : Nat → Option Nat} {L : List (TxM × Value)} {M : Mm} (h : Mi tg w mb sb vb lv P L M) (hv : Inv M) {i : Nat} (hi : i < M.ses.length) (_ : (M.at i).act = none) (v : Int) :
    Calls Try.prog 41 #[.pointer (some ⟨mb, 0, none⟩), .int .i64 (i : Int), .int .i64 v] w fun e w' => e = .returned (.tuple #[]) ∧ MiP tg w mb sb vb (beginM M i v) w' := by
  have HF : Hid (∀ w', _ → _ → _ → _ → MiP tg w mb sb vb (beginM M i v) w') := fun w' => Mi.begin (w' := w') (v := v) h hi (Nat.le_refl w.heap.size)
  obtain ⟨hmb, ⟨c0, c1, c2, c3, c4, c5⟩, fz⟩ := Mi.cells h
  obtain ⟨hsb, d0, d1, fs⟩ := h.sess hi
  have fz2 := fz 2
  have fs0 := fs (i * 2)
  have fs1 := fs (i * 2 + 1)
  have hsv := hv.sb i hi
  have hb0 := hv.b0
  have hb1 := hv.b1
  have hs1 := hv.s1
  have ne : ¬ mb = sb := fun e => by have h1 := h.tm; rw [e, h.ts] at h1; cases h1
  have ne' : ¬ sb = mb := fun e => ne e.symm
  have HO : Hid _ := h.obj
  generalize (M.at i).begun = bi at *
  generalize M.begun = bm at *
  generalize M.clock = cl at *
  obtain ⟨n, en⟩ : ∃ n, n = M.ses.length := ⟨_, rfl⟩
  rw [← en] at hi c3 HO HF hs1
  have e1 : IntKind.i64.wrap (bi + 1) = bi + 1 := by rw [IntKind.wrap_i64] <;> omega
  have e2 : IntKind.i64.wrap (bm + 1) = bm + 1 := by rw [IntKind.wrap_i64] <;> omega
  have hi2 : (i : Int) < (n : Int) := by omega
  have hi3 : decide ((i : Int) < (n : Int)) = true := decide_eq_true hi2
  have hb2 : -9223372036854775808 ≤ bi + 1 ∧ bi + 1 ≤ 9223372036854775807 := by omega
  have hb3 : -9223372036854775808 ≤ bm + 1 ∧ bm + 1 ≤ 9223372036854775807 := by omega
  clear h hv fz fs en hsv hb0 hb1 hs1
  go_enter Try.func41, Try.ntmps41
  go_wp2_with fail
  go_region
  go_wp2_with fail
  go_end0
  obtain ⟨h1, h2, h3, h4⟩ := begin_world (i := i) (p := .pointer (some ⟨w.heap.size, 0, none⟩)) (q := .int .i64 (bi + 1)) (r := .int .i64 (bm + 1)) (bx := .cells #[.int .i64 (i : Int), .int .i64 bi, .int .i64 cl, .int .i64 0, .int .i64 v, .int .i64 0, .int .i64 0, .slice none 0 0, .slice none 0 0] 98 (0, 0)) (ts := 71) ne HO.out
  exact ⟨rfl, HF.out _ h1 (by simpa using h2) h3 h4⟩
end Go.Proofs.Ytmghmacgljihcaa
