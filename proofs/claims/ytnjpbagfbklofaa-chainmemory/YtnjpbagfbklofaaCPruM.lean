/- What is proved: plain facts on what pruning leaves to be seen and to be installed; lists of numbers and of strings in memory; an argument that is a list of numbers. -/
import Derived.Test.YtnjpbagfbklofaaCTwo
import Derived.Test.YtnjpbagfbklofaaCKeys
import Derived.Test.YtnjpbagfbklofaaCOpen
import Derived.Deep.SlicePairs
namespace Go.Proofs.Ytnjpbagfbklofaa
open Go.ChangeShapes Go.WideShapes Go.ChangeAt Go.RowKit
open Go.Proofs (encStr)

def NumsAt (w : World) (a : Option Addr) (l : List Int) : Prop :=
  ∀ i x, l[i]? = some x → ∃ b off, a = some ⟨b, off, none⟩ ∧ b < w.heap.size ∧ w.cell? ⟨b, off + i, none⟩ = some (.int .i64 x)
theorem NumsAt.on {w w' : World} {a : Option Addr} {l : List Int} (h : NumsAt w a l) (k : Kept w w') : NumsAt w' a l := fun i x hx => by
  obtain ⟨b, off, rfl, hb, hc⟩ := h i x hx
  exact ⟨b, off, rfl, Nat.lt_of_lt_of_le hb k.size, (k.cell (p := ⟨b, off + i, none⟩) hb (fun e => e)).trans hc⟩
/-- Strings in memory. -/
def StrsAt (w : World) (a : Option Addr) (l : List (List UInt8)) : Prop :=
  ∀ i x, l[i]? = some x → ∃ b off, a = some ⟨b, off, none⟩ ∧ b < w.heap.size ∧ w.cell? ⟨b, off + i, none⟩ = some (.string ⟨x.toArray⟩)
theorem StrsAt.kept {S : Nat → Prop} {w w' : World} {a : Option Addr} {l : List (List UInt8)} (h : StrsAt w a l) (k : Same S w w') (hd : ∀ b, InB a l.length b → ¬ S b) : StrsAt w' a l := fun i x hx => by
  obtain ⟨b, off, rfl, hb, hc⟩ := h i x hx
  exact ⟨b, off, rfl, Nat.lt_of_lt_of_le hb k.size, (k.cell (p := ⟨b, off + i, none⟩) hb (hd b ⟨pos_of_get hx, off, rfl⟩)).trans hc⟩
theorem StrsAt.on {w w' : World} {a : Option Addr} {l : List (List UInt8)} (h : StrsAt w a l) (k : Kept w w') : StrsAt w' a l := h.kept k fun _ _ e => e
theorem OwnS.strs {base : Nat} {w : World} {v : Value} {l : List (List UInt8)} (h : OwnS base w v l) : ∃ a cap, v = .slice a l.length cap ∧ StrsAt w a l ∧ l.length ≤ cap ∧ (∀ b, InB a l.length b → base ≤ b ∧ v.ownBlock = some b) := by
  rcases h.2 with ⟨rfl, hn⟩ | ⟨g, cap, cur, rfl, hb, hg, h1, h2, h3, h4⟩
  · obtain rfl : l = [] := List.eq_nil_of_length_eq_zero hn
    exact ⟨none, 0, rfl, fun i x hx => by simp at hx, Nat.le_refl _, fun b hb => absurd hb.1 (by simp)⟩
  · refine ⟨_, cap, rfl, fun i x hx => ⟨g, 0, rfl, lt_of_heap hg, ?_⟩, h1, fun b hb' => by obtain ⟨_, off, e⟩ := hb'; cases e; exact ⟨hb, rfl⟩⟩
    have hi := (List.getElem?_eq_some_iff.1 hx).1
    rw [cell_of hg, Nat.zero_add]
    have e : (cur.toList.take (l.length * 1))[i]? = some (encStr x) := by rw [h4, List.getElem?_map, hx]; rfl
    rw [List.getElem?_take_of_lt (by omega)] at e
    simpa using e

theorem cnt_drop {l : List Vn} (h : Asc l) {t : Int} {m : Nat} (hm : m ≤ cnt l t) : cnt (l.drop m) t = cnt l t - m := by
  have h1 : l.countP (fun y => decide (y.c ≤ t)) = (l.take m).countP (fun y => decide (y.c ≤ t)) + (l.drop m).countP (fun y => decide (y.c ≤ t)) := by
    rw [← List.countP_append, List.take_append_drop]
  have h2 : (l.take m).countP (fun y => decide (y.c ≤ t)) = (l.take m).length := by
    rw [List.countP_eq_length]
    intro a ha
    obtain ⟨i, hi⟩ := List.getElem?_of_mem ha
    rw [List.getElem?_take] at hi
    split at hi
    · rename_i hlt
      simpa using (h.cnt_iff t hi).1 (by omega)
    · cases hi
  have h3 := cnt_le l t
  have h4 : (l.take m).length = m := by rw [List.length_take]; omega
  unfold cnt at *
  omega
theorem cnt_mono (l : List Vn) {t u : Int} (h : t ≤ u) : cnt l t ≤ cnt l u := by
  unfold cnt
  exact List.countP_mono_left fun y _ hy => by simp only [decide_eq_true_eq] at *; omega
/-- Nothing that is seen at or behind the floor changes. -/
theorem at_drop {l : List Vn} (h : Asc l) {t u : Int} (htu : t ≤ u) : atM (l.drop (cnt l t - 1)) u = atM l u := by
  have h1 := cnt_mono l htu
  have h2 := cnt_drop h (t := u) (m := cnt l t - 1) (by omega)
  unfold atM
  rw [h2]
  by_cases h0 : cnt l u = 0
  · rw [if_pos (by omega), if_pos h0]
  · rw [if_neg (by omega), if_neg h0, List.getElem?_drop]
    congr 1
    omega
theorem af_drop {l : List Vn} (h : Asc l) {t u : Int} (htu : t ≤ u) : afM (l.drop (cnt l t - 1)) u = afM l u := by
  have h1 := cnt_mono l htu
  have h2 := cnt_drop h (t := u) (m := cnt l t - 1) (by omega)
  unfold afM
  rw [h2, List.getElem?_drop]
  congr 1
  omega
theorem prn_idem {A : List En} (h : Good A) (t : Int) : prn (prn A t) t = prn A t := by
  refine List.filter_eq_self.2 fun e he => ?_
  have hm : e.x ∈ ch (prn A t) e.key := mem_ch.2 ⟨e, he, rfl, rfl⟩
  have hk := ((h.prn t) e.key).keep_drop t
  have hc : cnt (ch (prn A t) e.key) t - 1 = 0 := by
    rw [h.prn_ch, cnt_drop (h e.key) (by omega)]
    omega
  rw [hc, List.drop_zero] at hk
  exact List.filter_eq_self.1 hk _ hm
theorem prn_keys {A : List En} (h : Good A) {t : Int} {l : List (List UInt8)} (hk : KeysOf (prn A t) l) : KeysOf A l := by
  refine ⟨hk.1, fun x => (hk.2 x).trans ⟨fun ⟨e, he, hx⟩ => ⟨e, (List.mem_filter.1 he).1, hx⟩, fun ⟨e, he, hx⟩ => ?_⟩⟩
  have hne : ch A e.key ≠ [] := ch_ne_nil.2 ⟨e, he, rfl⟩
  have : ch (prn A t) e.key ≠ [] := by
    rw [h.prn_ch]
    intro e'
    have := congrArg List.length e'
    have h1 := cnt_le (ch A e.key) t
    have h2 := List.length_pos_iff.2 hne
    simp only [List.length_drop, List.length_nil] at this
    omega
  obtain ⟨e2, he2, hx2⟩ := ch_ne_nil.1 this
  exact ⟨e2, he2, hx2.trans hx⟩
/-- Each chain of the one is an end of the other's. -/
def Suf (P A : List En) : Prop := ∀ k, ∃ m, ch P k = (ch A k).drop m ∧ m ≤ (ch A k).length - 1
theorem Suf.prn {A : List En} (h : Good A) (t : Int) : Suf (prn A t) A := fun k => ⟨cnt (ch A k) t - 1, h.prn_ch t k, by have := cnt_le (ch A k) t; omega⟩
theorem Suf.stale {P A : List En} (h : Suf P A) (gP : Good P) (gA : Good A) (k : ByteArray) (x : Vn) : stale (ch P k) x = stale (ch A k) x := by
  obtain ⟨m, e, hm⟩ := h k
  by_cases hn : ch A k = []
  · rw [e, hn]; simp
  · obtain ⟨l', y, el⟩ : ∃ l' y, ch A k = l' ++ [y] := ⟨_, _, (List.dropLast_concat_getLast hn).symm⟩
    have e2 : ch P k = l'.drop m ++ [y] := by
      rw [e, el, List.drop_append_of_le_length]
      rw [el] at hm
      simpa using hm
    have h1 := stale_last (by rw [← el]; exact gA k) x
    have h2 := stale_last (by rw [← e2]; exact gP k) x
    rw [e2, h2, el, h1]
theorem Suf.code {P A : List En} (h : Suf P A) (gP : Good P) (gA : Good A) (k : ByteArray) (x : Vn) : code P k x = code A k x := by
  unfold Ytnjpbagfbklofaa.code
  rw [h.stale gP gA]
theorem Suf.inst {P A : List En} (h : Suf P A) (gP : Good P) (gA : Good A) (k : ByteArray) (x : Vn) : Suf (inst P k x) (inst A k x) := by
  unfold Ytnjpbagfbklofaa.inst
  rw [h.code gP gA]
  split
  · intro k'
    obtain ⟨m, e, hm⟩ := h k'
    refine ⟨m, ?_, by rw [ch_append, List.length_append]; omega⟩
    rw [ch_append, ch_append, List.drop_append_of_le_length (by omega), e]
  · exact h
/-- Of what Prune left none but the first may lie at or below the floor. -/
theorem prn_second {A : List En} (h : Good A) {t : Int} {k : ByteArray} {y : Vn} (hy : (ch (prn A t) k)[1]? = some y) : t < y.c := by
  have hc : cnt (ch (prn A t) k) t ≤ 1 := by
    rw [h.prn_ch, cnt_drop (h k) (by omega)]
    omega
  have := mt (((h.prn t) k).cnt_iff t hy).2
  omega
theorem prn_some {A : List En} (h : Good A) {t : Int} {k : ByteArray} (hn : ch A k ≠ []) : 0 < (ch (prn A t) k).length := by
  rw [h.prn_ch, List.length_drop]
  have h1 := cnt_le (ch A k) t
  have h2 := List.length_pos_iff.2 hn
  omega
theorem Try.bytesI13 : Try.prog.bytesOf 3 = 8 := by kernel_rfl
theorem open_argI {H : Type} {enc : TypeId × Value → H} {W : World} {fuel : Nat} {sa : Option Addr} {len cap : Nat} {d : DataW H} {p : List MemPlace}
    (h : DataW.trod enc Try.prog W 0 (fun _ => true) true fuel 44 [.slice sa len cap] = some (d, p)) : ∃ l : List Int, len = l.length ∧ ((∀ n ∈ d.weights Try.prog 44, n ≤ reachBytes) → NumsAt W sa l ∧ l.length ≤ 17592186044416) := by
  rcases Go.Deep.open_slice1 Try.underlying44 Try.cellsI h with ⟨hcs, hd⟩ | ⟨a, len', cap', m, n, V, D, Pl, hcs, _, hl, hm, hmm, hd, hx⟩
  · simp only [List.cons.injEq, Value.slice.injEq, and_true] at hcs
    obtain ⟨rfl, rfl, rfl⟩ := hcs
    exact ⟨[], rfl, fun _ => ⟨fun i x hx => by simp at hx, by simp⟩⟩
  · simp only [List.cons.injEq, Value.slice.injEq, and_true] at hcs
    obtain ⟨rfl, rfl, rfl⟩ := hcs
    simp only [if_true] at hmm
    simp only [Prod.mk.injEq] at hd
    have each : ∀ i, i < len → ∃ x : Int, W.cell? (a.add i) = some (.int .i64 x) := by
      intro i hi
      obtain ⟨h1, h2⟩ := hx i (by omega)
      obtain ⟨x, e, _⟩ := DataW.trod_int Try.underlying3 h2
      simp only [List.cons.injEq, and_true] at e
      rw [e] at h1
      exact ⟨x, h1⟩
    obtain ⟨q, hq⟩ := Go.Deep.choose_lt each
    obtain ⟨e1, e2⟩ := list_of len q
    refine ⟨(List.range len).map q, e1.symm, fun hw => ⟨fun i x hi => ?_, ?_⟩⟩
    · obtain ⟨hi', rfl⟩ := e2 i x hi
      have h0 := hq i hi'
      have h00 := hq 0 (by omega)
      obtain ⟨b, off, spot⟩ := a
      have hspot : spot = none := by simpa [Addr.add] using World.cell?_spot h00
      subst hspot
      rw [Go.WideShapes.add_plain] at h0
      exact ⟨b, off, rfl, World.block_lt_of_cell? W _ h0, h0⟩
    · rw [e1]
      have := hw ((len + (m - len)) * 8) (by
        rw [hd.1]
        simp only [DataW.weights, Try.underlying44, Try.bytesI13, List.length_map, List.length_range]
        exact List.mem_cons_self)
      unfold reachBytes at this
      omega
end Go.Proofs.Ytnjpbagfbklofaa
