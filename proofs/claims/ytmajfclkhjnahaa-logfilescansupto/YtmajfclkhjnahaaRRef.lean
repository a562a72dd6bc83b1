/- What is proved: the document's cursor in memory, and its Step at every call; no condition. -/
import Derived.Test.YtmajfclkhjnahaaWAt
import Derived.Test.YtmajfclkhjnahaaRText
namespace Go.Proofs.Ytmajfclkhjnahaa
open Go.RowKit

def rcurO (a : Option Addr) (n cap pl : Nat) (ft : Int) : Obj := .cells #[.slice a n cap, .int .i64 pl, .int .i64 ft] 89 (0, 0)
/-- The document's cursor over the bytes l, at the place pl, with the fault ft, lies in w: in block cb, its bytes at a. -/
structure RC (w : World) (cb : Nat) (a : Option Addr) (cap : Nat) (l : List Int) (pl : Nat) (ft : Int) : Prop where
  obj : w.heap[cb]? = some (rcurO a l.length cap pl ft)
  data : BytesAt w a l
  lcap : l.length ≤ cap
  ple : pl ≤ l.length
  apart : ∀ k, InB a l.length k → k ≠ cb
  byts : Byts l
  len : l.length ≤ 140737488355328
theorem RC.lt {w : World} {cb : Nat} {a : Option Addr} {cap : Nat} {l : List Int} {pl : Nat} {ft : Int} (h : RC w cb a cap l pl ft) : cb < w.heap.size := lt_of_heap h.obj
theorem RC.cells {w : World} {cb : Nat} {a : Option Addr} {cap : Nat} {l : List Int} {pl : Nat} {ft : Int} (h : RC w cb a cap l pl ft) :
    w.cell? ⟨cb, 0, none⟩ = some (.slice a l.length cap) ∧ w.cell? ⟨cb, 1, none⟩ = some (.int .i64 pl) ∧ w.cell? ⟨cb, 2, none⟩ = some (.int .i64 ft) ∧ w.frozen? ⟨cb, 1, none⟩ = false ∧ w.frozen? ⟨cb, 2, none⟩ = false :=
  ⟨(cell_of h.obj 0).trans rfl, (cell_of h.obj 1).trans rfl, (cell_of h.obj 2).trans rfl, frozen_of h.obj 1, frozen_of h.obj 2⟩
theorem RC.kept {S : Nat → Prop} {w w' : World} {cb : Nat} {a : Option Addr} {cap : Nat} {l : List Int} {pl : Nat} {ft : Int} (h : RC w cb a cap l pl ft) (hs : Same S w w') (h1 : ¬ S cb) (h2 : ∀ k, InB a l.length k → ¬ S k) : RC w' cb a cap l pl ft :=
  ⟨(hs.block cb h.lt h1).trans h.obj, h.data.kept hs h2, h.lcap, h.ple, h.apart, h.byts, h.len⟩
theorem RC.on {w w' : World} {cb : Nat} {a : Option Addr} {cap : Nat} {l : List Int} {pl : Nat} {ft : Int} (h : RC w cb a cap l pl ft) (hs : Kept w w') : RC w' cb a cap l pl ft := h.kept hs (fun h => h) (fun _ _ h => h)
/-- What a store into the place or the fault leaves. -/
theorem RC.place {w : World} {cb : Nat} {a : Option Addr} {cap : Nat} {l : List Int} {pl : Nat} {ft : Int} (h : RC w cb a cap l pl ft) (q : Nat) (hq : q ≤ l.length) : RC (w.setCell ⟨cb, 1, none⟩ (.int .i64 q)) cb a cap l q ft ∧ Same (fun k => k = cb) w (w.setCell ⟨cb, 1, none⟩ (.int .i64 q)) := by
  have hs : Same (fun k => k = cb) w (w.setCell ⟨cb, 1, none⟩ (.int .i64 q)) := Same.setCell (S := fun k => k = cb) (Same.refl _ w) _ (.inr rfl) _
  refine ⟨⟨(setCell_at h.obj 1 _).trans ?_, h.data.kept hs (fun k hk e => ?_), h.lcap, hq, h.apart, h.byts, h.len⟩, hs⟩
  · rw [rcurO]
    congr 2
  · exact h.apart k hk e
theorem RC.fault {w : World} {cb : Nat} {a : Option Addr} {cap : Nat} {l : List Int} {pl : Nat} {ft : Int} (h : RC w cb a cap l pl ft) (z : Int) : RC (w.setCell ⟨cb, 2, none⟩ (.int .i64 z)) cb a cap l pl z ∧ Same (fun k => k = cb) w (w.setCell ⟨cb, 2, none⟩ (.int .i64 z)) := by
  have hs : Same (fun k => k = cb) w (w.setCell ⟨cb, 2, none⟩ (.int .i64 z)) := Same.setCell (S := fun k => k = cb) (Same.refl _ w) _ (.inr rfl) _
  refine ⟨⟨(setCell_at h.obj 2 _).trans ?_, h.data.kept hs (fun k hk e => ?_), h.lcap, h.ple, h.apart, h.byts, h.len⟩, hs⟩
  · rw [rcurO]
    congr 2
  · exact h.apart k hk e


theorem bytes_partO {w : World} {g o : Nat} {l : List Int} (h : BytesAt w (some ⟨g, o, none⟩) l) (i n : Nat) : BytesAt w (some ⟨g, o + i, none⟩) ((l.drop i).take n) := fun j x hx => by
  have hj := (List.getElem?_eq_some_iff.1 hx).1
  simp only [List.length_take, List.length_drop] at hj
  rw [List.getElem?_take_of_lt (by omega), List.getElem?_drop] at hx
  obtain ⟨b, off, e, hb, hc⟩ := h _ _ hx
  cases e
  exact ⟨g, o + i, rfl, hb, by rw [Nat.add_assoc]; exact hc⟩
/-- A piece of the document's bytes, as a slice. -/
theorem slice_part {w : World} {rb : Nat} {a : Option Addr} {cap : Nat} {l : List Int} {pl : Nat} {ft : Int} (h : RC w rb a cap l pl ft) (f t : Nat) (hf : f ≤ t) (ht : t ≤ l.length) (hpos : 0 < l.length) :
    ∃ a', (∀ W, (Instr.sliceAt 27 (.slice a l.length cap) (some (.int .i64 (f : Int))) (some (.int .i64 (t : Int))) none).run Try.prog W = .ok (.slice a' (t - f) (cap - f)) W) ∧ BytesAt w a' ((l.drop f).take (t - f)) ∧ (∀ g off, a' = some ⟨g, off, none⟩ → g ≠ rb) ∧ ∃ g off, a' = some ⟨g, off, none⟩ := by
  have hc := h.lcap
  have h1 : (t : Int) ≤ (cap : Int) := by omega
  have h2 : (f : Int) ≤ (t : Int) := by omega
  obtain ⟨g, o, rfl, -, -⟩ := h.data 0 _ (List.getElem?_eq_getElem hpos)
  have hg := h.apart g ⟨hpos, o, rfl⟩
  by_cases hpc : cap = f
  · refine ⟨some ⟨g, o, none⟩, fun W => ?_, ?_, (fun g' off e => by cases e; exact hg), _, _, rfl⟩
    · obtain rfl : t = f := by omega
      go_simp
    · rw [List.drop_eq_nil_of_le (by omega), List.take_nil]
      exact BytesAt.nil _ _
  · refine ⟨some ⟨g, o + f, none⟩, fun W => ?_, bytes_partO h.data f (t - f), (fun g' off e => by cases e; exact hg), _, _, rfl⟩
    go_simp

section
variable {w : World} {rb : Nat} {a : Option Addr} {cap : Nat} {l : List Int} {pl : Nat} {ft : Int}
set_option maxRecDepth 100000 in
set_option maxHeartbeats 1600000 in
theorem step_ft (h : RC w rb a cap l pl ft) (hf : ft ≠ 0) (k A B : Int) : Calls Try.prog 47 #[.pointer (some ⟨rb, 0, none⟩), .int .i64 k, .int .i64 A, .int .i64 B] w fun e w' => e = .returned (.tuple #[.int .i64 0, .slice none 0 0, .int .i64 ft]) ∧ RC w' rb a cap l pl ft ∧ Same (fun k => k = rb) w w' := by
  obtain ⟨c0, c1, c2, -, -⟩ := h.cells
  have hlt := h.lt
  have hf' : (ft != 0) = true := by simpa using hf
  have H : Hid _ := h
  clear h hf
  go_enter Try.func47, Try.ntmps47
  go_wp2_with fail
  go_quiet (fail)
  go_wp2_with fail
  go_ret3
  exact ⟨rfl, H.out.on (Same.drewN (Same.refl _ _) _), Same.drewN (Same.refl _ _) _⟩

/-- Two stores into the place. -/
theorem RC.place2 (h : RC w rb a cap l pl ft) (f t : Nat) (hf : f ≤ l.length) (ht : t ≤ l.length) : RC ((w.setCell ⟨rb, 1, none⟩ (.int .i64 f)).setCell ⟨rb, 1, none⟩ (.int .i64 t)) rb a cap l t ft ∧ Same (fun k => k = rb) w ((w.setCell ⟨rb, 1, none⟩ (.int .i64 f)).setCell ⟨rb, 1, none⟩ (.int .i64 t)) :=
  ⟨((h.place f hf).1.place t ht).1, (h.place f hf).2.trans' ((h.place f hf).1.place t ht).2⟩

set_option maxRecDepth 100000 in
set_option maxHeartbeats 3200000 in
theorem step_byte (h : RC w rb a cap l pl ft) (A B : Int) : Calls Try.prog 47 #[.pointer (some ⟨rb, 0, none⟩), .int .i64 1, .int .i64 A, .int .i64 B] w fun e w' => e = .returned (.tuple #[.int .i64 (rByte l pl ft).1.1, .slice none 0 0, .int .i64 (rByte l pl ft).1.2]) ∧ RC w' rb a cap l (rByte l pl ft).2.1 (rByte l pl ft).2.2 ∧ Same (fun k => k = rb) w w' := by
  by_cases hf : ft = 0
  · obtain ⟨c0, c1, c2, f1, f2⟩ := h.cells
    have hlt := h.lt
    have hple := h.ple
    have hlen := h.len
    obtain ⟨d, ed⟩ : ∃ d, d = l.length - pl := ⟨_, rfl⟩
    have hd : (l.length : Int) - (pl : Int) = (d : Int) := by omega
    have hd2 : (d : Int) ≤ 140737488355328 := by omega
    subst hf
    by_cases he : l.length ≤ pl
    · have er : rByte l pl 0 = ((0, 51), (pl, 51)) := by
        unfold rByte
        rw [if_neg (by decide), if_pos he]
      rw [er]
      have H1 : Hid (∀ W, Kept w W → _) := fun W (k : Kept w W) => (h.on k).fault 51
      obtain rfl : d = 0 := by omega
      obtain ⟨L, eL⟩ : ∃ L, L = l.length := ⟨_, rfl⟩
      rw [← eL] at c0 hd
      clear h er he ed eL hlen hple
      go_enter Try.func47, Try.ntmps47
      go_wp2_with fail
      go_quiet (fail)
      go_wp2_with fail
      go_quiet (fail)
      go_wp2_with fail
      go_ret3
      exact ⟨rfl, (H1.out _ (Same.drewN (Same.refl _ _) _)).1.on (Same.drewN (Same.refl _ _) _), ((Kept.to (Same.drewN (Same.refl _ _) _) _).trans' (H1.out _ (Same.drewN (Same.refl _ _) _)).2).drewN _⟩
    · obtain ⟨x, hx⟩ : ∃ x, l[pl]? = some x := ⟨_, List.getElem?_eq_getElem (by omega)⟩
      have er : rByte l pl 0 = ((x, 0), (pl + 1, 0)) := by
        unfold rByte
        rw [if_neg (by decide), if_neg he]
        simp [List.getD, hx]
      rw [er]
      obtain ⟨x0, x1⟩ := Byts.get h.byts hx
      have HH : Hid (∀ W, Kept w W → _) := fun W (k : Kept w W) => (h.on k).place2 pl (pl + 1) hple (by omega)
      have hdat := h.data pl x hx
      obtain ⟨b, off, ea, -, q0⟩ := hdat
      have hbr : b ≠ rb := h.apart b ⟨by omega, off, ea⟩
      rw [ea] at c0 HH ⊢
      have d1 : decide ((d : Int) < 1) = false := decide_eq_false (by omega)
      have d1' : ¬ (d : Int) < 1 := by omega
      obtain ⟨L, eL⟩ : ∃ L, L = l.length := ⟨_, rfl⟩
      rw [← eL] at c0 hd hlen hple
      have hpL : (pl : Int) < (L : Int) := by omega
      have hpl2 : (pl : Int) ≤ 140737488355328 := by omega
      obtain ⟨p1, ep⟩ : ∃ p1, p1 = pl + 1 := ⟨_, rfl⟩
      have hp1 : (pl : Int) + 1 = (p1 : Int) := by omega
      rw [← ep] at HH ⊢
      clear h er he ed eL hx ea ep
      go_enter Try.func47, Try.ntmps47
      go_wp2_with fail
      go_quiet (fail)
      go_wp2_with fail
      go_ret3
      exact ⟨rfl, (HH.out _ (Same.drewN (Same.refl _ _) _)).1, (Kept.to (Same.drewN (Same.refl _ _) _) _).trans' (HH.out _ (Same.drewN (Same.refl _ _) _)).2⟩
  · rw [rByte_ft hf]
    exact step_ft h hf 1 A B
end
end Go.Proofs.Ytmajfclkhjnahaa
