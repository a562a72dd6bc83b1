/- What is proved: what the methods block of a reader's two sources do; the device lies in memory, and the number is one of the file's. -/
import Derived.Test.YtpjkmficpedmcaaSReads
import Derived.Deep.RegionLaw
namespace Go.Proofs.Ytpjkmficpedmcaa
open Go.RowKit

/-- Ints in memory. -/
def NumsAt (w : World) (a : Option Addr) (l : List Int) : Prop :=
  ∀ i x, l[i]? = some x → ∃ b off, a = some ⟨b, off, none⟩ ∧ b < w.heap.size ∧ w.cell? ⟨b, off + i, none⟩ = some (.int .i64 x)
theorem NumsAt.nil (w : World) (a : Option Addr) : NumsAt w a [] := fun i x h => by simp at h
theorem NumsAt.kept {S : Nat → Prop} {w w' : World} {a : Option Addr} {l : List Int} (h : NumsAt w a l) (hs : Same S w w') (hd : ∀ k, InB a l.length k → ¬ S k) : NumsAt w' a l := fun i x hx => by
  obtain ⟨b, off, rfl, hb, hc⟩ := h i x hx
  exact ⟨b, off, rfl, Nat.lt_of_lt_of_le hb hs.size, (hs.cell (p := ⟨b, off + i, none⟩) hb (hd b ⟨pos_of_get hx, off, rfl⟩)).trans hc⟩
theorem NumsAt.lt {w : World} {a : Option Addr} {l : List Int} (h : NumsAt w a l) {k : Nat} (hk : InB a l.length k) : k < w.heap.size := by
  obtain ⟨h0, off, rfl⟩ := hk
  obtain ⟨b, off', e, hb, _⟩ := h 0 l[0] (List.getElem?_eq_getElem h0)
  cases e
  exact hb

/-- What has turned lies in blocks with tags of S, and the tags of what was there stay. -/
structure Step (S : Nat → Prop) (o : Nat → Nat) (w : World) (o' : Nat → Nat) (w' : World) : Prop where
  same : Same (fun k => S (o k)) w w'
  tag : ∀ k, k < w.heap.size → o' k = o k
theorem Step.refl (S : Nat → Prop) (o : Nat → Nat) (w : World) : Step S o w o w := ⟨Same.refl _ _, fun _ _ => rfl⟩
theorem Step.trans {S : Nat → Prop} {o o' o'' : Nat → Nat} {w w' w'' : World} (h : Step S o w o' w') (k : Step S o' w' o'' w'') : Step S o w o'' w'' :=
  ⟨h.same.trans k.same fun i hi hs => by rw [h.tag i hi] at hs; exact hs, fun i hi => (k.tag i (Nat.lt_of_lt_of_le hi h.same.size)).trans (h.tag i hi)⟩
theorem Step.mono {S S' : Nat → Prop} {o o' : Nat → Nat} {w w' : World} (h : Step S o w o' w') (hs : ∀ n, S n → S' n) : Step S' o w o' w' := ⟨h.same.mono fun _ _ h' => hs _ h', h.tag⟩
theorem Step.kept {S : Nat → Prop} {o : Nat → Nat} {w w' : World} (h : Kept w w') : Step S o w o w' := ⟨h.to _, fun _ _ => rfl⟩
/-- New blocks get the tag t. -/
def tagN (w : World) (t : Nat) (o : Nat → Nat) : Nat → Nat := fun k => if k < w.heap.size then o k else t
theorem tagN_old {w : World} {t : Nat} {o : Nat → Nat} {k : Nat} (h : k < w.heap.size) : tagN w t o k = o k := if_pos h
theorem tagN_new {w : World} {t : Nat} {o : Nat → Nat} {k : Nat} (h : w.heap.size ≤ k) : tagN w t o k = t := if_neg (by omega)

/-- A device and its tags: 1 what it writes, 0 what it only reads. -/
structure DvT (o : Nat → Nat) (w : World) (m : M) (p : Pl) : Prop where
  dv : Dv w m p
  own : ∀ k, Own p k → o k = 1
  inp : ∀ k, InB p.ia m.inp.length k → o k = 0
  flt : ∀ k, InB p.fa m.F.length k → o k = 0
theorem DvT.on {S : Nat → Prop} {o o' : Nat → Nat} {w w' : World} {m : M} {p : Pl} (h : DvT o w m p) (hs : Step S o w o' w') (h0 : ¬ S 0) (h1 : ¬ S 1) : DvT o' w' m p where
  dv := h.dv.kept hs.same fun k hk => by
    rcases hk with hk | hk | hk
    · rw [h.own k hk]; exact h1
    · rw [h.inp k hk]; exact h0
    · rw [h.flt k hk]; exact h0
  own := fun k hk => (hs.tag k (h.dv.lt (.inl hk))).trans (h.own k hk)
  inp := fun k hk => (hs.tag k (h.dv.lt (.inr (.inl hk)))).trans (h.inp k hk)
  flt := fun k hk => (hs.tag k (h.dv.lt (.inr (.inr hk)))).trans (h.flt k hk)
/-- The device has turned by itself. -/
theorem DvT.turn {o : Nat → Nat} {w w' : World} {m m' : M} {p : Pl} (h : DvT o w m p) (h' : Dv w' m' p) (e1 : m'.inp = m.inp) (e2 : m'.F = m.F) (t : Nat) : DvT (tagN w t o) w' m' p where
  dv := h'
  own := fun k hk => (tagN_old (h.dv.lt (.inl hk))).trans (h.own k hk)
  inp := fun k hk => by rw [e1] at hk; exact (tagN_old (h.dv.lt (.inr (.inl hk)))).trans (h.inp k hk)
  flt := fun k hk => by rw [e2] at hk; exact (tagN_old (h.dv.lt (.inr (.inr hk)))).trans (h.flt k hk)
theorem readR_keeps (m : M) (r : Int) (c : M) (n : Nat) (l : List Int) (b : Int) (e1 : c.inp = m.inp) (e2 : c.F = m.F) (e3 : c.B = m.B) (e4 : c.S = m.S) (e5 : c.scr = m.scr) (e6 : c.k ≤ m.k + 1) : (m.readR r c n l b).2.2.inp = m.inp ∧ (m.readR r c n l b).2.2.F = m.F ∧ (m.readR r c n l b).2.2.B = m.B ∧ (m.readR r c n l b).2.2.S = m.S ∧ (m.readR r c n l b).2.2.scr = m.scr ∧ (m.readR r c n l b).2.2.k ≤ m.k + 3 := by
  unfold M.readR
  split
  · exact ⟨rfl, rfl, rfl, rfl, rfl, Nat.le_add_right _ _⟩
  · split
    · exact ⟨rfl, rfl, rfl, rfl, rfl, Nat.le_add_right _ _⟩
    · split
      · refine ⟨e1, e2, e3, e4, e5, ?_⟩
        simp only [M.hit, M.rd]
        omega
      · refine ⟨e1, e2, e3, e4, e5, ?_⟩
        simp only [M.rd]
        omega
theorem blk_keeps (f : Src) (m : M) (i : Nat) : (f.blk m i).2.2.inp = m.inp ∧ (f.blk m i).2.2.F = m.F ∧ (f.blk m i).2.2.B = m.B ∧ (f.blk m i).2.2.S = m.S ∧ (f.blk m i).2.2.scr = m.scr ∧ (f.blk m i).2.2.k ≤ m.k + 3 := by
  cases f with
  | inp => exact readR_keeps m _ _ _ _ _ rfl rfl rfl rfl rfl (Nat.le_refl _)
  | file L => exact readR_keeps m _ _ _ _ _ rfl rfl rfl rfl rfl (Nat.le_refl _)

set_option maxRecDepth 100000 in
set_option maxHeartbeats 1600000 in
theorem inblock_any {w : World} {m : M} {p : Pl} (h : Dv w m p) (b : Int) (hk : m.k + 1 < 4611686018427387904) :
    Calls Try.prog 76 #[.agg #[.pointer (some ⟨p.db, 0, none⟩)], .int .i64 b] w (RPostC p w (m.readIn b)) := by
  have hd1 : Dv (w.alloc (.cells #[.pointer (some ⟨p.db, 0, none⟩)] 80)) m p := h.kept0 ((Same.refl _ w).alloc _)
  have HR : Hid _ := readInput_c hd1 b hk
  clear h hd1
  go_enter Try.func76, Try.ntmps76
  go_wp2_with fail
  refine Calls.mono HR.out ?_
  rintro e w1 ⟨a, rfl, q1, q2, q3, q4, q5⟩
  have Q1 : Hid _ := And.intro q1 (And.intro q2 (And.intro q3 (And.intro q4 q5)))
  clear q1 q2 q3 q4 q5
  go_wp2_with fail
  go_ret2
  obtain ⟨q1, q2, q3, q4, q5⟩ := Q1.out
  exact ⟨a, rfl, q1, fun k hk => by have := q2 k hk; simp at this; omega, q3, ((Same.refl _ w).alloc _).trans' q4, q5⟩

set_option maxRecDepth 100000 in
set_option maxHeartbeats 1600000 in
theorem fbblock_any {w : World} {m : M} {p : Pl} (h : Dv w m p) (L : List Int) (na : Option Addr) (nc i : Nat) (b : Int) (hn : NumsAt w na L) (hi : L[i]? = some b) (hk : m.k + 1 < 4611686018427387904) :
    Calls Try.prog 71 #[.agg #[.pointer (some ⟨p.db, 0, none⟩), .slice na L.length nc], .int .i64 i] w (RPostC p w (m.readSc b)) := by
  obtain ⟨nb, off, rfl, hnb, hc⟩ := hn i b hi
  have hlt := (List.getElem?_eq_some_iff.1 hi).1
  have hlt2 : (i : Int) < (L.length : Int) := by omega
  have HR : Hid (∀ W, Kept w W → _) := fun W (k : Kept w W) => readScratch_c (h.kept0 k) b hk
  have hc1 : ∀ o, (w.alloc o).cell? ⟨nb, off + i, none⟩ = some (.int .i64 b) := fun o => (((Same.refl (fun _ => False) w).alloc o).cell (p := ⟨nb, off + i, none⟩) hnb (fun h => h)).trans hc
  clear h hn hi
  go_enter Try.func71, Try.ntmps71
  go_wp2_with fail
  go_region_with (refine Calls.mono (HR.out _ (by (repeat (first | exact Same.refl _ _ | apply Same.alloc | apply Same.drew)); done)) ?_; rintro e w1 ⟨a, rfl, q1, q2, q3, q4, q5⟩; have Q1 : Hid _ := And.intro q1 (And.intro q2 (And.intro q3 (And.intro q4 q5))); clear q1 q2 q3 q4 q5)
  all_goals
    go_wp2_with fail
    go_ret2
    obtain ⟨q1, q2, q3, q4, q5⟩ := Q1.out
    exact ⟨a, rfl, q1, fun k hk => by have := q2 k hk; simp at this; omega, q3, Same.trans' (by (repeat (first | exact Same.refl _ _ | apply Same.alloc | apply Same.drew)); done) q4, q5⟩
end Go.Proofs.Ytpjkmficpedmcaa
