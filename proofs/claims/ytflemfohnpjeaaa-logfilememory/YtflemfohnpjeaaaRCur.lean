/- What is proved: the small calls of a cursor that lies in memory: Offset, Left, Fault, fail, pass; no condition. -/
import Derived.Test.YtflemfohnpjeaaaWFirst
namespace Go.Proofs.Ytflemfohnpjeaaa
open Go.RowKit

def curO (a : Option Addr) (n cap pl : Nat) (ft : Int) : Obj := .cells #[.slice a n cap, .int .i64 pl, .int .i64 ft] 88 (0, 0)
/-- A cursor over the bytes l, at the place pl, with the fault ft, lies in w: in block cb, its bytes at a. -/
structure Cu (w : World) (cb : Nat) (a : Option Addr) (cap : Nat) (l : List Int) (pl : Nat) (ft : Int) : Prop where
  obj : w.heap[cb]? = some (curO a l.length cap pl ft)
  data : BytesAt w a l
  lcap : l.length ≤ cap
  ple : pl ≤ l.length
  loc : (a = none ∧ l.length = 0 ∧ cap = 0) ∨ ∃ g, a = some ⟨g, 0, none⟩ ∧ g ≠ cb
  byts : Byts l
  len : l.length ≤ 140737488355328
theorem Cu.lt {w : World} {cb : Nat} {a : Option Addr} {cap : Nat} {l : List Int} {pl : Nat} {ft : Int} (h : Cu w cb a cap l pl ft) : cb < w.heap.size := lt_of_heap h.obj
theorem Cu.cells {w : World} {cb : Nat} {a : Option Addr} {cap : Nat} {l : List Int} {pl : Nat} {ft : Int} (h : Cu w cb a cap l pl ft) :
    w.cell? ⟨cb, 0, none⟩ = some (.slice a l.length cap) ∧ w.cell? ⟨cb, 1, none⟩ = some (.int .i64 pl) ∧ w.cell? ⟨cb, 2, none⟩ = some (.int .i64 ft) ∧ w.frozen? ⟨cb, 1, none⟩ = false ∧ w.frozen? ⟨cb, 2, none⟩ = false :=
  ⟨(cell_of h.obj 0).trans rfl, (cell_of h.obj 1).trans rfl, (cell_of h.obj 2).trans rfl, frozen_of h.obj 1, frozen_of h.obj 2⟩
theorem Cu.kept {S : Nat → Prop} {w w' : World} {cb : Nat} {a : Option Addr} {cap : Nat} {l : List Int} {pl : Nat} {ft : Int} (h : Cu w cb a cap l pl ft) (hs : Same S w w') (h1 : ¬ S cb) (h2 : ∀ g, a = some ⟨g, 0, none⟩ → ¬ S g) : Cu w' cb a cap l pl ft :=
  ⟨(hs.block cb h.lt h1).trans h.obj, h.data.kept hs (fun k hk => by
    rcases h.loc with ⟨rfl, h0, _⟩ | ⟨g, rfl, _⟩
    · exact absurd hk.1 (by omega)
    · obtain ⟨_, off, e⟩ := hk
      cases e
      exact h2 _ rfl), h.lcap, h.ple, h.loc, h.byts, h.len⟩
theorem Cu.on {w w' : World} {cb : Nat} {a : Option Addr} {cap : Nat} {l : List Int} {pl : Nat} {ft : Int} (h : Cu w cb a cap l pl ft) (hs : Kept w w') : Cu w' cb a cap l pl ft := h.kept hs (fun h => h) (fun _ _ h => h)
/-- What a store into the place or the fault leaves. -/
theorem Cu.place {w : World} {cb : Nat} {a : Option Addr} {cap : Nat} {l : List Int} {pl : Nat} {ft : Int} (h : Cu w cb a cap l pl ft) (q : Nat) (hq : q ≤ l.length) : Cu (w.setCell ⟨cb, 1, none⟩ (.int .i64 q)) cb a cap l q ft ∧ Same (fun k => k = cb) w (w.setCell ⟨cb, 1, none⟩ (.int .i64 q)) := by
  have hs : Same (fun k => k = cb) w (w.setCell ⟨cb, 1, none⟩ (.int .i64 q)) := Same.setCell (S := fun k => k = cb) (Same.refl _ w) _ (.inr rfl) _
  refine ⟨⟨(setCell_at h.obj 1 _).trans ?_, h.data.kept hs (fun k hk e => ?_), h.lcap, hq, h.loc, h.byts, h.len⟩, hs⟩
  · rw [curO]
    congr 2
  · rcases h.loc with ⟨rfl, h0, _⟩ | ⟨g, rfl, hg⟩
    · exact absurd hk.1 (by omega)
    · obtain ⟨_, off, e'⟩ := hk
      cases e'
      exact hg e
theorem Cu.fault {w : World} {cb : Nat} {a : Option Addr} {cap : Nat} {l : List Int} {pl : Nat} {ft : Int} (h : Cu w cb a cap l pl ft) (z : Int) : Cu (w.setCell ⟨cb, 2, none⟩ (.int .i64 z)) cb a cap l pl z ∧ Same (fun k => k = cb) w (w.setCell ⟨cb, 2, none⟩ (.int .i64 z)) := by
  have hs : Same (fun k => k = cb) w (w.setCell ⟨cb, 2, none⟩ (.int .i64 z)) := Same.setCell (S := fun k => k = cb) (Same.refl _ w) _ (.inr rfl) _
  refine ⟨⟨(setCell_at h.obj 2 _).trans ?_, h.data.kept hs (fun k hk e => ?_), h.lcap, h.ple, h.loc, h.byts, h.len⟩, hs⟩
  · rw [curO]
    congr 2
  · rcases h.loc with ⟨rfl, h0, _⟩ | ⟨g, rfl, hg⟩
    · exact absurd hk.1 (by omega)
    · obtain ⟨_, off, e'⟩ := hk
      cases e'
      exact hg e

section
variable {w : World} {cb : Nat} {a : Option Addr} {cap : Nat} {l : List Int} {pl : Nat} {ft : Int}
set_option maxRecDepth 100000 in
theorem offset_any (h : Cu w cb a cap l pl ft) : Calls Try.prog 48 #[.pointer (some ⟨cb, 0, none⟩)] w fun e w' => e = .returned (.int .i64 pl) ∧ w' = w := by
  obtain ⟨-, c1, -, -, -⟩ := h.cells
  clear h
  go_enter Try.func48, Try.ntmps48
  go_wp2
  go_ret
  exact ⟨rfl, rfl⟩
set_option maxRecDepth 100000 in
theorem left_any (h : Cu w cb a cap l pl ft) : Calls Try.prog 63 #[.pointer (some ⟨cb, 0, none⟩)] w fun e w' => e = .returned (.int .i64 ((l.length - pl : Nat) : Int)) ∧ Kept w w' := by
  obtain ⟨c0, c1, -, -, -⟩ := h.cells
  have hp := h.ple
  have hl := h.len
  obtain ⟨n, en⟩ : ∃ n, n = l.length := ⟨_, rfl⟩
  rw [← en] at c0 hp hl ⊢
  obtain ⟨d, ed⟩ : ∃ d, d = n - pl := ⟨_, rfl⟩
  have hd : (n : Int) - (pl : Int) = (d : Int) := by omega
  rw [← ed]
  clear h en ed
  go_enter Try.func63, Try.ntmps63
  go_wp2_with fail
  go_quiet (fail)
  go_wp2_with fail
  go_ret
  exact ⟨rfl, (Same.refl _ w).drewN _⟩
set_option maxRecDepth 100000 in
theorem fail_any (h : Cu w cb a cap l pl ft) (z : Int) : Calls Try.prog 55 #[.pointer (some ⟨cb, 0, none⟩), .int .i64 z] w fun e w' => e = .returned (.int .i64 z) ∧ Cu w' cb a cap l pl z ∧ Same (fun k => k = cb) w w' := by
  obtain ⟨-, -, c2, -, f2⟩ := h.cells
  have H : Hid _ := h.fault z
  clear h
  go_enter Try.func55, Try.ntmps55
  go_wp2_with fail
  go_ret
  exact ⟨rfl, H.out⟩
/-- The next n bytes as a slice of the cursor's own. -/
def PassR (a : Option Addr) (cap : Nat) (l : List Int) (pl n : Nat) (v : Value) (w' : World) : Prop :=
  ∃ a', v = .slice a' ((l.drop pl).take n).length (cap - pl) ∧ BytesAt w' a' ((l.drop pl).take n) ∧ (a' = none → ((l.drop pl).take n).length = 0 ∧ cap - pl = 0) ∧ (a = none → a' = none) ∧ (∀ g, a = some ⟨g, 0, none⟩ → ∃ off, a' = some ⟨g, off, none⟩)
theorem bytes_part {w : World} {g : Nat} {l : List Int} (h : BytesAt w (some ⟨g, 0, none⟩) l) (i n : Nat) : BytesAt w (some ⟨g, i, none⟩) ((l.drop i).take n) := fun j x hx => by
  have hj := (List.getElem?_eq_some_iff.1 hx).1
  simp only [List.length_take, List.length_drop] at hj
  rw [List.getElem?_take_of_lt (by omega), List.getElem?_drop] at hx
  obtain ⟨b, off, e, hb, hc⟩ := h _ _ hx
  cases e
  exact ⟨g, i, rfl, hb, by rw [Nat.zero_add] at hc; exact hc⟩
theorem length_part (l : List Int) {i n : Nat} (h : i + n ≤ l.length) : ((l.drop i).take n).length = n := by simp; omega
set_option maxRecDepth 100000 in
set_option maxHeartbeats 800000 in
theorem pass_any (h : Cu w cb a cap l pl ft) (n : Nat) (hn : pl + n ≤ l.length) : Calls Try.prog 56 #[.pointer (some ⟨cb, 0, none⟩), .int .i64 n] w fun e w' => ∃ v, e = .returned v ∧ PassR a cap l pl n v w' ∧ Cu w' cb a cap l (pl + n) ft ∧ Same (fun k => k = cb) w w' := by
  obtain ⟨c0, c1, -, f1, -⟩ := h.cells
  have H : Hid _ := h.place (pl + n) hn
  have hlen := h.len
  have hlc := h.lcap
  have hlt := h.lt
  obtain ⟨q, eq⟩ : ∃ q, q = pl + n := ⟨_, rfl⟩
  have hq : (pl : Int) + (n : Int) = (q : Int) := by omega
  have hql : q ≤ l.length := by omega
  have hL : Hid _ := length_part l hn
  rw [← eq] at H ⊢
  rcases h.loc with ⟨rfl, h0, rfl⟩ | ⟨g, rfl, hg⟩
  · obtain rfl : l = [] := List.eq_nil_of_length_eq_zero h0
    obtain rfl : q = 0 := by simpa using hql
    obtain rfl : pl = 0 := by omega
    obtain rfl : n = 0 := by omega
    clear h hn hlen hlc eq hq h0 hL
    go_enter Try.func56, Try.ntmps56
    go_wp2_with fail
    go_quiet (fail)
    go_wp2_with fail
    go_ret
    exact ⟨_, rfl, ⟨none, rfl, BytesAt.nil _ _, fun _ => ⟨rfl, rfl⟩, fun _ => rfl, fun g e => by cases e⟩, H.out.1.on ((Same.refl _ _).drewN _), H.out.2.drewN _⟩
  · have HB : Hid (BytesAt (w.setCell ⟨cb, 1, none⟩ (.int .i64 (q : Int))) (some ⟨g, pl, none⟩) ((l.drop pl).take n)) := bytes_part H.out.1.data pl n
    obtain ⟨L, eL⟩ : ∃ L, L = l.length := ⟨_, rfl⟩
    rw [← eL] at c0 hlen hlc hql
    have hqp : q - pl = n := by omega
    have hqI : (q : Int) ≤ 140737488355328 := by omega
    have hpq : (pl : Int) ≤ (q : Int) := by omega
    have hqc : (q : Int) ≤ (cap : Int) := by omega
    have HQ : Hid (q - pl = n) := hqp
    by_cases hpc : cap = pl
    · have hn0 : n = 0 := by omega
      subst hn0
      subst hpc
      obtain rfl : q = cap := by omega
      clear h hn eq eL hL hqp hql hpq hqc HQ hq HB
      go_enter Try.func56, Try.ntmps56
      go_wp2_with fail
      go_quiet (fail)
      go_wp2_with fail
      go_ret
      refine ⟨_, rfl, ⟨some ⟨g, 0, none⟩, ?_, BytesAt.nil _ _, (fun e => by cases e), (fun e => by cases e), fun g' e => ?_⟩, H.out.1.on ((Same.refl _ _).drewN _), H.out.2.drewN _⟩
      · simp
      · cases e; exact ⟨0, rfl⟩
    · have hpc2 : pl < cap := by omega
      have hpc3 : (pl : Int) < (cap : Int) := by omega
      have hpc4 : ¬ pl = cap := by omega
      have hpc5 : ¬ (pl : Int) = (cap : Int) := by omega
      clear h hn eq eL hqp hql
      go_enter Try.func56, Try.ntmps56
      go_wp2_with fail
      go_quiet (fail)
      go_wp2_with fail
      go_ret
      refine ⟨_, rfl, ⟨some ⟨g, pl, none⟩, ?_, HB.out.kept ((Same.refl (fun _ => False) _).drewN _) (fun _ _ h => h), (fun e => by cases e), (fun e => by cases e), fun g' e => ?_⟩, H.out.1.on ((Same.refl _ _).drewN _), H.out.2.drewN _⟩
      · rw [hL.out]
        simp [HQ.out]
      · cases e; exact ⟨pl, rfl⟩
end
end Go.Proofs.Ytflemfohnpjeaaa
