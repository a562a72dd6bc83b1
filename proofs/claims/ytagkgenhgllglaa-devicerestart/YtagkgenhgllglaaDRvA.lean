/- What is proved: small laws on the document's device as it lies in memory: a list of the reads in the place of the map; no condition. -/
import Derived.Test.YtagkgenhgllglaaDSet
namespace Go.Proofs.Ytagkgenhgllglaa
open Go.RowKit

theorem Try.infoPair : (Try.prog.info? 87).map (fun i => (i.zero, i.size, i.bytes)) = some (some (.agg #[.int .i64 0, .int .i64 0]), 2, 16) := by kernel_rfl
/-- A read: its region and its block. -/
structure Rb where
  r : Int
  b : Int
def rbs (l : List Rb) : List Value := l.flatMap fun e => [.int .i64 e.r, .int .i64 e.b]
theorem rbs_cons (a : Rb) (r : List Rb) : rbs (a :: r) = [.int .i64 a.r, .int .i64 a.b] ++ rbs r := rfl
theorem length_rbs (l : List Rb) : (rbs l).length = l.length * 2 := by
  induction l with
  | nil => rfl
  | cons a r ih => rw [rbs_cons, List.length_append, ih]; simp; omega
theorem rbs_append (a b : List Rb) : rbs (a ++ b) = rbs a ++ rbs b := by simp [rbs]
theorem rbs_one (l : List Rb) : ∀ v ∈ rbs l, v.oneCell' = true := by
  intro v hv
  obtain ⟨f, _, hf⟩ := List.mem_flatMap.1 hv
  simp only [List.mem_cons, List.not_mem_nil, or_false] at hf
  rcases hf with rfl | rfl <;> rfl
theorem rbs_get {l : List Rb} {i : Nat} {e : Rb} (h : l[i]? = some e) : (rbs l)[i * 2]? = some (.int .i64 e.r) ∧ (rbs l)[i * 2 + 1]? = some (.int .i64 e.b) := by
  induction l generalizing i with
  | nil => simp at h
  | cons a r ih =>
    cases i with
    | zero =>
      simp only [List.getElem?_cons_zero, Option.some.injEq] at h
      subst h
      exact ⟨rfl, rfl⟩
    | succ i =>
      simp only [List.getElem?_cons_succ] at h
      rw [rbs_cons, show (i + 1) * 2 = i * 2 + 1 + 1 by omega, show i * 2 + 1 + 1 + 1 = (i * 2 + 1) + 1 + 1 by omega]
      exact ih h
/-- Of a list that is owned: its cells. -/
theorem rb_cells {w : World} {base : Nat} {v : Value} {l : List Rb} (h : w.ownsRow base 87 2 v l.length (rbs l)) {i : Nat} {e : Rb} (he : l[i]? = some e) :
    ∃ g cap, v = .slice (some ⟨g, 0, none⟩) l.length cap ∧ g < w.heap.size ∧ w.cell? ⟨g, i * 2, none⟩ = some (.int .i64 e.r) ∧ w.cell? ⟨g, i * 2 + 1, none⟩ = some (.int .i64 e.b) := by
  have hi := (List.getElem?_eq_some_iff.1 he).1
  rcases h.2 with ⟨_, hn⟩ | ⟨g, cap, cur, rfl, hb, hg, h1, h2, h3, h4⟩
  · omega
  · obtain ⟨c0, c1⟩ := rbs_get he
    have hget : ∀ o, o < l.length * 2 → w.cell? ⟨g, o, none⟩ = (rbs l)[o]? := fun o ho => by
      rw [cell_of hg, ← h4, List.getElem?_take_of_lt ho]; simp
    exact ⟨g, cap, rfl, lt_of_heap hg, (hget _ (by omega)).trans c0, (hget _ (by omega)).trans c1⟩
/-- How many reads of the list were of region r, block b. -/
def cntR (Q : List Rb) (r b : Int) : Nat := Q.countP fun e => e.r == r && e.b == b
theorem cntR_snoc (Q : List Rb) (r b : Int) (r' b' : Int) : cntR (Q ++ [⟨r, b⟩]) r' b' = bump (cntR Q) r b r' b' := by
  unfold cntR bump
  rw [List.countP_append, List.countP_singleton]
  by_cases h : r' = r ∧ b' = b
  · obtain ⟨rfl, rfl⟩ := h
    simp
  · rw [if_neg h]
    have : (r == r' && b == b') = false := by
      simp only [Bool.and_eq_false_iff, beq_eq_false_iff_ne, ne_eq]
      by_cases q : r' = r
      · exact .inr fun e => h ⟨q, e.symm⟩
      · exact .inl fun e => q e.symm
    rw [this]; simp
theorem cntR_take {Q : List Rb} {r b : Int} {j : Nat} {e : Rb} (he : Q[j]? = some e) : cntR (Q.take (j + 1)) r b = cntR (Q.take j) r b + if e.r == r && e.b == b then 1 else 0 := by
  unfold cntR
  rw [List.take_add_one, he, List.countP_append]
  simp [List.countP_singleton]
theorem cntR_le (Q : List Rb) (r b : Int) : cntR Q r b ≤ Q.length := List.countP_le_length

/-- Where the document's device lies. -/
structure RP where
  db : Nat
  ia : Option Addr
  icap : Nat
  sb : Nat
  fa : Option Addr
  fcap : Nat
  sv : Value
def rvObj (m : M) (p : RP) : Obj :=
  .cells #[.int .i64 m.B, .int .i64 m.S, .slice p.ia m.inp.length p.icap, .slice (some ⟨p.sb, 0, none⟩) (m.B * m.S) (m.B * m.S), .slice p.fa m.F.length p.fcap, p.sv, .int .i64 m.cI, .int .i64 m.cS, .int .i64 m.cW, .int .i64 m.cT, .bool m.down] 64 (0, 0)
/-- The document's device lies in w. -/
structure Rv (w : World) (m : M) (p : RP) (Q : List Rb) : Prop where
  dev : w.heap[p.db]? = some (rvObj m p)
  inp : BytesAt w p.ia m.inp
  scr : w.heap[p.sb]? = some (rowObj m.scr)
  flt : FaultsAt w p.fa m.F
  seen : w.ownsRow 0 87 2 p.sv Q.length (rbs Q)
  good : Good m
  cnt : ∀ r b, m.R r b = cntR Q r b
  api : ∀ b, InB p.ia m.inp.length b → b ≠ p.sb ∧ b ≠ p.db ∧ p.sv.ownBlock ≠ some b
  apf : ∀ b, InB p.fa m.F.length b → b ≠ p.sb ∧ b ≠ p.db ∧ p.sv.ownBlock ≠ some b
/-- The blocks that it writes, and all its blocks. -/
def ROwn (p : RP) (k : Nat) : Prop := k = p.db ∨ k = p.sb ∨ p.sv.ownBlock = some k
def RFoot (m : M) (p : RP) (k : Nat) : Prop := ROwn p k ∨ InB p.ia m.inp.length k ∨ InB p.fa m.F.length k
theorem Rv.db_sb {w : World} {m : M} {p : RP} {Q : List Rb} (h : Rv w m p Q) : p.db ≠ p.sb := fun e => by
  have := h.dev; rw [e, h.scr] at this; simp [rowObj, rvObj] at this
theorem Rv.seen_at {w : World} {m : M} {p : RP} {Q : List Rb} (h : Rv w m p Q) {k : Nat} (hk : p.sv.ownBlock = some k) : ∃ cur, w.heap[k]? = some (.cells cur 87 (0, 0)) := by
  rcases h.seen.2 with ⟨e, _⟩ | ⟨g, cap, cur, e, _, hg, _⟩
  · rw [e] at hk; cases hk
  · rw [e] at hk
    cases hk
    exact ⟨cur, hg⟩
theorem Rv.db_sv {w : World} {m : M} {p : RP} {Q : List Rb} (h : Rv w m p Q) : p.sv.ownBlock ≠ some p.db := fun e => by
  obtain ⟨cur, hc⟩ := h.seen_at e
  rw [h.dev] at hc; simp [rvObj] at hc
theorem Rv.sb_sv {w : World} {m : M} {p : RP} {Q : List Rb} (h : Rv w m p Q) : p.sv.ownBlock ≠ some p.sb := fun e => by
  obtain ⟨cur, hc⟩ := h.seen_at e
  rw [h.scr] at hc; simp [rowObj] at hc
theorem Rv.lt {w : World} {m : M} {p : RP} {Q : List Rb} (h : Rv w m p Q) {k : Nat} (hk : RFoot m p k) : k < w.heap.size := by
  rcases hk with (rfl | rfl | hk) | hk | hk
  · exact lt_of_heap h.dev
  · exact lt_of_heap h.scr
  · obtain ⟨cur, hc⟩ := h.seen_at hk
    exact lt_of_heap hc
  · exact h.inp.lt hk
  · exact h.flt.lt hk
theorem own_on {w w' : World} {v : Value} {n : Nat} {xs : List Value} {base : Nat} {e : TypeId} {size : Nat} (h : w.ownsRow base e size v n xs) (hg : ∀ k, v.ownBlock = some k → w'.heap[k]? = w.heap[k]?) : w'.ownsRow base e size v n xs := by
  refine ⟨h.1, ?_⟩
  rcases h.2 with h2 | ⟨g, cap, cur, rfl, h1, h3, h4⟩
  · exact .inl h2
  · exact .inr ⟨g, cap, cur, rfl, h1, (hg g rfl).trans h3, h4⟩
theorem Rv.kept {S : Nat → Prop} {w w' : World} {m : M} {p : RP} {Q : List Rb} (h : Rv w m p Q) (hs : Same S w w') (hd : ∀ k, RFoot m p k → ¬ S k) : Rv w' m p Q where
  dev := (hs.block _ (h.lt (.inl (.inl rfl))) (hd _ (.inl (.inl rfl)))).trans h.dev
  inp := h.inp.kept hs fun k hk => hd k (.inr (.inl hk))
  scr := (hs.block _ (h.lt (.inl (.inr (.inl rfl)))) (hd _ (.inl (.inr (.inl rfl))))).trans h.scr
  flt := h.flt.kept hs fun k hk => hd k (.inr (.inr hk))
  seen := own_on h.seen fun _ hk => hs.block _ (h.lt (.inl (.inr (.inr hk)))) (hd _ (.inl (.inr (.inr hk))))
  good := h.good
  cnt := h.cnt
  api := h.api
  apf := h.apf
theorem Rv.on {w w' : World} {m : M} {p : RP} {Q : List Rb} (h : Rv w m p Q) (hs : Kept w w') : Rv w' m p Q := h.kept hs fun _ _ f => f
/-- Its own block turns. -/
theorem Rv.turn {w w' : World} {m m' : M} {p : RP} {Q : List Rb} (h : Rv w m p Q) (hs : Same (fun k => k = p.db) w w') (hd : w'.heap[p.db]? = some (rvObj m' p)) (e1 : m'.inp = m.inp) (e2 : m'.scr = m.scr) (e3 : m'.F = m.F) (e4 : m'.R = m.R) (hg : Good m') : Rv w' m' p Q where
  dev := hd
  inp := by rw [e1]; exact h.inp.kept hs fun k hk e => (h.api k hk).2.1 e
  scr := by rw [e2]; exact (hs.block _ (h.lt (.inl (.inr (.inl rfl)))) h.db_sb.symm).trans h.scr
  flt := by rw [e3]; exact h.flt.kept hs fun k hk e => (h.apf k hk).2.1 e
  seen := own_on h.seen fun k hk => hs.block _ (h.lt (.inl (.inr (.inr hk)))) fun e => h.db_sv (by rw [hk, e])
  good := hg
  cnt := by rw [e4]; exact h.cnt
  api := by rw [e1]; exact h.api
  apf := by rw [e3]; exact h.apf
theorem Rv.cells {w : World} {m : M} {p : RP} {Q : List Rb} (h : Rv w m p Q) : w.cell? ⟨p.db, 0, none⟩ = some (.int .i64 m.B) ∧ w.cell? ⟨p.db, 1, none⟩ = some (.int .i64 m.S) ∧ w.cell? ⟨p.db, 2, none⟩ = some (.slice p.ia m.inp.length p.icap) ∧
    w.cell? ⟨p.db, 3, none⟩ = some (.slice (some ⟨p.sb, 0, none⟩) (m.B * m.S) (m.B * m.S)) ∧ w.cell? ⟨p.db, 4, none⟩ = some (.slice p.fa m.F.length p.fcap) ∧ w.cell? ⟨p.db, 5, none⟩ = some p.sv :=
  ⟨(cell_of h.dev 0).trans rfl, (cell_of h.dev 1).trans rfl, (cell_of h.dev 2).trans rfl, (cell_of h.dev 3).trans rfl, (cell_of h.dev 4).trans rfl, (cell_of h.dev 5).trans rfl⟩
theorem Rv.counts {w : World} {m : M} {p : RP} {Q : List Rb} (h : Rv w m p Q) : w.cell? ⟨p.db, 6, none⟩ = some (.int .i64 m.cI) ∧ w.cell? ⟨p.db, 7, none⟩ = some (.int .i64 m.cS) ∧ w.cell? ⟨p.db, 8, none⟩ = some (.int .i64 m.cW) ∧
    w.cell? ⟨p.db, 9, none⟩ = some (.int .i64 m.cT) ∧ w.cell? ⟨p.db, 10, none⟩ = some (.bool m.down) :=
  ⟨(cell_of h.dev 6).trans rfl, (cell_of h.dev 7).trans rfl, (cell_of h.dev 8).trans rfl, (cell_of h.dev 9).trans rfl, (cell_of h.dev 10).trans rfl⟩
theorem Rv.frz {w : World} {m : M} {p : RP} {Q : List Rb} (h : Rv w m p Q) (o : Nat) : w.frozen? ⟨p.db, o, none⟩ = false := frozen_of h.dev o
theorem turn_same (w : World) (db o : Nat) (v : Value) : Same (fun k => k = db) w (w.setCell ⟨db, o, none⟩ v) := (Same.refl (fun k => k = db) w).setCell _ (.inr rfl) _
theorem Rv.cI1 {w : World} {m : M} {p : RP} {Q : List Rb} (h : Rv w m p Q) : Rv (w.setCell ⟨p.db, 6, none⟩ (.int .i64 ((m.cI : Int) + 1))) m.cI1 p Q :=
  h.turn (turn_same _ _ _ _) ((setCell_at h.dev 6 _).trans (by simp [rvObj, M.cI1])) rfl rfl rfl rfl h.good.cI1
theorem Rv.cS1 {w : World} {m : M} {p : RP} {Q : List Rb} (h : Rv w m p Q) : Rv (w.setCell ⟨p.db, 7, none⟩ (.int .i64 ((m.cS : Int) + 1))) m.cS1 p Q :=
  h.turn (turn_same _ _ _ _) ((setCell_at h.dev 7 _).trans (by simp [rvObj, M.cS1])) rfl rfl rfl rfl h.good.cS1
theorem Rv.cW1 {w : World} {m : M} {p : RP} {Q : List Rb} (h : Rv w m p Q) : Rv (w.setCell ⟨p.db, 8, none⟩ (.int .i64 ((m.cW : Int) + 1))) m.cW1 p Q :=
  h.turn (turn_same _ _ _ _) ((setCell_at h.dev 8 _).trans (by simp [rvObj, M.cW1])) rfl rfl rfl rfl h.good.cW1
theorem Rv.hits {w : World} {m : M} {p : RP} {Q : List Rb} (h : Rv w m p Q) : Rv (w.setCell ⟨p.db, 9, none⟩ (.int .i64 ((m.cT : Int) + 1))) m.hit p Q :=
  h.turn (turn_same _ _ _ _) ((setCell_at h.dev 9 _).trans (by simp [rvObj, M.hit])) rfl rfl rfl rfl h.good.hit
/-- One read more is noted: behind the append and the store. -/
theorem Rv.note {w w1 : World} {m : M} {p : RP} {Q : List Rb} (h : Rv w m p Q) (r b : Int) {v : Value} (hs : Same (fun k => p.sv.ownBlock = some k) w w1) (hrow : w1.ownsRow 0 87 2 v (Q ++ [(⟨r, b⟩ : Rb)]).length (rbs (Q ++ [(⟨r, b⟩ : Rb)]))) (hb : v.ownBlock = p.sv.ownBlock ∨ ∃ k, v.ownBlock = some k ∧ w.heap.size ≤ k) :
    Rv (w1.setCell ⟨p.db, 5, none⟩ v) (m.rd r b) { p with sv := v } (Q ++ [⟨r, b⟩]) := by
  have hn : ∀ k, k < w.heap.size → v.ownBlock = some k → p.sv.ownBlock = some k := fun k hk e => by
    rcases hb with q | ⟨k', q, hk'⟩
    · rw [← q]; exact e
    · rw [q] at e; cases e; omega
  have hdb : w1.heap[p.db]? = some (rvObj m p) := (hs.block _ (h.lt (.inl (.inl rfl))) h.db_sv).trans h.dev
  have hk2 : ∀ k, k ≠ p.db → (w1.setCell ⟨p.db, 5, none⟩ v).heap[k]? = w1.heap[k]? := fun k hk => Below.heap_setCell _ _ _ _ hk
  have hw : Same (fun k => k = p.db ∨ p.sv.ownBlock = some k) w (w1.setCell ⟨p.db, 5, none⟩ v) := (hs.mono fun k _ e => .inr e).setCell _ (.inr (.inl rfl)) _
  refine ⟨(setCell_at hdb 5 _).trans (by simp [rvObj, M.rd]), ?_, ?_, ?_, ?_, h.good.rd r b, ?_, ?_, ?_⟩
  · exact h.inp.kept hw fun k hk e => e.elim (h.api k hk).2.1 (h.api k hk).2.2
  · exact (hw.block _ (h.lt (.inl (.inr (.inl rfl)))) fun e => e.elim (fun e => h.db_sb e.symm) h.sb_sv).trans h.scr
  · exact h.flt.kept hw fun k hk e => e.elim (h.apf k hk).2.1 (h.apf k hk).2.2
  · exact own_on hrow fun k hk => hk2 k fun e => by
      subst e
      exact h.db_sv (hn _ (h.lt (.inl (.inl rfl))) hk)
  · intro r' b'
    rw [cntR_snoc]
    show bump m.R r b r' b' = _
    unfold bump
    rw [h.cnt, h.cnt]
  · exact fun k hk => ⟨(h.api k hk).1, (h.api k hk).2.1, fun e => (h.api k hk).2.2 (hn _ (h.lt (.inr (.inl hk))) e)⟩
  · exact fun k hk => ⟨(h.apf k hk).1, (h.apf k hk).2.1, fun e => (h.apf k hk).2.2 (hn _ (h.lt (.inr (.inr hk))) e)⟩
/-- append(d.Seen, [2]int{r, b}). -/
theorem app_seen {w : World} {v : Value} {Q : List Rb} {x : Rb} (hown : w.ownsRow 0 87 2 v Q.length (rbs Q)) (hn : Q.length + 1 ≤ 8796093022208) (ty : TypeId) :
    ∃ v' w', (Builtin.append_ #[62, 62] ty #[v, .slice (some ⟨w.heap.size, 0, none⟩) 1 1]).run Try.prog (w.alloc (.cells #[.int .i64 x.r, .int .i64 x.b] 87 (0, 0))) = .ok v' w' ∧
      w'.ownsRow 0 87 2 v' (Q ++ [x]).length (rbs (Q ++ [x])) ∧ Same (fun k => v.ownBlock = some k) w w' ∧ (v'.ownBlock = v.ownBlock ∨ ∃ k, v'.ownBlock = some k ∧ w.heap.size ≤ k) := by
  obtain ⟨i0, hi0, hz0, hz1, hz2⟩ := info_parts Try.infoPair
  have hnew := heap_new w (.cells #[.int .i64 x.r, .int .i64 x.b] 87 (0, 0))
  obtain ⟨v', w', hr, r1, r2, _, r3⟩ := run_append_own_at (P := Try.prog) (w := w.alloc (.cells #[.int .i64 x.r, .int .i64 x.b] 87 (0, 0))) 0 62 ty 87 i0 _ 2 16 Try.underlying62 hi0 hz0 hz1 hz2 rfl (by decide) v Q.length _ (hown.alloc _) ⟨w.heap.size, 0, none⟩ 1 1 (rbs [x]) (length_rbs _)
    (fun j u hu => by
      rw [Addr.add_lit, Nat.zero_add, cell_of hnew]
      simp only [rbs, List.flatMap_cons, List.flatMap_nil, List.append_nil] at hu
      simpa using hu) (rbs_one _) (by simp only [maxLen]; omega) (by omega) (Nat.zero_le _)
  refine ⟨v', w', hr, by rw [List.length_append, List.length_singleton, rbs_append]; exact r1, ((Same.refl _ w).alloc _).trans' (Same.of_grown r2 fun k hk => hk), ?_⟩
  rcases r3 with q | q
  · exact .inl q
  · exact .inr ⟨_, q, by simp⟩
end Go.Proofs.Ytagkgenhgllglaa
