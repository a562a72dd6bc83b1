/- What is proved: append of bytes or of faults onto a row that is owned, and slices.Clone of both; the bounds that a machine's memory sets. -/
import Derived.Test.YtpjkmficpedmcaaDWrite
import Derived.Laws.AppendOwnNone
import Derived.Laws.OwnMore
import Derived.Lib.SliceRun
namespace Go.Proofs.Ytpjkmficpedmcaa
open Go.RowKit

theorem Try.infoFault : (Try.prog.info? 55).map (fun i => (i.zero, i.size, i.bytes)) = some (some (.agg #[.int .i64 0, .int .i64 0, .int .i64 0, .int .i64 0]), 4, 32) := by kernel_rfl

/-- append as a law at the operation: whatever its run gives. -/
theorem wpList_app {P : Program} {w : World} {ops : Array Oper} {rest : List Oper} {o : Oper} {a : Act} {Q : Exit → Act → World → Prop} (hgd : o.guard = none) (s x : Operand) (t : TypeId)
    (ho : o.op = .call { callee := .builtin .append, args := #[s, x], argTypes := #[t, t] }) (vs vx : Value) (hs : a.eval s = vs) (hx : a.eval x = vx) (R : Value → World → Prop)
    (hrun : ∀ ty, ∃ v' w', (Builtin.append_ #[t, t] ty #[vs, vx]).run P w = .ok v' w' ∧ R v' w') (h : ∀ v' w', R v' w' → wpList P ops Q rest (a.put o.dst v') w') : wpList P ops Q (o :: rest) a w := by
  refine wpList_plain hgd fun K hK => ?_
  obtain ⟨v', w', hr, hR⟩ := hrun o.type
  unfold Oper.wp
  simp [execOp, ho, resolve, invoke, builtin, hs, hx, hr, Result.andThen]
  exact hK _ _ (h v' w' hR)
/-- The same as one step of a region that draws its order. -/
theorem step_app {P : Program} {ops : Array Oper} {o : Oper} {a : Act} {w : World} {K : Act → World → Prop} {Q : Exit → Act → World → Prop} {E : Prop} (hg : o.guard = none) (s x : Operand) (t : TypeId)
    (ho : o.op = .call { callee := .builtin .append, args := #[s, x], argTypes := #[t, t] }) (vs vx : Value) (hs : a.eval s = vs) (hx : a.eval x = vx) (R : Value → World → Prop)
    (hrun : ∀ ty, ∃ v' w', (Builtin.append_ #[t, t] ty #[vs, vx]).run P w = .ok v' w' ∧ R v' w') (h : ∀ v' w', R v' w' → K (a.put o.dst v') w') : if Region.wanted o (yielded ops a.tmps) = true then Oper.wp P o a w K Q else E := by
  have hw : Region.wanted o (yielded ops a.tmps) = true := by simp [Region.wanted, hg]
  rw [if_pos hw]
  obtain ⟨v', w', hr, hR⟩ := hrun o.type
  unfold Oper.wp
  simp only [execOp, ho, resolve, invoke, builtin, Sem.run_bind, Sem.run_pure, Result.andThen_ok, List.map_toArray, List.map_cons, List.map_nil, hs, hx, hr]
  exact h v' w' hR

/-- What an append leaves: the row with the new bytes behind it. -/
def AppB (base : Nat) (v : Value) (w : World) (ys : List Int) (v' : Value) (w' : World) : Prop :=
  w'.ownsRow base 5 1 v' ys.length (byt ys) ∧ w.grownBy w' v.ownBlock ∧ (v'.ownBlock = v.ownBlock ∨ v'.ownBlock = some w.heap.size)
theorem app_bytes {w : World} {base : Nat} {v : Value} {xs l : List Int} {oa : Option Addr} {c : Nat} (hown : w.ownsRow base 5 1 v xs.length (byt xs)) (hl : BytesAt w oa l) (hnil : oa = none → l.length = 0 ∧ c = 0) (hb : xs.length + l.length ≤ 140737488355328) (hbase : base ≤ w.heap.size) (ty : TypeId) :
    ∃ v' w', (Builtin.append_ #[22, 22] ty #[v, .slice oa l.length c]).run Try.prog w = .ok v' w' ∧ AppB base v w (xs ++ l) v' w' := by
  obtain ⟨i0, hi0, hz0, hz1, hz2⟩ := info_parts Try.infoByte
  cases oa with
  | none =>
    obtain ⟨h0, rfl⟩ := hnil rfl
    obtain rfl : l = [] := List.eq_nil_of_length_eq_zero h0
    refine ⟨v, w, run_append_owned_none (P := Try.prog) (w := w) base 22 ty 5 i0 1 Try.underlying22 hi0 v xs.length _ hown, ?_, World.grownBy.refl _ _, .inl rfl⟩
    simpa using hown
  | some ad =>
    obtain ⟨v', w', hr, r1, r2, _, r3⟩ := run_append_own_at (P := Try.prog) (w := w) base 22 ty 5 i0 _ 1 1 Try.underlying22 hi0 hz0 hz1 hz2 rfl (by decide) v xs.length _ hown ad l.length c (byt l) (by rw [length_byt, Nat.mul_one])
      (fun j u hu => by
        rw [byt_get] at hu
        obtain ⟨x, hx, rfl⟩ := Option.map_eq_some_iff.1 hu
        obtain ⟨b', off', e, _, hc⟩ := hl _ _ hx
        cases e
        rw [Addr.add_lit]
        exact hc) (byt_one _) (by unfold maxLen; omega) (by omega) hbase
    rw [← byt_append] at r1
    exact ⟨v', w', hr, by rw [List.length_append]; exact r1, r2, r3⟩
def AppF (e : TypeId) (base : Nat) (v : Value) (w : World) (ys : List Fl) (v' : Value) (w' : World) : Prop :=
  w'.ownsRow base e 4 v' ys.length (fcs ys) ∧ w.grownBy w' v.ownBlock ∧ (v'.ownBlock = v.ownBlock ∨ v'.ownBlock = some w.heap.size)
theorem app_faults {e t : TypeId} (hu : Try.prog.underlying t = some (.slice e)) (hi : (Try.prog.info? e).map (fun i => (i.zero, i.size, i.bytes)) = some (some (.agg #[.int .i64 0, .int .i64 0, .int .i64 0, .int .i64 0]), 4, 32))
    {w : World} {base : Nat} {v : Value} {xs l : List Fl} {oa : Option Addr} {c : Nat} (hown : w.ownsRow base e 4 v xs.length (fcs xs)) (hl : FaultsAt w oa l) (hnil : oa = none → l.length = 0 ∧ c = 0) (hb : (xs.length + l.length) * 32 ≤ 140737488355328) (hbase : base ≤ w.heap.size) (ty : TypeId) :
    ∃ v' w', (Builtin.append_ #[t, t] ty #[v, .slice oa l.length c]).run Try.prog w = .ok v' w' ∧ AppF e base v w (xs ++ l) v' w' := by
  obtain ⟨i0, hi0, hz0, hz1, hz2⟩ := info_parts hi
  cases oa with
  | none =>
    obtain ⟨h0, rfl⟩ := hnil rfl
    obtain rfl : l = [] := List.eq_nil_of_length_eq_zero h0
    refine ⟨v, w, run_append_owned_none (P := Try.prog) (w := w) base t ty e i0 4 hu hi0 v xs.length _ hown, ?_, World.grownBy.refl _ _, .inl rfl⟩
    simpa using hown
  | some ad =>
    obtain ⟨v', w', hr, r1, r2, _, r3⟩ := run_append_own_at (P := Try.prog) (w := w) base t ty e i0 _ 4 32 hu hi0 hz0 hz1 hz2 rfl (by decide) v xs.length _ hown ad l.length c (fcs l) (length_fcs l)
      (fun j u hu => by
        have hj := (List.getElem?_eq_some_iff.1 hu).1
        rw [length_fcs] at hj
        obtain ⟨f, hf⟩ : ∃ f, l[j / 4]? = some f := ⟨_, List.getElem?_eq_getElem (by omega)⟩
        obtain ⟨b', off', e, _, c0, c1, c2, c3⟩ := hl _ _ hf
        obtain ⟨g0, g1, g2, g3⟩ := fcs_get hf
        cases e
        rw [Addr.add_lit]
        have hm : j % 4 = 0 ∨ j % 4 = 1 ∨ j % 4 = 2 ∨ j % 4 = 3 := by omega
        rcases hm with hm | hm | hm | hm
        · have ej : j = j / 4 * 4 := by omega
          rw [ej] at hu ⊢
          exact c0.trans (g0.symm.trans hu)
        · have ej : j = j / 4 * 4 + 1 := by omega
          rw [ej] at hu ⊢
          exact c1.trans (g1.symm.trans hu)
        · have ej : j = j / 4 * 4 + 2 := by omega
          rw [ej] at hu ⊢
          exact c2.trans (g2.symm.trans hu)
        · have ej : j = j / 4 * 4 + 3 := by omega
          rw [ej] at hu ⊢
          exact c3.trans (g3.symm.trans hu)) (fcs_one _) (by unfold maxLen; omega) (by omega) hbase
    rw [← fcs_append] at r1
    exact ⟨v', w', hr, by rw [List.length_append]; exact r1, r2, r3⟩

/-- A row of bytes of one's own: what a clone is. -/
def CloneB (w : World) (l : List Int) (v : Value) (w' : World) : Prop :=
  ∃ a cap, v = .slice a l.length cap ∧ BytesAt w' a l ∧ l.length ≤ cap ∧ (a = none → l.length = 0 ∧ cap = 0) ∧ (∀ k, InB a l.length k → w.heap.size ≤ k) ∧ Kept w w'
def CloneF (w : World) (l : List Fl) (v : Value) (w' : World) : Prop :=
  ∃ a cap, v = .slice a l.length cap ∧ FaultsAt w' a l ∧ (a = none → l.length = 0 ∧ cap = 0) ∧ (∀ k, InB a l.length k → w.heap.size ≤ k) ∧ Kept w w'
theorem row_caps {w : World} {base : Nat} {e : TypeId} {size : Nat} {a : Option Addr} {n cap : Nat} {xs : List Value} (h : w.ownsRow base e size (.slice a n cap) n xs) : n ≤ cap ∧ (a = none → n = 0 ∧ cap = 0) := by
  rcases h.2 with ⟨h', rfl⟩ | ⟨g, c, cur, h', _, _, hc, _⟩
  · simp only [Value.slice.injEq] at h'
    obtain ⟨rfl, -, rfl⟩ := h'
    exact ⟨Nat.le_refl _, fun _ => ⟨rfl, rfl⟩⟩
  · simp only [Value.slice.injEq] at h'
    obtain ⟨rfl, -, rfl⟩ := h'
    exact ⟨hc, fun e => by cases e⟩
/-- The append onto an empty literal is a clone. -/
theorem CloneB.of_app {w : World} {l : List Int} {v' : Value} {w' : World} (h : AppB w.heap.size (.slice (some ⟨w.heap.size, 0, none⟩) 0 0) (w.alloc (.cells #[] 5)) l v' w') : CloneB w l v' w' := by
  obtain ⟨h1, h2, _⟩ := h
  obtain ⟨a, cap, rfl, h3, h4⟩ := BytesAt.of_row h1
  obtain ⟨c1, c2⟩ := row_caps h1
  refine ⟨a, cap, rfl, h3, c1, c2, h4, ((Same.refl _ w).alloc _).trans (S' := fun k => k = w.heap.size) (Same.of_grown h2 (fun k e => ?_)) (fun i hi e => by omega)⟩
  simp [Value.ownBlock] at e
  exact e.symm
theorem CloneF.of_app {e : TypeId} {w : World} {l : List Fl} {v' : Value} {w' : World} (h : AppF e w.heap.size (.slice (some ⟨w.heap.size, 0, none⟩) 0 0) (w.alloc (.cells #[] e)) l v' w') : CloneF w l v' w' := by
  obtain ⟨h1, h2, _⟩ := h
  obtain ⟨a, cap, rfl, h3, h4⟩ := FaultsAt.of_row h1
  obtain ⟨c1, c2⟩ := row_caps h1
  refine ⟨a, cap, rfl, h3, c2, h4, ((Same.refl _ w).alloc _).trans (S' := fun k => k = w.heap.size) (Same.of_grown h2 (fun k e => ?_)) (fun i hi e => by omega)⟩
  simp [Value.ownBlock] at e
  exact e.symm
theorem clone_run {w : World} {l : List Int} {oa : Option Addr} {c : Nat} (hl : BytesAt w oa l) (hnil : oa = none → l.length = 0 ∧ c = 0) (hb : l.length ≤ 140737488355328) (ty : TypeId) :
    ∃ v' w', (Builtin.append_ #[22, 22] ty #[.slice (some ⟨w.heap.size, 0, none⟩) 0 0, .slice oa l.length c]).run Try.prog (w.alloc (.cells #[] 5)) = .ok v' w' ∧ CloneB w l v' w' := by
  obtain ⟨v', w', h1, h2⟩ := app_bytes (w := w.alloc (.cells #[] 5)) (base := w.heap.size) (xs := []) (World.ownsRow_made w #[] 0 (Nat.le_refl _) (Nat.zero_le _) rfl) (hl.kept ((Same.refl (fun _ => False) w).alloc _) (fun _ _ h => h)) hnil (by simpa using hb) (by simp) ty
  exact ⟨v', w', h1, CloneB.of_app h2⟩
theorem clone_runF {e t : TypeId} (hu : Try.prog.underlying t = some (.slice e)) (hi : (Try.prog.info? e).map (fun i => (i.zero, i.size, i.bytes)) = some (some (.agg #[.int .i64 0, .int .i64 0, .int .i64 0, .int .i64 0]), 4, 32))
    {w : World} {l : List Fl} {oa : Option Addr} {c : Nat} (hl : FaultsAt w oa l) (hnil : oa = none → l.length = 0 ∧ c = 0) (hb : l.length * 32 ≤ 140737488355328) (ty : TypeId) :
    ∃ v' w', (Builtin.append_ #[t, t] ty #[.slice (some ⟨w.heap.size, 0, none⟩) 0 0, .slice oa l.length c]).run Try.prog (w.alloc (.cells #[] e)) = .ok v' w' ∧ CloneF w l v' w' := by
  obtain ⟨v', w', h1, h2⟩ := app_faults hu hi (w := w.alloc (.cells #[] e)) (base := w.heap.size) (xs := []) (World.ownsRow_made w #[] 0 (Nat.le_refl _) (Nat.zero_le _) rfl) (hl.kept ((Same.refl (fun _ => False) w).alloc _) (fun _ _ h => h)) hnil (by simpa using hb) (by simp) ty
  exact ⟨v', w', h1, CloneF.of_app h2⟩

set_option maxRecDepth 100000 in
set_option maxHeartbeats 1600000 in
theorem cloneB_any (w : World) (oa : Option Addr) (c : Nat) (l : List Int) (hl : BytesAt w oa l) (hnil : oa = none → l.length = 0 ∧ c = 0) (hb : l.length ≤ 140737488355328) :
    Calls Try.prog 16 #[.slice oa l.length c] w fun e w' => ∃ v, e = .returned v ∧ CloneB w l v w' := by
  have q : ∀ (w : World) (a : Option Addr) (n c n' c' : Nat), (binOp .eql 22 (.slice a n c) (.slice none n' c')).run Try.prog w = .ok (.bool a.isNone) w := fun w a n c n' c' => Lib.run_eql_slice_nil w _ _ a n c n' c' Try.underlying22
  cases oa with
  | none =>
    obtain ⟨h0, rfl⟩ := hnil rfl
    obtain rfl : l = [] := List.eq_nil_of_length_eq_zero h0
    clear hl hnil hb h0
    go_enter Try.func16, Try.ntmps16
    go_wp2_with fail
    go_ret
    exact ⟨_, rfl, none, 0, rfl, BytesAt.nil _ _, Nat.le_refl _, fun _ => ⟨rfl, rfl⟩, fun k hk => absurd hk.1 (by simp), Same.refl _ _⟩
  | some ad =>
    have HR : Hid _ := clone_run (c := c) hl hnil hb
    obtain ⟨n, en⟩ : ∃ n, n = l.length := ⟨_, rfl⟩
    rw [← en] at HR ⊢
    clear hl hnil hb en
    go_enter Try.func16, Try.ntmps16
    go_wp2_with (at_builtin; refine wpList_app rfl (.tmp 5) (.tmp 6) 22 rfl _ _ rfl rfl _ HR.out ?_; intro v' w1 hR)
    go_ret
    exact ⟨v', rfl, hR⟩

set_option maxRecDepth 100000 in
set_option maxHeartbeats 1600000 in
theorem cloneF_any (w : World) (oa : Option Addr) (c : Nat) (l : List Fl) (hl : FaultsAt w oa l) (hnil : oa = none → l.length = 0 ∧ c = 0) (hb : l.length * 32 ≤ 140737488355328) :
    Calls Try.prog 17 #[.slice oa l.length c] w fun e w' => ∃ v, e = .returned v ∧ CloneF w l v w' := by
  have q : ∀ (w : World) (a : Option Addr) (n c n' c' : Nat), (binOp .eql 50 (.slice a n c) (.slice none n' c')).run Try.prog w = .ok (.bool a.isNone) w := fun w a n c n' c' => Lib.run_eql_slice_nil w _ _ a n c n' c' Try.underlying50
  cases oa with
  | none =>
    obtain ⟨h0, rfl⟩ := hnil rfl
    obtain rfl : l = [] := List.eq_nil_of_length_eq_zero h0
    clear hl hnil hb h0
    go_enter Try.func17, Try.ntmps17
    go_wp2_with fail
    go_ret
    exact ⟨_, rfl, none, 0, rfl, FaultsAt.nil _ _, fun _ => ⟨rfl, rfl⟩, fun k hk => absurd hk.1 (by simp), Same.refl _ _⟩
  | some ad =>
    have HR : Hid _ := clone_runF Try.underlying50 Try.infoFault (c := c) hl hnil hb
    obtain ⟨n, en⟩ : ∃ n, n = l.length := ⟨_, rfl⟩
    rw [← en] at HR ⊢
    clear hl hnil hb en
    go_enter Try.func17, Try.ntmps17
    go_wp2_with (at_builtin; refine wpList_app rfl (.tmp 5) (.tmp 6) 50 rfl _ _ rfl rfl _ HR.out ?_; intro v' w1 hR)
    go_ret
    exact ⟨v', rfl, hR⟩
end Go.Proofs.Ytpjkmficpedmcaa
