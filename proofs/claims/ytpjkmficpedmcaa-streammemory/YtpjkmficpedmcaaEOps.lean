/- What is proved: append, copy and clear on rows of extents, as laws for the walk; slices.overlaps of two rows in two blocks; no condition. -/
import Derived.Test.YtpjkmficpedmcaaERead
import Derived.Deep.RegionLaw
namespace Go.Proofs.Ytpjkmficpedmcaa
open Go.RowKit

theorem splice_at {α : Type} (X R V : List α) : splice (X ++ R) X.length V = X ++ V ++ R.drop V.length := by
  unfold splice
  rw [List.take_left, List.append_assoc, ← List.drop_drop, List.drop_left]
theorem Row.prefix {w : World} {g c : Nat} {L R : List Ex} (h : Row w g c (L ++ R)) : Row w g c L := by
  obtain ⟨A, h1, h2, h3, h4⟩ := h
  rw [List.length_append] at h3
  refine ⟨A, h1, h2, by omega, fun k hk => ?_⟩
  rw [h4 k (by rw [List.length_append]; omega), ecs_append, List.getElem?_append_left (by rw [length_ecs]; exact hk)]
/-- The row with V laid in behind X. -/
theorem Row.lay {w' : World} {g c : Nat} {X R V : List Ex} {A : List Value} (h2 : A.length = c * 2) (h3 : (X ++ R).length ≤ c) (h4 : ∀ k, k < (X ++ R).length * 2 → A[k]? = (ecs (X ++ R))[k]?) (hf : X.length + V.length ≤ c)
    (hb : Blk w' g (splice A (X.length * 2) (ecs V))) : Row w' g c (X ++ V ++ R.drop V.length) := by
  rw [List.length_append] at h3 h4
  have hl : (X ++ V ++ R.drop V.length).length ≤ c := by simp only [List.length_append, List.length_drop]; omega
  refine ⟨_, hb, ?_, hl, fun k hk => ?_⟩
  · rw [length_splice _ _ _ (by rw [length_ecs]; omega)]; exact h2
  · simp only [List.length_append, List.length_drop] at hk
    rw [esplice_get _ _ _ _ (by rw [length_ecs]; omega), length_ecs, ecs_append, ecs_append, ecs_drop]
    by_cases c1 : k < X.length * 2
    · rw [if_neg (by omega), h4 k (by omega), ecs_append, List.getElem?_append_left (by rw [length_ecs]; exact c1), List.append_assoc, List.getElem?_append_left (by rw [length_ecs]; exact c1)]
    · by_cases c2 : k < (X.length + V.length) * 2
      · rw [if_pos (by omega), List.getElem?_append_left (by simp only [List.length_append, length_ecs]; omega), List.getElem?_append_right (by rw [length_ecs]; omega), length_ecs]
      · rw [if_neg (by omega), h4 k (by omega), ecs_append, List.getElem?_append_right (by rw [length_ecs]; omega), List.getElem?_append_right (by simp only [List.length_append, length_ecs]; omega), List.getElem?_drop]
        simp only [List.length_append, length_ecs]
        congr 1
        omega

theorem app_row {w : World} {g c i : Nat} {X R V : List Ex} {vb vo vc : Nat} (hR : Row w g c (X ++ R)) (hX : X.length = i) (hv : ExtsAt w (some ⟨vb, vo, none⟩) V) (hr : i + V.length ≤ c) (ty : TypeId) :
    ∃ w', (Builtin.append_ #[61, 61] ty #[.slice (some ⟨g, 0, none⟩) i c, .slice (some ⟨vb, vo, none⟩) V.length vc]).run Try.prog w = .ok (.slice (some ⟨g, 0, none⟩) (i + V.length) c) w' ∧ Row w' g c (X ++ V ++ R.drop V.length) ∧ Same (fun k => k = g) w w' := by
  subst hX
  obtain ⟨A, h1, h2, h3, h4⟩ := hR
  obtain ⟨w', r1, r2, r3⟩ := app_room (vc := vc) h1 h2 hv hr ty
  exact ⟨w', r1, Row.lay h2 h3 h4 hr r2, r3⟩
theorem copy_row {w : World} {g c o : Nat} {X R V : List Ex} {vb vo dLen sLen : Nat} (hR : Row w g c (X ++ R)) (hX : o = X.length * 2) (hv : ExtsAt w (some ⟨vb, vo, none⟩) V) (hn : V.length = Nat.min sLen dLen) (hf : X.length + V.length ≤ c) :
    ∃ w', (∀ dCap sCap, (Builtin.copy_ #[61, 61] 3 #[.slice (some ⟨g, o, none⟩) dLen dCap, .slice (some ⟨vb, vo, none⟩) sLen sCap]).run Try.prog w = .ok (goInt V.length) w') ∧ Row w' g c (X ++ V ++ R.drop V.length) ∧ Same (fun k => k = g) w w' := by
  subst hX
  obtain ⟨A, h1, h2, h3, h4⟩ := hR
  obtain ⟨w', r1, r2, r3⟩ := copy_exts (o := X.length * 2) h1 hv hn (by omega)
  exact ⟨w', r1, Row.lay h2 h3 h4 hf r2, r3⟩
theorem clear_row {w : World} {g c o n : Nat} {X R : List Ex} (hR : Row w g c (X ++ R)) (hX : o = X.length * 2) (hf : X.length + n ≤ c) :
    ∃ w', (∀ ty cap, (Builtin.clear_ #[61] ty #[.slice (some ⟨g, o, none⟩) n cap]).run Try.prog w = .ok (.tuple #[]) w') ∧ Row w' g c X ∧ Same (fun k => k = g) w w' := by
  subst hX
  obtain ⟨A, h1, h2, h3, h4⟩ := hR
  obtain ⟨w', r1, r2, r3⟩ := clear_exts (o := X.length * 2) (n := n) h1 (by omega)
  refine ⟨w', r1, ?_, r3⟩
  have := Row.lay (V := List.replicate n ⟨0, 0⟩) h2 h3 h4 (by simpa using hf) r2
  rw [List.append_assoc] at this
  exact this.prefix

/-- copy as a law at the operation. -/
theorem wpList_cp {P : Program} {w : World} {ops : Array Oper} {rest : List Oper} {o : Oper} {a : Act} {Q : Exit → Act → World → Prop} (hgd : o.guard = none) (d s : Operand) (t : TypeId)
    (ho : o.op = .call { callee := .builtin .copy, args := #[d, s], argTypes := #[t, t] }) (v u : Value) (hd : a.eval d = v) (hs : a.eval s = u) {v' : Value} {w' : World}
    (hr : (Builtin.copy_ #[t, t] o.type #[v, u]).run P w = .ok v' w') (h : wpList P ops Q rest (a.put o.dst v') w') : wpList P ops Q (o :: rest) a w := by
  refine wpList_plain hgd fun K hK => ?_
  unfold Oper.wp
  simp [execOp, ho, resolve, invoke, builtin, hd, hs, hr, Result.andThen]
  exact hK _ _ h
theorem step_cp {P : Program} {ops : Array Oper} {o : Oper} {a : Act} {w : World} {K : Act → World → Prop} {Q : Exit → Act → World → Prop} {E : Prop} (hg : o.guard = none) (d s : Operand) (t : TypeId)
    (ho : o.op = .call { callee := .builtin .copy, args := #[d, s], argTypes := #[t, t] }) (v u : Value) (hd : a.eval d = v) (hs : a.eval s = u) {v' : Value} {w' : World}
    (hr : (Builtin.copy_ #[t, t] o.type #[v, u]).run P w = .ok v' w') (h : K (a.put o.dst v') w') : if Region.wanted o (yielded ops a.tmps) = true then Oper.wp P o a w K Q else E := by
  have hw : Region.wanted o (yielded ops a.tmps) = true := by simp [Region.wanted, hg]
  rw [if_pos hw]
  unfold Oper.wp
  simp only [execOp, ho, resolve, invoke, builtin, Sem.run_bind, Sem.run_pure, Result.andThen_ok, List.map_toArray, List.map_cons, List.map_nil, hd, hs, hr]
  exact h
/-- clear as a law at the operation. -/
theorem wpList_cl {P : Program} {w : World} {ops : Array Oper} {rest : List Oper} {o : Oper} {a : Act} {Q : Exit → Act → World → Prop} (hgd : o.guard = none) (d : Operand) (t : TypeId)
    (ho : o.op = .call { callee := .builtin .clear, args := #[d], argTypes := #[t] }) (v : Value) (hd : a.eval d = v) {v' : Value} {w' : World}
    (hr : (Builtin.clear_ #[t] o.type #[v]).run P w = .ok v' w') (h : wpList P ops Q rest (a.put o.dst v') w') : wpList P ops Q (o :: rest) a w := by
  refine wpList_plain hgd fun K hK => ?_
  unfold Oper.wp
  simp [execOp, ho, resolve, invoke, builtin, hd, hr, Result.andThen]
  exact hK _ _ h
/-- append of so many zero values. -/
theorem wpList_apz {P : Program} {w : World} {ops : Array Oper} {rest : List Oper} {o : Oper} {a : Act} {Q : Exit → Act → World → Prop} (hgd : o.guard = none) (s x : Operand) (t tn : TypeId)
    (ho : o.op = .call { callee := .builtin .append, args := #[s, x], argTypes := #[t, tn] }) (vs vx : Value) (hs : a.eval s = vs) (hx : a.eval x = vx) (R : Value → World → Prop)
    (hrun : ∀ ty, ∃ v' w', (Builtin.append_ #[t, tn] ty #[vs, vx]).run P w = .ok v' w' ∧ R v' w') (h : ∀ v' w', R v' w' → wpList P ops Q rest (a.put o.dst v') w') : wpList P ops Q (o :: rest) a w := by
  refine wpList_plain hgd fun K hK => ?_
  obtain ⟨v', w', hr, hR⟩ := hrun o.type
  unfold Oper.wp
  simp [execOp, ho, resolve, invoke, builtin, hs, hx, hr, Result.andThen]
  exact hK _ _ (h v' w' hR)

theorem Row.shape {w : World} {g c : Nat} {L : List Ex} (h : Row w g c L) : w.shape? g = some (65, c * 2) := by
  obtain ⟨A, h1, h2, _⟩ := h
  unfold Blk at h1
  simp [World.shape?, h1, h2]
theorem sizeExt (w : World) : (Go.sizeOf 65).run Try.prog w = .ok 2 w := by
  obtain ⟨i0, hi0, hz0, hz1, hz2⟩ := info_parts Try.infoExt
  simp [sizeOf, typeInfo, hi0, hz1]
theorem overlaps_no {w : World} {g c h d : Nat} {L M : List Ex} (hR : Row w g c L) (hM : Row w h d M) (hne : g ≠ h) (hd : 0 < d) (o o' la ca lb cb : Nat) :
    (callFunc 42 #[.slice (some ⟨g, o, none⟩) la ca, .slice (some ⟨h, o', none⟩) lb cb]).run Try.prog w = .ok (.value (.bool false)) w := by
  rw [run_callFunc_extern Try.func42 (by kernel_rfl) (by kernel_rfl) (by kernel_rfl) (e := Extern.SlicesOverlaps.overlaps #[61, 61] #[4]) (by kernel_rfl),
    Lib.run_overlaps_apart w 61 4 65 Try.underlying61 2 sizeExt ⟨g, o, none⟩ ⟨h, o', none⟩ la ca lb cb hne _ _ _ _ hR.shape hM.shape (by omega) (hR.frozen _) (hR.frozen _)]
  rfl
end Go.Proofs.Ytpjkmficpedmcaa
