/- What is proved: lists of steps of one's own in memory, beside a machine; no condition. -/
import Derived.Test.YtmlefbpdlgnkgabKSer
namespace Go.Proofs.Ytmlefbpdlgnkgab
open Go.RowKit

def stc (l : List Stp) : List Value := l.flatMap fun s => [.int .i64 s.kind, .int .i64 s.ses, .int .i64 s.gap, .string s.key, .string s.value]
theorem length_stc (l : List Stp) : (stc l).length = l.length * 5 := by
  induction l with
  | nil => rfl
  | cons a r ih => simp only [stc, List.flatMap_cons, List.length_append, List.length_cons, List.length_nil] at *; omega
theorem stc_append (a b : List Stp) : stc (a ++ b) = stc a ++ stc b := by simp [stc]
theorem stc_one (l : List Stp) : ∀ v ∈ stc l, v.oneCell' = true := by
  intro v hv
  obtain ⟨o, _, hf⟩ := List.mem_flatMap.1 hv
  simp only [List.mem_cons, List.not_mem_nil, or_false] at hf
  rcases hf with rfl | rfl | rfl | rfl | rfl <;> rfl
theorem stc_get {l : List Stp} {i : Nat} {s : Stp} (h : l[i]? = some s) (j : Nat) (hj : j < 5) : (stc l)[i * 5 + j]? = [Value.int .i64 s.kind, .int .i64 s.ses, .int .i64 s.gap, .string s.key, .string s.value][j]? := by
  induction l generalizing i with
  | nil => simp at h
  | cons a r ih =>
    have e : stc (a :: r) = [Value.int .i64 a.kind, .int .i64 a.ses, .int .i64 a.gap, .string a.key, .string a.value] ++ stc r := rfl
    cases i with
    | zero =>
      simp only [List.getElem?_cons_zero, Option.some.injEq] at h
      subst h
      rw [e, List.getElem?_append_left (by simp; omega)]
      simp
    | succ i =>
      simp only [List.getElem?_cons_succ] at h
      rw [e, List.getElem?_append_right (by simp; omega), ← ih h]
      congr 1
      simp; omega
theorem Try.infoStep : (Try.prog.info? 33).map (fun i => (i.zero, i.size, i.bytes)) = some (some (.agg #[.int .i64 0, .int .i64 0, .int .i64 0, .string .empty, .string .empty]), 5, 56) := by kernel_rfl
def OwnS (base : Nat) (w : World) (v : Value) (l : List Stp) : Prop := w.ownsRow base 33 5 v l.length (stc l)
theorem OwnS.nil (base : Nat) (w : World) : OwnS base w (.slice none 0 0) [] := World.ownsRow_nil w base 33 5
theorem OwnS.steps {base : Nat} {w : World} {a : Option Addr} {m cap : Nat} {l : List Stp} (h : OwnS base w (.slice a m cap) l) : StepsAt w a l := fun i s hs => by
  obtain ⟨b, rfl, -, hb, c0⟩ := row_cell h (stc_get hs 0 (by omega))
  have e : ∀ {j : Nat} {u : Value}, (stc l)[j]? = some u → w.cell? ⟨b, j, none⟩ = some u := fun hu => by
    obtain ⟨b', eb, -, -, c⟩ := row_cell h hu
    cases eb
    exact c
  exact ⟨b, 0, rfl, hb, by rw [Nat.zero_add]; exact c0, by rw [Nat.zero_add]; exact e (stc_get hs 1 (by omega)), by rw [Nat.zero_add]; exact e (stc_get hs 2 (by omega)), by rw [Nat.zero_add]; exact e (stc_get hs 3 (by omega)), by rw [Nat.zero_add]; exact e (stc_get hs 4 (by omega))⟩
/-- Append of a list of one's own behind another. -/
theorem app_steps {w : World} {base base' : Nat} {v v2 : Value} {xs ys : List Stp} (hown : OwnS base w v xs) (h2 : OwnS base' w v2 ys) (hb : xs.length + ys.length ≤ 100000) (hbase : base ≤ w.heap.size) (ty : TypeId) :
    ∃ v' w', (Builtin.append_ #[22, 22] ty #[v, v2]).run Try.prog w = .ok v' w' ∧ OwnS base w' v' (xs ++ ys) ∧ Same (fun k => v.ownBlock = some k) w w' ∧ ∀ k, v'.ownBlock = some k → v.ownBlock = some k ∨ w.heap.size ≤ k := by
  obtain ⟨a, cap, rfl, -, hnil, -⟩ := row_shape h2
  cases a with
  | none =>
    obtain ⟨h0, rfl⟩ := hnil rfl
    obtain rfl : ys = [] := List.eq_nil_of_length_eq_zero h0
    obtain ⟨i0, hi0, -, -, -⟩ := info_parts Try.infoStep
    refine ⟨v, w, ?_, by rw [List.append_nil]; exact hown, Same.refl _ _, fun k hk => .inl hk⟩
    exact run_append_owned_none (P := Try.prog) (w := w) base 22 ty 33 i0 5 Try.underlying22 hi0 v xs.length (stc xs) hown
  | some ad =>
    obtain ⟨v', w', hr, r1, r2, r3, -⟩ := app_wide (P := Try.prog) (t := 22) (ty := ty) (c := cap) (m := ys.length) Try.underlying22 Try.infoStep rfl (by decide) hown (length_stc ys) (cells_of_row h2) (stc_one _) (by unfold maxLen; omega) (by omega) hbase
    rw [← stc_append] at r1
    exact ⟨v', w', hr, by rw [OwnS, List.length_append]; exact r1, r2, r3⟩
theorem own_one_step {w : World} {g : Nat} {s : Stp} (h : StB w g s.kind s.ses s.gap s.key s.value) : OwnS 0 w (.slice (some ⟨g, 0, none⟩) 1 1) [s] :=
  ⟨rfl, .inr ⟨g, 1, _, rfl, Nat.zero_le _, h, Nat.le_refl _, by unfold maxLen; omega, rfl, rfl⟩⟩
/-- A machine and two lists of steps beside it. -/
structure Sl (w W : World) (mb : Nat) (M : Mm) (dv nv : Value) (dn nw : List Stp) : Prop where
  m : MkB w W mb M (fun b => dv.ownBlock = some b ∨ nv.ownBlock = some b)
  d : OwnS w.heap.size W dv dn
  n : OwnS w.heap.size W nv nw
  ap : ∀ b, dv.ownBlock = some b → nv.ownBlock ≠ some b
theorem Sl.on {w W W' : World} {mb : Nat} {M : Mm} {dv nv : Value} {dn nw : List Stp} (h : Sl w W mb M dv nv dn nw) (k : Kept W W') : Sl w W' mb M dv nv dn nw :=
  ⟨h.m.on k, row_kept h.d k fun _ _ e => e, row_kept h.n k fun _ _ e => e, h.ap⟩
theorem Sl.le {w W : World} {mb : Nat} {M : Mm} {dv nv : Value} {dn nw : List Stp} (h : Sl w W mb M dv nv dn nw) : Kept w W := MkN.kept h.m.n
theorem MkB.turn {w W W' : World} {mb : Nat} {M : Mm} {G G' : Nat → Prop} {S : Nat → Prop} (h : MkB w W mb M G) (hs : Same S W W') (hS : ∀ b, S b → G b ∧ w.heap.size ≤ b) (hG : ∀ b, G' b → b < W'.heap.size ∧ (G b ∨ W.heap.size ≤ b)) : MkB w W' mb M G' := by
  obtain ⟨F, h1, h2, h3, h4⟩ := h
  refine ⟨F, h1.off hs fun b hb e => (h4 b (hS b e).1).1 hb, h2, h3.trans hs fun b hb e => ?_, fun b hb => ⟨fun hF => ?_, (hG b hb).1⟩⟩
  · have := (hS b e).2
    omega
  · rcases (hG b hb).2 with h9 | h9
    · exact (h4 b h9).1 hF
    · have := h1.lt b hF
      omega
/-- One step more in now. -/
theorem Sl.app {w W W' : World} {mb : Nat} {M : Mm} {dv nv : Value} {dn nw : List Stp} (h : Sl w W mb M dv nv dn nw) (k : Kept W W') {g : Nat} {s : Stp} (hg : StB W' g s.kind s.ses s.gap s.key s.value) (hl : nw.length ≤ 16) (ty : TypeId) :
    ∃ v' w', (Builtin.append_ #[22, 22] ty #[nv, .slice (some ⟨g, 0, none⟩) 1 1]).run Try.prog W' = .ok v' w' ∧ Sl w w' mb M dv v' dn (nw ++ [s]) := by
  have h1 := h.on k
  have hle := Same.size h1.le
  obtain ⟨v', w', r0, r1, r2, r3⟩ := app_steps h1.n (own_one_step hg) (by simp; omega) hle ty
  refine ⟨v', w', r0, h1.m.turn r2 (fun b hb => ⟨.inr hb, (row_block h1.n hb).1⟩) (fun b hb => ?_), row_kept h1.d r2 fun b hb e => h1.ap b hb e, r1, fun b hb e => ?_⟩
  · rcases hb with hb | hb
    · obtain ⟨-, cur, hc⟩ := row_block h1.d hb
      exact ⟨Nat.lt_of_lt_of_le (lt_of_heap hc) r2.size, .inl (.inl hb)⟩
    · obtain ⟨-, cur, hc⟩ := row_block r1 hb
      refine ⟨lt_of_heap hc, ?_⟩
      rcases r3 b hb with h9 | h9
      · exact .inl (.inr h9)
      · exact .inr h9
  · rcases r3 b e with h9 | h9
    · exact h1.ap b hb h9
    · obtain ⟨-, cur, hc⟩ := row_block h1.d hb
      have := lt_of_heap hc
      omega
/-- Now behind done. -/
theorem Sl.com {w W W' : World} {mb : Nat} {M : Mm} {dv nv : Value} {dn nw : List Stp} (h : Sl w W mb M dv nv dn nw) (k : Kept W W') (hl : dn.length + nw.length ≤ 100000) (ty : TypeId) :
    ∃ v' w', (Builtin.append_ #[22, 22] ty #[dv, nv]).run Try.prog W' = .ok v' w' ∧ Sl w w' mb M v' (.slice none 0 0) (dn ++ nw) [] := by
  have h1 := h.on k
  have hle := Same.size h1.le
  obtain ⟨v', w', r0, r1, r2, r3⟩ := app_steps h1.d h1.n hl hle ty
  refine ⟨v', w', r0, h1.m.turn r2 (fun b hb => ⟨.inl hb, (row_block h1.d hb).1⟩) (fun b hb => ?_), r1, OwnS.nil _ _, fun b _ e => by cases e⟩
  rcases hb with hb | hb
  · obtain ⟨-, cur, hc⟩ := row_block r1 hb
    refine ⟨lt_of_heap hc, ?_⟩
    rcases r3 b hb with h9 | h9
    · exact .inl (.inl h9)
    · exact .inr h9
  · cases hb
theorem Sl.clear {w W : World} {mb : Nat} {M : Mm} {dv nv : Value} {dn nw : List Stp} (h : Sl w W mb M dv nv dn nw) : Sl w W mb M dv (.slice none 0 0) dn [] := by
  refine ⟨?_, h.d, OwnS.nil _ _, fun b _ e => by cases e⟩
  obtain ⟨F, h1, h2, h3, h4⟩ := h.m
  exact ⟨F, h1, h2, h3, fun b hb => by
    rcases hb with hb | hb
    · exact h4 b (.inl hb)
    · cases hb⟩
/-- A step of the machine; a box stays. -/
theorem Sl.doS {w W : World} {mb : Nat} {M : Mm} {dv nv : Value} {dn nw : List Stp} (h : Sl w W mb M dv nv dn nw) (o : Obj) (kd se gp : Int) (k v : ByteArray) (hk : k.size ≤ maxLen) (hv : v.size ≤ maxLen) {A : An} {c : Int} {M' : Mm} (e : doM M ⟨kd, se, gp, k, v⟩ = (M', A)) (ec : codeD M ⟨kd, se, gp, k, v⟩ = c) :
    Calls Try.prog 9 #[.pointer (some ⟨mb, 0, none⟩), .agg #[.int .i64 kd, .int .i64 se, .int .i64 gp, .string k, .string v]] (W.alloc o) fun r w'' => r = .returned (.tuple #[.agg #[.bool A.found, .string A.value, .int .i64 A.status], .int .i64 c]) ∧ Sl w w'' mb M' dv nv dn nw ∧ w''.heap[W.heap.size]? = some o := by
  have k0 : Kept W (W.alloc o) := (Same.refl _ _).alloc _
  refine Calls.mono (MkB.doB (MkB.add h.m o) kd se gp k v hk hv e ec) fun r w'' hr => ⟨hr.1, ?_, (hr.2.2 _ (.inl rfl)).trans (heap_new W o)⟩
  obtain ⟨-, ⟨F, g1, g2, g3, g4⟩, hb⟩ := hr
  have hrow : ∀ {v l}, OwnS w.heap.size W v l → (∀ b, v.ownBlock = some b → dv.ownBlock = some b ∨ nv.ownBlock = some b) → OwnS w.heap.size w'' v l := fun {v l} ho hG => by
    have ho' : OwnS w.heap.size (W.alloc o) v l := row_kept ho k0 fun _ _ e => e
    rcases ho'.2 with ⟨rfl, h0⟩ | ⟨g, cap, cur, rfl, hbg, hg, hr⟩
    · exact ⟨ho'.1, .inl ⟨rfl, h0⟩⟩
    · exact ⟨ho'.1, .inr ⟨g, cap, cur, rfl, hbg, (hb g (.inr (hG g rfl))).trans hg, hr⟩⟩
  exact ⟨⟨F, g1, g2, g3, fun b hb => g4 b (.inr hb)⟩, hrow h.d fun b hb => .inl hb, hrow h.n fun b hb => .inr hb, h.ap⟩
end Go.Proofs.Ytmlefbpdlgnkgab
