/- What is proved: the plain stable sort; violations in memory; how two violations stand to one another, and Compare tells it; no condition. -/
import Derived.Test.YtfhaiklfbnfdlaaDoorDBase
import Derived.Laws.AppendOwnNone
import Derived.Laws.OwnMore
import Derived.Lib.SliceRun
import Derived.Deep.DeepAppendWide
import Derived.Shelf.GgSortFunc.RowK
import Derived.Shelf.SlicesQ.Load
import Derived.Shelf.SlSortCmp.QuietGrown
import Derived.BigQuiet
import Derived.BigRegion
import Derived.Carry
import Derived.Deep.RegionHeld3
import Derived.Deep.RegionLaw
import Derived.Deep.RegionWith
import Derived.Deep.QuietTactic
import Derived.Deep.CutRange
import Derived.Deep.DeepCutAuto
import Derived.StillTailTactics
namespace Go.Proofs.YtfhaiklfbnfdlaaDoor.Vi

/-- An order in which some may be alike. -/
structure SWO {α : Type} (lt : α → α → Bool) : Prop where
  asym : ∀ {a b}, lt a b = true → lt b a = false
  ntr : ∀ {a b c}, lt a b = false → lt b c = false → lt a c = false
theorem SWO.trans {α : Type} {lt : α → α → Bool} (h : SWO lt) {a b c : α} (h1 : lt a b = true) (h2 : lt b c = true) : lt a c = true := by
  cases h3 : lt a c
  · have := h.ntr h3 (h.asym h2)
    rw [h1] at this
    cases this
  · rfl
theorem SWO.irr {α : Type} {lt : α → α → Bool} (h : SWO lt) (a : α) : lt a a = false := by
  cases h1 : lt a a
  · rfl
  · rw [← h1]; exact h.asym h1
section
variable {α : Type}
/-- x ahead of the first that doesn't come before it. -/
def insL (lt : α → α → Bool) (x : α) : List α → List α
  | [] => [x]
  | y :: l => if lt y x = true then y :: insL lt x l else x :: y :: l
/-- The list sorted, those alike as they stood. -/
def srt (lt : α → α → Bool) : List α → List α
  | [] => []
  | x :: l => insL lt x (srt lt l)
theorem insL_perm (lt : α → α → Bool) (x : α) (l : List α) : (insL lt x l).Perm (x :: l) := by
  induction l with
  | nil => exact List.Perm.refl _
  | cons y l ih =>
    simp only [insL]
    by_cases h : lt y x = true
    · rw [if_pos h]
      exact (ih.cons y).trans (List.Perm.swap x y l)
    · rw [if_neg h]
theorem srt_perm (lt : α → α → Bool) (l : List α) : (srt lt l).Perm l := by
  induction l with
  | nil => exact List.Perm.refl _
  | cons x l ih => exact (insL_perm lt x _).trans (ih.cons x)
theorem srt_len (lt : α → α → Bool) (l : List α) : (srt lt l).length = l.length := (srt_perm lt l).length_eq
theorem insL_pw {lt : α → α → Bool} (h : SWO lt) (x : α) {l : List α} (hl : l.Pairwise fun a b => lt b a = false) : (insL lt x l).Pairwise fun a b => lt b a = false := by
  induction l with
  | nil => simp [insL]
  | cons y l ih =>
    obtain ⟨h1, h2⟩ := List.pairwise_cons.1 hl
    simp only [insL]
    by_cases hy : lt y x = true
    · rw [if_pos hy, List.pairwise_cons]
      refine ⟨fun z hz => ?_, ih h2⟩
      rcases List.mem_cons.1 ((insL_perm lt x l).mem_iff.1 hz) with rfl | hz
      · exact h.asym hy
      · exact h1 z hz
    · rw [if_neg hy, List.pairwise_cons]
      have hy' : lt y x = false := by simpa using hy
      refine ⟨fun z hz => ?_, hl⟩
      rcases List.mem_cons.1 hz with rfl | hz
      · exact hy'
      · exact h.ntr (h1 z hz) hy'
theorem srt_pw {lt : α → α → Bool} (h : SWO lt) (l : List α) : (srt lt l).Pairwise fun a b => lt b a = false := by
  induction l with
  | nil => exact List.Pairwise.nil
  | cons x l ih => exact insL_pw h x ih
/-- Two lists laid into one, of two alike the first list's ahead. -/
def mrg (lt : α → α → Bool) : List α → List α → List α
  | [], b => b
  | x :: a, [] => x :: a
  | x :: a, y :: b => if lt y x = true then y :: mrg lt (x :: a) b else x :: mrg lt a (y :: b)
termination_by a b => a.length + b.length
theorem mrg_nil (lt : α → α → Bool) (a : List α) : mrg lt a [] = a := by cases a <;> simp [mrg]
theorem nil_mrg (lt : α → α → Bool) (b : List α) : mrg lt [] b = b := by simp [mrg]
theorem mrg_snd {lt : α → α → Bool} {x y : α} (a b : List α) (h : lt y x = true) : mrg lt (x :: a) (y :: b) = y :: mrg lt (x :: a) b := by rw [mrg, if_pos h]
theorem mrg_fst {lt : α → α → Bool} {x y : α} (a b : List α) (h : lt y x = false) : mrg lt (x :: a) (y :: b) = x :: mrg lt a (y :: b) := by rw [mrg, if_neg (by rw [h]; decide)]
theorem mrg_ins {lt : α → α → Bool} (h : SWO lt) (x : α) : ∀ (n : Nat) (a b : List α), a.length + b.length ≤ n → mrg lt (insL lt x a) b = insL lt x (mrg lt a b) := by
  intro n
  induction n with
  | zero =>
    intro a b hn
    have ha : a = [] := List.eq_nil_of_length_eq_zero (by omega)
    have hb : b = [] := List.eq_nil_of_length_eq_zero (by omega)
    subst ha hb
    rw [mrg_nil, mrg_nil]
  | succ n ih =>
    intro a b hn
    cases b with
    | nil => rw [mrg_nil, mrg_nil]
    | cons z b =>
      simp only [List.length_cons] at hn
      cases a with
      | nil =>
        simp only [insL]
        rw [nil_mrg]
        cases hz : lt z x
        · rw [mrg_fst _ _ hz, nil_mrg]
          simp [insL, hz]
        · rw [mrg_snd _ _ hz]
          have := ih [] b (by simp; omega)
          simp only [insL] at this
          rw [this, nil_mrg]
          simp [insL, hz]
      | cons y a =>
        simp only [List.length_cons] at hn
        cases hy : lt y x
        · have e : insL lt x (y :: a) = x :: y :: a := by simp [insL, hy]
          rw [e]
          cases hz : lt z x
          · rw [mrg_fst _ _ hz]
            cases hzy : lt z y
            · rw [mrg_fst _ _ hzy]
              simp [insL, hy]
            · rw [mrg_snd _ _ hzy]
              simp [insL, hz]
          · have hzy : lt z y = true := by
              cases hzy : lt z y
              · have := h.ntr hzy hy
                rw [hz] at this
                cases this
              · rfl
            rw [mrg_snd _ _ hz, mrg_snd _ _ hzy, ← e, ih (y :: a) b (by simp; omega)]
            simp [insL, hz]
        · have e : insL lt x (y :: a) = y :: insL lt x a := by simp [insL, hy]
          rw [e]
          cases hzy : lt z y
          · rw [mrg_fst _ _ hzy, mrg_fst _ _ hzy, ih a (z :: b) (by simp; omega)]
            simp [insL, hy]
          · have hz : lt z x = true := h.trans hzy hy
            rw [mrg_snd _ _ hzy, mrg_snd _ _ hzy, ← e, ih (y :: a) b (by simp; omega)]
            simp [insL, hz]
theorem mrg_srt {lt : α → α → Bool} (h : SWO lt) (a b : List α) : mrg lt (srt lt a) (srt lt b) = srt lt (a ++ b) := by
  induction a with
  | nil => exact nil_mrg _ _
  | cons x a ih =>
    show mrg lt (insL lt x (srt lt a)) _ = insL lt x (srt lt (a ++ b))
    rw [mrg_ins h x _ _ _ (Nat.le_refl _), ih]
/-- What rises is as sorted. -/
theorem srt_of_pw {lt : α → α → Bool} {l : List α} (hl : l.Pairwise fun a b => lt b a = false) : srt lt l = l := by
  induction l with
  | nil => rfl
  | cons x l ih =>
    obtain ⟨h1, h2⟩ := List.pairwise_cons.1 hl
    show insL lt x (srt lt l) = _
    rw [ih h2]
    cases l with
    | nil => rfl
    | cons y l =>
      simp only [insL]
      rw [if_neg (by rw [h1 y (by simp)]; decide)]
theorem srt_uniq {lt : α → α → Bool} (h : SWO lt) {l o : List α} (hp : o.Perm l) (ho : o.Pairwise fun a b => lt a b = true) : o = srt lt l := by
  refine List.Perm.eq_of_pairwise (le := fun a b => lt b a = false) ?_ (ho.imp fun h' => h.asym h') (srt_pw h l) (hp.trans (srt_perm lt l).symm)
  intro a b ha hb h1 h2
  -- of two different places in the rising list one comes before the other
  have hb' : b ∈ o := hp.mem_iff.2 ((srt_perm lt l).mem_iff.1 hb)
  obtain ⟨i, hi, rfl⟩ := List.getElem_of_mem ha
  obtain ⟨j, hj, rfl⟩ := List.getElem_of_mem hb'
  rw [List.pairwise_iff_getElem] at ho
  rcases Nat.lt_trichotomy i j with hij | rfl | hij
  · have := ho i j hi hj hij
    rw [this] at h2; cases h2
  · rfl
  · have := ho j i hj hi hij
    rw [this] at h1; cases h1
end
section
variable {α : Type} [Inhabited α]
/-- The list with the items of two places changed. -/
def swp (L : List α) (i j : Nat) : List α := (L.set i (L.getD j default)).set j (L.getD i default)
theorem getD_at {L : List α} {i : Nat} (h : i < L.length) : L.getD i default = L[i] := by simp [h]
theorem swp_len (L : List α) (i j : Nat) : (swp L i j).length = L.length := by simp [swp]
theorem swp_perm {L : List α} {i j : Nat} (hi : i < L.length) (hj : j < L.length) : (swp L i j).Perm L := by
  have h := Array.swap_perm (xs := L.toArray) (i := i) (j := j) (by simpa using hi) (by simpa using hj)
  rw [List.swap_toArray] at h
  have h2 := Array.perm_iff_toList_perm.1 h
  simp only [] at h2
  unfold swp
  rw [getD_at hi, getD_at hj]
  exact h2
theorem getD_set {L : List α} {i : Nat} (x : α) (hi : i < L.length) (k : Nat) : (L.set i x).getD k default = if k = i then x else L.getD k default := by
  rw [List.getD_eq_getElem?_getD, List.getD_eq_getElem?_getD, List.getElem?_set]
  by_cases h : k = i
  · subst h; simp [hi]
  · rw [if_neg (fun e => h e.symm), if_neg h]
theorem swp_get {L : List α} {i j : Nat} (hi : i < L.length) (hj : j < L.length) (k : Nat) : (swp L i j).getD k default = if k = j then L.getD i default else if k = i then L.getD j default else L.getD k default := by
  unfold swp
  rw [getD_set _ (by simpa using hj), getD_set _ hi]
/-- Above each item stands none that comes behind it. -/
def Hp (lt : α → α → Bool) (L : List α) : Prop := ∀ k, 0 < k → k < L.length → lt (L.getD k default) (L.getD ((k - 1) / 2) default) = false
/-- The same but for the item at a place, which may have to rise. -/
structure Up (lt : α → α → Bool) (L : List α) (a : Nat) : Prop where
  inr : a < L.length
  rest : ∀ k, 0 < k → k < L.length → k ≠ a → lt (L.getD k default) (L.getD ((k - 1) / 2) default) = false
  below : ∀ k, 0 < k → k < L.length → (k - 1) / 2 = a → 0 < a → lt (L.getD k default) (L.getD ((a - 1) / 2) default) = false
/-- The same but for the item at a place, which may have to sink. -/
structure Dn (lt : α → α → Bool) (L : List α) (a : Nat) : Prop where
  rest : ∀ k, 0 < k → k < L.length → (k - 1) / 2 ≠ a → lt (L.getD k default) (L.getD ((k - 1) / 2) default) = false
  below : ∀ k, 0 < k → k < L.length → (k - 1) / 2 = a → 0 < a → lt (L.getD k default) (L.getD ((a - 1) / 2) default) = false
theorem getD_app {L : List α} {k : Nat} (x : α) (h : k < L.length) : (L ++ [x]).getD k default = L.getD k default := by
  rw [List.getD_eq_getElem?_getD, List.getD_eq_getElem?_getD, List.getElem?_append_left h]
theorem Up.start {lt : α → α → Bool} {L : List α} (h : Hp lt L) (x : α) : Up lt (L ++ [x]) L.length := by
  refine ⟨by simp, fun k h0 h1 h2 => ?_, fun k h0 h1 h2 => ?_⟩
  · simp only [List.length_append, List.length_cons, List.length_nil] at h1
    rw [getD_app _ (by omega), getD_app _ (by omega)]
    exact h k h0 (by omega)
  · simp only [List.length_append, List.length_cons, List.length_nil] at h1
    omega
theorem Up.step {lt : α → α → Bool} (o : SWO lt) {L : List α} {a : Nat} (h : Up lt L a) (h0 : 0 < a) (hl : lt (L.getD a default) (L.getD ((a - 1) / 2) default) = true) : Up lt (swp L a ((a - 1) / 2)) ((a - 1) / 2) := by
  have ha := h.inr
  have hp : (a - 1) / 2 < L.length := by omega
  generalize hq : (a - 1) / 2 = p at *
  have hpa : p ≠ a := by omega
  refine ⟨by rw [swp_len]; exact hp, fun k k0 k1 k2 => ?_, fun k k0 k1 k2 k3 => ?_⟩
  · rw [swp_len] at k1
    rw [swp_get ha hp, swp_get ha hp, if_neg k2]
    by_cases e1 : k = a
    · subst e1
      rw [if_pos rfl, hq, if_pos rfl]
      exact o.asym hl
    · rw [if_neg e1]
      by_cases e2 : (k - 1) / 2 = p
      · rw [if_pos e2]
        -- a brother of a
        have := h.rest k k0 k1 e1
        rw [e2] at this
        exact o.ntr this (o.asym hl)
      · rw [if_neg e2]
        by_cases e3 : (k - 1) / 2 = a
        · rw [if_pos e3]
          have := h.below k k0 k1 e3 h0
          rwa [hq] at this
        · rw [if_neg e3]
          exact h.rest k k0 k1 e1
  · rw [swp_len] at k1
    have hpp : (p - 1) / 2 ≠ p := by omega
    have hpp2 : (p - 1) / 2 ≠ a := by omega
    rw [swp_get ha hp, swp_get ha hp, if_neg hpp, if_neg hpp2]
    have hkp : k ≠ p := by omega
    rw [if_neg hkp]
    have hpr := h.rest p k3 hp hpa
    by_cases e1 : k = a
    · rw [if_pos e1]; exact hpr
    · rw [if_neg e1]
      have := h.rest k k0 k1 e1
      rw [k2] at this
      exact o.ntr this hpr
theorem Up.done {lt : α → α → Bool} {L : List α} {a : Nat} (h : Up lt L a) (hl : 0 < a → lt (L.getD a default) (L.getD ((a - 1) / 2) default) = false) : Hp lt L := fun k k0 k1 => by
  by_cases e : k = a
  · subst e; exact hl k0
  · exact h.rest k k0 k1 e
theorem Dn.step {lt : α → α → Bool} (o : SWO lt) {L : List α} {a c : Nat} (h : Dn lt L a) (h0 : 0 < c) (hc : c < L.length) (hpar : (c - 1) / 2 = a) (hl : lt (L.getD c default) (L.getD a default) = true)
    (hm : ∀ k, 0 < k → k < L.length → (k - 1) / 2 = a → lt (L.getD k default) (L.getD c default) = false) : Dn lt (swp L a c) c := by
  have ha : a < L.length := by omega
  have hca : c ≠ a := by omega
  refine ⟨fun k k0 k1 k2 => ?_, fun k k0 k1 k2 k3 => ?_⟩
  · rw [swp_len] at k1
    rw [swp_get ha hc, swp_get ha hc, if_neg k2]
    by_cases e1 : k = c
    · subst e1
      rw [if_pos rfl, if_pos hpar]
      exact o.asym hl
    · rw [if_neg e1]
      by_cases e2 : (k - 1) / 2 = a
      · rw [if_pos e2, if_neg (by omega)]
        exact hm k k0 k1 e2
      · rw [if_neg e2]
        by_cases e3 : k = a
        · subst e3
          rw [if_pos rfl]
          exact h.below c h0 hc hpar k0
        · rw [if_neg e3]
          exact h.rest k k0 k1 e2
  · rw [swp_len] at k1
    rw [swp_get ha hc, swp_get ha hc, hpar, if_neg (by omega), if_neg (by omega), if_neg (fun e => hca e.symm), if_pos rfl]
    have := h.rest k k0 k1 (by omega)
    rwa [k2] at this
theorem Dn.done {lt : α → α → Bool} {L : List α} {a : Nat} (h : Dn lt L a) (hm : ∀ k, 0 < k → k < L.length → (k - 1) / 2 = a → lt (L.getD k default) (L.getD a default) = false) : Hp lt L := fun k k0 k1 => by
  by_cases e : (k - 1) / 2 = a
  · rw [e]; exact hm k k0 k1 e
  · exact h.rest k k0 k1 e
/-- The first comes behind none. -/
theorem Hp.first {lt : α → α → Bool} (o : SWO lt) {L : List α} (h : Hp lt L) : ∀ k, k < L.length → lt (L.getD k default) (L.getD 0 default) = false := by
  intro k
  induction k using Nat.strongRecOn with
  | ind k ih =>
    intro hk
    by_cases h0 : k = 0
    · subst h0; exact o.irr _
    · exact o.ntr (h k (by omega) hk) (ih ((k - 1) / 2) (by omega) (by omega))
theorem Hp.mem {lt : α → α → Bool} (o : SWO lt) {L : List α} (h : Hp lt L) {x : α} (hx : x ∈ L) : lt x (L.getD 0 default) = false := by
  obtain ⟨i, hi, rfl⟩ := List.getElem_of_mem hx
  have := h.first o i hi
  rwa [getD_at hi] at this
theorem Hp.nil (lt : α → α → Bool) : Hp lt [] := fun k _ h => by simp at h
end
end Go.Proofs.YtfhaiklfbnfdlaaDoor.Vi

namespace Go.Proofs.YtfhaiklfbnfdlaaDoor.Vi
open Go.RowKit

theorem wpList_app {P : Program} {w : World} {ops : Array Oper} {rest : List Oper} {o : Oper} {a : Act} {Q : Exit → Act → World → Prop} (hgd : o.guard = none) (s x : Operand) (t : TypeId)
    (ho : o.op = .call { callee := .builtin .append, args := #[s, x], argTypes := #[t, t] }) (vs vx : Value) (hs : a.eval s = vs) (hx : a.eval x = vx) (R : Value → World → Prop)
    (hrun : ∀ ty, ∃ v' w', (Builtin.append_ #[t, t] ty #[vs, vx]).run P w = .ok v' w' ∧ R v' w') (h : ∀ v' w', R v' w' → wpList P ops Q rest (a.put o.dst v') w') : wpList P ops Q (o :: rest) a w := by
  refine wpList_plain hgd fun K hK => ?_
  obtain ⟨v', w', hr, hR⟩ := hrun o.type
  unfold Oper.wp
  simp [execOp, ho, resolve, invoke, builtin, hs, hx, hr, Result.andThen]
  exact hK _ _ (h v' w' hR)
/-- The same as one step of a region that draws its order. -/
theorem step_app {P : Program} {ops : Array Oper} {o : Oper} {a : Act} {w : World} {K : Act → World → Prop} {Q : Exit → Act → World → Prop} {E : Prop} (hg : o.guard = none) (s x : Operand) (t : TypeId)
    (ho : o.op = .call { callee := .builtin .append, args := #[s, x], argTypes := #[t, t] }) (vs vx : Value) (hs : a.eval s = vs) (hx : a.eval x = vx) (R : Value → World → Prop)
    (hrun : ∀ ty, ∃ v' w', (Builtin.append_ #[t, t] ty #[vs, vx]).run P w = .ok v' w' ∧ R v' w') (h : ∀ v' w', R v' w' → K (a.put o.dst v') w') : if Region.wanted o (yielded ops a.tmps) = true then Oper.wp P o a w K Q else E := by
  have hw : Region.wanted o (yielded ops a.tmps) = true := by simp [Region.wanted, hg]
  rw [if_pos hw]
  obtain ⟨v', w', hr, hR⟩ := hrun o.type
  unfold Oper.wp
  simp only [execOp, ho, resolve, invoke, builtin, Sem.run_bind, Sem.run_pure, Result.andThen_ok, List.map_toArray, List.map_cons, List.map_nil, hs, hx, hr]
  exact h v' w' hR
theorem wp_app {P : Program} {o : Oper} {a : Act} {w : World} {K : Act → World → Prop} {Q : Exit → Act → World → Prop} (s x : Operand) (t : TypeId)
    (ho : o.op = .call { callee := .builtin .append, args := #[s, x], argTypes := #[t, t] }) (vs vx : Value) (hs : a.eval s = vs) (hx : a.eval x = vx) (R : Value → World → Prop)
    (hrun : ∀ ty, ∃ v' w', (Builtin.append_ #[t, t] ty #[vs, vx]).run P w = .ok v' w' ∧ R v' w') (h : ∀ v' w', R v' w' → K (a.put o.dst v') w') : Oper.wp P o a w K Q := by
  obtain ⟨v', w', hr, hR⟩ := hrun o.type
  unfold Oper.wp
  simp only [execOp, ho, resolve, invoke, builtin, Sem.run_bind, Sem.run_pure, Result.andThen_ok, List.map_toArray, List.map_cons, List.map_nil, hs, hx, hr]
  exact h v' w' hR
end Go.Proofs.YtfhaiklfbnfdlaaDoor.Vi

namespace Go.Proofs.YtfhaiklfbnfdlaaDoor.Ch
open Go.RowKit

/-- Append behind a row of one's own: where the new row lies; the wide bound. -/
theorem app_wide {P : Program} {w : World} {base : Nat} {t ty e : TypeId} {z : Value} {size bytes : Nat} (ht : P.underlying t = some (.slice e)) (hi : (P.info? e).map (fun i => (i.zero, i.size, i.bytes)) = some (some z, size, bytes)) (hzs : z.cells.size = size) (hsz : 0 < size)
    {v : Value} {n : Nat} {xs : List Value} (hown : w.ownsRow base e size v n xs) {a : Addr} {m c : Nat} {news : List Value} (hl : news.length = m * size) (hnews : ∀ j u, news[j]? = some u → w.cell? (a.add j) = some u) (h1 : ∀ u ∈ news, u.oneCell' = true)
    (h63 : n + m ≤ maxLen) (hbytes : ((n + m) + (n + m) / 4 + 192) * bytes ≤ 281474976710656) (hbase : base ≤ w.heap.size) :
    ∃ v' w', (Builtin.append_ #[t, t] ty #[v, .slice (some a) m c]).run P w = .ok v' w' ∧ w'.ownsRow base e size v' (n + m) (xs ++ news) ∧ Same (fun k => v.ownBlock = some k) w w' ∧ (∀ k, v'.ownBlock = some k → v.ownBlock = some k ∨ w.heap.size ≤ k) ∧ (v' = .slice none 0 0 ↔ v = .slice none 0 0 ∧ m = 0) := by
  obtain ⟨i0, hi0, hz0, rfl, rfl⟩ := info_parts hi
  obtain ⟨v', w', hr, r1, r2, r3⟩ := Go.run_append_own_wide (P := P) w base t ty e i0 z _ _ ht hi0 hz0 rfl rfl hzs hsz v n xs hown a m c news hl hnews h1 h63 hbytes hbase
  have hsmall : n + m ≤ 9223372036854775807 := by simp only [maxLen] at h63; omega
  refine ⟨v', w', hr, r1, Same.of_grown r2 (fun k e => e), fun k hk => ?_, r3⟩
  rcases hown.2 with ⟨rfl, rfl⟩ | ⟨g, cap, cur, rfl, hbg, hg, hnc, hcm, hcs, htake⟩
  · have hx : xs = [] := List.eq_nil_of_length_eq_zero (by simpa using hown.1)
    subst hx
    obtain ⟨v2, w2, hr2, q1, -⟩ := Go.run_append_own_wide (P := P) w w.heap.size t ty e i0 z _ _ ht hi0 hz0 rfl rfl hzs hsz _ 0 [] (World.ownsRow_nil w w.heap.size e i0.size) a m c news hl hnews h1 h63 hbytes (Nat.le_refl _)
    rw [hr] at hr2
    cases hr2
    exact .inr (q1.lt k hk).1
  · by_cases hroom : n + m ≤ cap
    · have hfit : n * i0.size + news.length ≤ cur.size := by rw [hl, hcs, ← Nat.add_mul]; exact Nat.mul_le_mul_right _ hroom
      have hr2 := run_append_room (P := P) w t ty e i0 ht hi0 g n cap cur hg a m c news hl hnews h1 hroom hfit
      rw [hr] at hr2
      cases hr2
      exact .inl hk
    · have hr2 := run_append_grow (P := P) w t ty e i0 z ht hi0 hz0 ⟨g, 0, none⟩ n cap xs hown.1 (hown.cells (g := g) rfl) a m c news hl hnews (by omega) (by omega) (growslice_fits_wide (by omega) hbytes)
      rw [hr] at hr2
      cases hr2
      simp only [Value.ownBlock, Option.some.injEq] at hk
      exact .inr (by omega)
end Go.Proofs.YtfhaiklfbnfdlaaDoor.Ch

namespace Go.Proofs.YtfhaiklfbnfdlaaDoor.Vi
open Go.RowKit

/-- New blocks and draws alone. -/
def Grw (w w' : World) : Prop := ∃ q os, w' = Sort.grow (w.drewN q) os
theorem Grw.refl (w : World) : Grw w w := ⟨0, #[], by rw [Sort.grow_empty]; rfl⟩
theorem Grw.trans {a b c : World} (h : Grw a b) (k : Grw b c) : Grw a c := by
  obtain ⟨q, os, rfl⟩ := h
  obtain ⟨r, ot, rfl⟩ := k
  refine ⟨q + r, os ++ ot, ?_⟩
  rw [← Sort.grow_grow, ← World.drewN_drewN]
  rfl
theorem Grw.drew {a b : World} (h : Grw a b) : Grw a b.drew := h.trans ⟨1, #[], by rw [Sort.grow_empty]; rfl⟩
theorem Grw.drewN {a b : World} (h : Grw a b) (n : Nat) : Grw a (b.drewN n) := h.trans ⟨n, #[], by rw [Sort.grow_empty]⟩
theorem Grw.alloc {a b : World} (h : Grw a b) (o : Obj) : Grw a (b.alloc o) := h.trans ⟨0, #[o], by rw [Sort.alloc_eq_grow]; rfl⟩
theorem Grw.grow {a b : World} (h : Grw a b) (n : Nat) (os : Array Obj) : Grw a (Sort.grow (b.drewN n) os) := h.trans ⟨n, os, rfl⟩
theorem Grw.kept {a b : World} (h : Grw a b) : Kept a b := by
  obtain ⟨q, os, rfl⟩ := h
  exact ⟨rfl, rfl, rfl, by rw [Sort.size_grow]; exact Nat.le_add_right _ _, fun k hk _ => Sort.heap_grow_old _ _ hk⟩

section
variable {α : Type} [Inhabited α]
/-- The cells of a list. -/
def fl (enc : α → List Value) (l : List α) : List Value := l.flatMap enc
/-- Each element has so many cells, one value each. -/
structure Ek (enc : α → List Value) (k : Nat) : Prop where
  len : ∀ x, (enc x).length = k
  one : ∀ x, ∀ v ∈ enc x, v.oneCell' = true
  pos : 0 < k
omit [Inhabited α] in
theorem fl_append (enc : α → List Value) (a b : List α) : fl enc (a ++ b) = fl enc a ++ fl enc b := by simp [fl]
omit [Inhabited α] in
theorem fl_cons (enc : α → List Value) (a : α) (b : List α) : fl enc (a :: b) = enc a ++ fl enc b := rfl
omit [Inhabited α] in
theorem fl_one {enc : α → List Value} {k : Nat} (E : Ek enc k) (l : List α) : ∀ v ∈ fl enc l, v.oneCell' = true := by
  intro v hv
  obtain ⟨o, _, hf⟩ := List.mem_flatMap.1 hv
  exact E.one o v hf
omit [Inhabited α] in
theorem length_fl {enc : α → List Value} {k : Nat} (E : Ek enc k) (l : List α) : (fl enc l).length = l.length * k := by
  induction l with
  | nil => simp [fl]
  | cons a r ih => rw [fl_cons, List.length_append, ih, E.len, List.length_cons, Nat.add_mul, Nat.one_mul, Nat.add_comm]
omit [Inhabited α] in
theorem fl_get {enc : α → List Value} {k : Nat} (E : Ek enc k) {l : List α} {i : Nat} {x : α} (h : l[i]? = some x) (c : Nat) (hc : c < k) : (fl enc l)[i * k + c]? = (enc x)[c]? := by
  induction l generalizing i with
  | nil => simp at h
  | cons a r ih =>
    rw [fl_cons]
    cases i with
    | zero =>
      simp only [List.getElem?_cons_zero, Option.some.injEq] at h
      subst h
      rw [Nat.zero_mul, Nat.zero_add, List.getElem?_append_left (by rw [E.len]; exact hc)]
    | succ i =>
      simp only [List.getElem?_cons_succ] at h
      have e : (i + 1) * k + c = k + (i * k + c) := by rw [Nat.add_mul, Nat.one_mul]; omega
      rw [e, List.getElem?_append_right (by rw [E.len]; omega), E.len, ← ih h]
      congr 1
      omega
omit [Inhabited α] in
theorem place_lt {i n c k : Nat} (hi : i < n) (hc : c < k) : i * k + c < n * k := by
  have := Nat.mul_le_mul_right k (show i + 1 ≤ n from hi)
  rw [Nat.add_mul, Nat.one_mul] at this
  omega
omit [Inhabited α] in
theorem fl_set {enc : α → List Value} {k : Nat} (E : Ek enc k) {l : List α} {i : Nat} (hi : i < l.length) (x : α) (t : Nat) : (fl enc (l.set i x))[t]? = if i * k ≤ t ∧ t < i * k + k then (enc x)[t - i * k]? else (fl enc l)[t]? := by
  have k0 := E.pos
  by_cases ht : t < l.length * k
  · have hd : t / k < l.length := by rw [Nat.div_lt_iff_lt_mul k0]; exact ht
    have hm : t % k < k := Nat.mod_lt _ k0
    have et : t / k * k + t % k = t := by rw [Nat.mul_comm]; exact Nat.div_add_mod t k
    have q : (i * k ≤ t ∧ t < i * k + k) ↔ t / k = i := Sort.blk_iff k i t k0
    by_cases e : t / k = i
    · rw [if_pos (q.2 e)]
      have h1 : (l.set i x)[i]? = some x := by rw [List.getElem?_set]; simp [hi]
      have := fl_get E h1 (t % k) hm
      rw [e] at et
      rw [et] at this
      rw [this]
      congr 1
      omega
    · rw [if_neg (fun h => e (q.1 h))]
      obtain ⟨y, hy⟩ : ∃ y, l[t / k]? = some y := ⟨_, List.getElem?_eq_getElem hd⟩
      have h1 : (l.set i x)[t / k]? = some y := by rw [List.getElem?_set, if_neg (fun h => e h.symm)]; exact hy
      have a := fl_get E h1 (t % k) hm
      have b := fl_get E hy (t % k) hm
      rw [et] at a b
      rw [a, b]
  · have hik : i * k + k ≤ l.length * k := by have := Nat.mul_le_mul_right k (show i + 1 ≤ l.length from hi); rwa [Nat.add_mul, Nat.one_mul] at this
    rw [if_neg (by omega), List.getElem?_eq_none (by rw [length_fl E, List.length_set]; omega), List.getElem?_eq_none (by rw [length_fl E]; omega)]
/-- A list in memory, as it is read. -/
def At (enc : α → List Value) (k : Nat) (w : World) (a : Option Addr) (l : List α) : Prop := ∀ j x, l[j]? = some x → ∃ b o, a = some ⟨b, o, none⟩ ∧ b < w.heap.size ∧ ∀ c v, (enc x)[c]? = some v → w.cell? ⟨b, o + j * k + c, none⟩ = some v
omit [Inhabited α] in
theorem At.nil (enc : α → List Value) (k : Nat) (w : World) (a : Option Addr) : At enc k w a ([] : List α) := fun j x h => by simp at h
omit [Inhabited α] in
theorem At.kept {S : Nat → Prop} {enc : α → List Value} {k : Nat} {w w' : World} {a : Option Addr} {l : List α} (h : At enc k w a l) (hs : Same S w w') (hn : ∀ b o, a = some ⟨b, o, none⟩ → b < w.heap.size → ¬ S b) : At enc k w' a l := fun j x hx => by
  obtain ⟨b, o, e, hb, hc⟩ := h j x hx
  exact ⟨b, o, e, Nat.lt_of_lt_of_le hb hs.size, fun c v hv => (hs.cell (p := ⟨b, _, none⟩) hb (hn b o e hb)).trans (hc c v hv)⟩
omit [Inhabited α] in
theorem At.on {enc : α → List Value} {k : Nat} {w w' : World} {a : Option Addr} {l : List α} (h : At enc k w a l) (hs : Kept w w') : At enc k w' a l := h.kept hs fun _ _ _ _ e => e
omit [Inhabited α] in
theorem At.take {enc : α → List Value} {k : Nat} {w : World} {a : Option Addr} {l : List α} (h : At enc k w a l) (n : Nat) : At enc k w a (l.take n) := fun j x hx => by
  rw [List.getElem?_take] at hx
  split at hx
  · exact h j x hx
  · cases hx
/-- A list of one's own. -/
def Own (enc : α → List Value) (k : Nat) (T : TypeId) (base : Nat) (w : World) (v : Value) (l : List α) : Prop := w.ownsRow base T k v l.length (fl enc l)
omit [Inhabited α] in
theorem Own.nil (enc : α → List Value) (k : Nat) (T : TypeId) (base : Nat) (w : World) : Own enc k T base w (.slice none 0 0) ([] : List α) := ⟨by simp [fl], .inl ⟨rfl, rfl⟩⟩
omit [Inhabited α] in
theorem Own.kept {S : Nat → Prop} {enc : α → List Value} {k : Nat} {T : TypeId} {base : Nat} {w w' : World} {v : Value} {l : List α} (h : Own enc k T base w v l) (hs : Same S w w') (hn : ∀ b, v.ownBlock = some b → ¬ S b) : Own enc k T base w' v l := by
  rcases h.2 with ⟨rfl, h0⟩ | ⟨g, cap, cur, rfl, hb, hg, hr⟩
  · exact ⟨h.1, .inl ⟨rfl, h0⟩⟩
  · exact ⟨h.1, .inr ⟨g, cap, cur, rfl, hb, (hs.block g (lt_of_heap hg) (hn g rfl)).trans hg, hr⟩⟩
omit [Inhabited α] in
theorem Own.on {enc : α → List Value} {k : Nat} {T : TypeId} {base : Nat} {w w' : World} {v : Value} {l : List α} (h : Own enc k T base w v l) (hs : Kept w w') : Own enc k T base w' v l := h.kept hs fun _ _ e => e
omit [Inhabited α] in
theorem Own.base {enc : α → List Value} {k : Nat} {T : TypeId} {base base' : Nat} {w : World} {v : Value} {l : List α} (h : Own enc k T base w v l) (hb : base' ≤ base) : Own enc k T base' w v l := by
  rcases h.2 with ⟨rfl, h0⟩ | ⟨g, cap, cur, rfl, hb2, hg, hr⟩
  · exact ⟨h.1, .inl ⟨rfl, h0⟩⟩
  · exact ⟨h.1, .inr ⟨g, cap, cur, rfl, Nat.le_trans hb hb2, hg, hr⟩⟩
omit [Inhabited α] in
theorem Own.block {enc : α → List Value} {k : Nat} {T : TypeId} {base : Nat} {w : World} {v : Value} {l : List α} (h : Own enc k T base w v l) {b : Nat} (hk : v.ownBlock = some b) : base ≤ b ∧ ∃ cur, w.heap[b]? = some (.cells cur T (0, 0)) := by
  rcases h.2 with ⟨rfl, h0⟩ | ⟨g, cap, cur, rfl, hb, hg, hr⟩
  · cases hk
  · cases hk
    exact ⟨hb, cur, hg⟩
omit [Inhabited α] in
theorem Own.shape {enc : α → List Value} {k : Nat} {T : TypeId} {base : Nat} {w : World} {v : Value} {l : List α} (h : Own enc k T base w v l) : ∃ a cap, v = .slice a l.length cap ∧ l.length ≤ cap ∧ (a = none → l = [] ∧ cap = 0) ∧ (∀ ad, a = some ad → ∃ g, ad = ⟨g, 0, none⟩ ∧ base ≤ g ∧ g < w.heap.size) := by
  rcases h.2 with ⟨rfl, hn⟩ | ⟨g, cap, cur, rfl, hb, hg, h1, h2, h3, h4⟩
  · exact ⟨none, 0, by rw [hn], by omega, fun _ => ⟨List.eq_nil_of_length_eq_zero hn, rfl⟩, fun _ e => (by cases e)⟩
  · exact ⟨some ⟨g, 0, none⟩, cap, rfl, h1, fun e => (by cases e), fun ad e => by cases e; exact ⟨g, rfl, hb, lt_of_heap hg⟩⟩
omit [Inhabited α] in
theorem Own.at {enc : α → List Value} {k : Nat} (E : Ek enc k) {T : TypeId} {base : Nat} {w : World} {a : Option Addr} {m cap : Nat} {l : List α} (h : Own enc k T base w (.slice a m cap) l) : At enc k w a l := fun j x hx => by
  rcases h.2 with ⟨e0, hn⟩ | ⟨g, cap', cur, e0, hb, hg, h1, h2, h3, h4⟩
  · rw [List.eq_nil_of_length_eq_zero hn] at hx
    simp at hx
  · cases e0
    refine ⟨g, 0, rfl, lt_of_heap hg, fun c v hv => ?_⟩
    have hc : c < k := by have := (List.getElem?_eq_some_iff.1 hv).1; rwa [E.len] at this
    have hu := (fl_get E hx c hc).trans hv
    rw [cell_of hg, Nat.zero_add]
    rw [← h4, List.getElem?_take] at hu
    split at hu
    · simpa using hu
    · cases hu
theorem setCells_block (w : World) (b o : Nat) (vs : List Value) {arr : Array Value} {ty : TypeId} (h : w.heap[b]? = some (.cells arr ty (0, 0))) : (w.setCells b o vs).heap[b]? = some (.cells (Sort.setMany arr o vs) ty (0, 0)) := by
  induction vs generalizing w o arr with
  | nil => exact h
  | cons v vs ih => exact ih _ _ (setCell_at h o v)
theorem setCells_same (w : World) (b o : Nat) (vs : List Value) : Same (fun k => k = b) w (w.setCells b o vs) := by
  induction vs generalizing w o with
  | nil => exact Same.refl _ _
  | cons v vs ih =>
    have h0 : Same (fun k => k = b) w (w.setCell ⟨b, o, none⟩ v) := (Same.refl (fun k => k = b) w).setCell ⟨b, o, none⟩ (.inr rfl) v
    exact h0.trans' (ih _ _)
omit [Inhabited α] in
/-- An element is stored. -/
theorem Own.put {enc : α → List Value} {k : Nat} (E : Ek enc k) {T : TypeId} {base : Nat} {w : World} {g m cap : Nat} {l : List α} (h : Own enc k T base w (.slice (some ⟨g, 0, none⟩) m cap) l) {i : Nat} (hi : i < l.length) (x : α) (P : Program) :
    Sem.run P (storeCells ⟨g, i * k, none⟩ (enc x) 0) w = .ok () (w.setCells g (i * k) (enc x)) ∧ Own enc k T base (w.setCells g (i * k) (enc x)) (.slice (some ⟨g, 0, none⟩) m cap) (l.set i x) ∧ Same (fun b => b = g) w (w.setCells g (i * k) (enc x)) := by
  rcases h.2 with ⟨e0, hn⟩ | ⟨g', cap', cur, e0, hb, hg, h1, h2, h3, h4⟩
  · cases e0
  cases e0
  have hik : i * k + k ≤ cap * k := by have := Nat.mul_le_mul_right k (show i + 1 ≤ cap by omega); rwa [Nat.add_mul, Nat.one_mul] at this
  refine ⟨?_, ⟨?_, .inr ⟨g, cap, _, by rw [List.length_set], hb, setCells_block w g (i * k) (enc x) hg, by rw [List.length_set]; exact h1, h2, by rw [Sort.size_setMany]; exact h3, ?_⟩⟩, setCells_same _ _ _ _⟩
  · have := run_storeCells_cells (P := P) g (i * k) (enc x) 0 w (fun c hc => by
      rw [E.len] at hc
      rw [Nat.add_zero, cell_of hg, Array.getElem?_eq_getElem (by rw [h3]; omega)]; rfl) (fun c _ => frozen_of hg _) (E.one x)
    rwa [Nat.add_zero] at this
  · rw [length_fl E]
  · apply List.ext_getElem?
    intro t
    rw [fl_set E hi, List.getElem?_take, List.length_set, Array.getElem?_toList]
    by_cases ht : t < l.length * k
    · have htc : t < cur.size := by rw [h3]; exact Nat.lt_of_lt_of_le ht (Nat.mul_le_mul_right k h1)
      rw [if_pos ht]
      have hgm := Sort.get_setMany (enc x) (i * k) cur t htc
      rw [getElem!_pos _ t (by rw [Sort.size_setMany]; exact htc)] at hgm
      rw [Array.getElem?_eq_getElem (by rw [Sort.size_setMany]; exact htc), hgm, E.len]
      by_cases hin : i * k ≤ t ∧ t < i * k + k
      · rw [if_pos hin, if_pos hin, getElem!_pos (enc x) _ (by rw [E.len]; omega), List.getElem?_eq_getElem (by rw [E.len]; omega)]
      · rw [if_neg hin, if_neg hin, getElem!_pos cur t htc]
        have := congrArg (·[t]?) h4
        simp only [List.getElem?_take, Array.getElem?_toList, if_pos ht] at this
        rw [← this, Array.getElem?_eq_getElem htc]
    · rw [if_neg ht]
      have hik2 : i * k + k ≤ l.length * k := by have := Nat.mul_le_mul_right k (show i + 1 ≤ l.length from hi); rwa [Nat.add_mul, Nat.one_mul] at this
      rw [if_neg (by omega), List.getElem?_eq_none (by rw [length_fl E]; omega)]
omit [Inhabited α] in
/-- One element more. -/
theorem Own.app {enc : α → List Value} {k : Nat} (E : Ek enc k) {P : Program} {t ty T : TypeId} {z : Value} {bytes : Nat} (ht : P.underlying t = some (.slice T)) (hi : (P.info? T).map (fun i => (i.zero, i.size, i.bytes)) = some (some z, k, bytes)) (hzs : z.cells.size = k)
    {w : World} {base : Nat} {v : Value} {xs : List α} (hown : Own enc k T base w v xs) {a : Option Addr} {c : Nat} {ys : List α} (hy : At enc k w a ys) (hn : ys ≠ []) (hb : ((xs.length + ys.length) + (xs.length + ys.length) / 4 + 192) * bytes ≤ 281474976710656) (hm : xs.length + ys.length ≤ maxLen) (hbase : base ≤ w.heap.size) :
    ∃ v' w', (Builtin.append_ #[t, t] ty #[v, .slice a ys.length c]).run P w = .ok v' w' ∧ Own enc k T base w' v' (xs ++ ys) ∧ Same (fun k => v.ownBlock = some k) w w' ∧ ∀ k, v'.ownBlock = some k → v.ownBlock = some k ∨ w.heap.size ≤ k := by
  obtain ⟨y0, hy0⟩ : ∃ y, ys[0]? = some y := by cases ys with
    | nil => exact absurd rfl hn
    | cons y r => exact ⟨y, rfl⟩
  obtain ⟨b, o, rfl, hbl, -⟩ := hy 0 y0 hy0
  obtain ⟨v', w', hr, r1, r2, r3, -⟩ := Ch.app_wide (P := P) (t := t) (ty := ty) (c := c) (m := ys.length) (a := ⟨b, o, none⟩) (news := fl enc ys) ht hi hzs E.pos hown (length_fl E ys) (fun j u hu => by
    have hj : j < ys.length * k := by have := (List.getElem?_eq_some_iff.1 hu).1; rwa [length_fl E] at this
    have k0 := E.pos
    have hd : j / k < ys.length := by rw [Nat.div_lt_iff_lt_mul k0]; exact hj
    have hm2 : j % k < k := Nat.mod_lt _ k0
    have et : j / k * k + j % k = j := by rw [Nat.mul_comm]; exact Nat.div_add_mod j k
    obtain ⟨y, hyj⟩ : ∃ y, ys[j / k]? = some y := ⟨_, List.getElem?_eq_getElem hd⟩
    obtain ⟨b', o', e, -, hc⟩ := hy _ y hyj
    cases e
    have hg := fl_get E hyj (j % k) hm2
    rw [et, hu] at hg
    have := hc _ u hg.symm
    rw [Nat.add_assoc, et] at this
    rw [Addr.add_lit]
    exact this) (fl_one E ys) hm hb hbase
  rw [← fl_append] at r1
  exact ⟨v', w', hr, by rw [Own, List.length_append]; exact r1, r2, r3⟩
end
end Go.Proofs.YtfhaiklfbnfdlaaDoor.Vi

namespace Go.Proofs.YtfhaiklfbnfdlaaDoor.Vi
open Go.RowKit

/-- How two numbers stand to one another. -/
def cmp3 (a b : Int) : Int := if a < b then -1 else if b < a then 1 else 0
theorem cmp3_lt {a b : Int} (h : a < b) : cmp3 a b = -1 := if_pos h
theorem cmp3_gt {a b : Int} (h : b < a) : cmp3 a b = 1 := by unfold cmp3; rw [if_neg (by omega), if_pos h]
theorem cmp3_eq (a : Int) : cmp3 a a = 0 := by unfold cmp3; rw [if_neg (by omega), if_neg (by omega)]
theorem cmp3_cases (a b : Int) : (a < b ∧ cmp3 a b = -1 ∧ cmp3 b a = 1) ∨ (b < a ∧ cmp3 a b = 1 ∧ cmp3 b a = -1) ∨ (a = b ∧ cmp3 a b = 0 ∧ cmp3 b a = 0) := by
  rcases Int.lt_trichotomy a b with h | rfl | h
  · exact .inl ⟨h, cmp3_lt h, cmp3_gt h⟩
  · exact .inr (.inr ⟨rfl, cmp3_eq _, cmp3_eq _⟩)
  · exact .inr (.inl ⟨h, cmp3_gt h, cmp3_lt h⟩)
set_option maxRecDepth 100000 in
theorem isnan_any (x : Int) (w : World) : Calls Tryd.prog 72 #[.int .i64 x] w fun e w' => e = .returned (.bool false) ∧ w' = w := by
  have h : (x != x) = false := by simp
  go_enter Tryd.func72, Tryd.ntmps72
  go_wp2_with fail
  go_ret
  exact ⟨rfl, rfl⟩
set_option maxRecDepth 100000 in
set_option maxHeartbeats 800000 in
theorem cmpC_any (x y : Int) (w : World) : Calls Tryd.prog 63 #[.int .i64 x, .int .i64 y] w fun e w' => e = .returned (.int .i64 (cmp3 x y)) ∧ w' = w := by
  have HX : Hid (∀ W, _) := fun W => isnan_any x W
  have HY : Hid (∀ W, _) := fun W => isnan_any y W
  rcases cmp3_cases x y with ⟨h, e, -⟩ | ⟨h, e, -⟩ | ⟨rfl, e, -⟩
  · rw [e]
    have d : decide (x < y) = true := decide_eq_true h
    clear e
    go_enter Tryd.func63, Tryd.ntmps63
    go_wp2_with fail
    refine Calls.mono (HX.out _) ?_
    rintro r w1 ⟨rfl, rfl⟩
    go_wp2_with fail
    refine Calls.mono (HY.out _) ?_
    rintro r w1 ⟨rfl, rfl⟩
    go_wp2_with fail
    go_ret
    exact ⟨rfl, rfl⟩
  · rw [e]
    have d : decide (x < y) = false := decide_eq_false (by omega)
    have d2 : decide (y < x) = true := decide_eq_true h
    have h2 : ¬ x < y := by omega
    clear e
    go_enter Tryd.func63, Tryd.ntmps63
    go_wp2_with fail
    refine Calls.mono (HX.out _) ?_
    rintro r w1 ⟨rfl, rfl⟩
    go_wp2_with fail
    refine Calls.mono (HY.out _) ?_
    rintro r w1 ⟨rfl, rfl⟩
    go_wp2_with fail
    go_ret
    exact ⟨rfl, rfl⟩
  · rw [e]
    have d : decide (x < x) = false := decide_eq_false (by omega)
    clear e
    go_enter Tryd.func63, Tryd.ntmps63
    go_wp2_with fail
    refine Calls.mono (HX.out _) ?_
    rintro r w1 ⟨rfl, rfl⟩
    go_wp2_with fail
    refine Calls.mono (HY.out _) ?_
    rintro r w1 ⟨rfl, rfl⟩
    go_wp2_with fail
    go_ret
    exact ⟨rfl, rfl⟩

/-- The first number that is not 0. -/
def orL : List Int → Int
  | [] => 0
  | x :: r => if x ≠ 0 then x else orL r
set_option maxRecDepth 100000 in
set_option maxHeartbeats 1600000 in
theorem or_any (w : World) (g n : Nat) (xs : List Int) (h : ∀ i x, xs[i]? = some x → w.cell? ⟨g, i, none⟩ = some (.int .i64 x)) (hn : n = xs.length) (hs : n ≤ 4) :
    Calls Tryd.prog 62 #[.slice (some ⟨g, 0, none⟩) n n] w fun e w' => e = .returned (.int .i64 (orL xs)) ∧ w' = w := by
  have EN : Hid _ := hn
  have HC : Hid _ := h
  clear h hn
  go_enter Tryd.func62, Tryd.ntmps62
  go_wp2_with fail
  go_loop [8] (fun i => ∃ j : Nat, j ≤ n ∧ i = .int .i64 j ∧ orL xs = orL (xs.drop j)) (fun i => n - (intOf i).toNat)
  case atStart => exact ⟨0, Nat.zero_le _, rfl, rfl⟩
  case round =>
    obtain ⟨j, hj, rfl, hr⟩ := hrel
    by_cases hlt : j < n
    · have c1 : decide ((j : Int) < (n : Int)) = true := by simp only [decide_eq_true_eq]; omega
      have hlt2 : (j : Int) < (n : Int) := by omega
      obtain ⟨x, hx⟩ : ∃ x, xs[j]? = some x := ⟨_, List.getElem?_eq_getElem (by rw [← EN.out]; exact hlt)⟩
      have hc := HC.out j x hx
      have hd : xs.drop j = x :: xs.drop (j + 1) := by
        obtain ⟨hh, rfl⟩ := List.getElem?_eq_some_iff.1 hx
        exact List.drop_eq_getElem_cons hh
      rw [hd] at hr
      by_cases hz : x = 0
      · subst hz
        have HR : Hid (orL xs = orL (xs.drop (j + 1))) := hr
        clear hr hd hx
        go_wp2_with fail
        go_round
        case rel => exact ⟨j + 1, hlt, by rw [Int.natCast_add]; rfl, HR.out⟩
        case measure => simp only [intOf]; omega
      · have hz' : (x != 0) = true := by simpa using hz
        have HR : Hid (orL xs = x) := hr.trans (if_pos hz)
        clear hr hd hx hz
        go_wp2_with fail
        go_ret
        exact ⟨congrArg (fun z => Ending.returned (Value.int IntKind.i64 z)) HR.out.symm, rfl⟩
    · have ej : j = n := by omega
      subst ej
      have c1 : decide ((j : Int) < (j : Int)) = false := by simp
      have HR : Hid (orL xs = 0) := hr.trans (by rw [List.drop_eq_nil_of_le (by rw [← EN.out]; exact Nat.le_refl _)]; rfl)
      clear hr
      go_wp2_with fail
      go_ret
      exact ⟨congrArg (fun z => Ending.returned (Value.int IntKind.i64 z)) HR.out.symm, rfl⟩
/-- A violation. -/
@[ext] structure Vl where
  kd : Int
  tm : Int
  tx : Int
  op : Int
  wi : Int
  key : ByteArray
  wa : Bool
  ex : ByteArray
  go : Bool
  ob : ByteArray
  fr : Int
  tt : Int
  deriving Inhabited, DecidableEq
abbrev vl1 (x : Vl) : List Value := [.int .i64 x.kd, .int .i64 x.tm, .int .i64 x.tx, .int .i64 x.op, .int .i64 x.wi, .string x.key, .bool x.wa, .string x.ex, .bool x.go, .string x.ob, .int .i64 x.fr, .int .i64 x.tt]
/-- A violation with its number. -/
structure Nb where
  v : Vl
  n : Int
  deriving Inhabited, DecidableEq
abbrev nb1 (x : Nb) : List Value := [.int .i64 x.v.kd, .int .i64 x.v.tm, .int .i64 x.v.tx, .int .i64 x.v.op, .int .i64 x.v.wi, .string x.v.key, .bool x.v.wa, .string x.v.ex, .bool x.v.go, .string x.v.ob, .int .i64 x.v.fr, .int .i64 x.v.tt, .int .i64 x.n]
abbrev vlV (x : Vl) : Value := .agg #[.int .i64 x.kd, .int .i64 x.tm, .int .i64 x.tx, .int .i64 x.op, .int .i64 x.wi, .string x.key, .bool x.wa, .string x.ex, .bool x.go, .string x.ob, .int .i64 x.fr, .int .i64 x.tt]
abbrev nbV (x : Nb) : Value := .agg #[.int .i64 x.v.kd, .int .i64 x.v.tm, .int .i64 x.v.tx, .int .i64 x.v.op, .int .i64 x.v.wi, .string x.v.key, .bool x.v.wa, .string x.v.ex, .bool x.v.go, .string x.v.ob, .int .i64 x.v.fr, .int .i64 x.v.tt, .int .i64 x.n]
abbrev vlO (x : Vl) : Obj := .cells #[.int .i64 x.kd, .int .i64 x.tm, .int .i64 x.tx, .int .i64 x.op, .int .i64 x.wi, .string x.key, .bool x.wa, .string x.ex, .bool x.go, .string x.ob, .int .i64 x.fr, .int .i64 x.tt] 41 (0, 0)
theorem ekV : Ek vl1 12 := ⟨fun _ => rfl, fun x v hv => by
  simp only [List.mem_cons, List.not_mem_nil, or_false] at hv
  rcases hv with rfl | rfl | rfl | rfl | rfl | rfl | rfl | rfl | rfl | rfl | rfl | rfl <;> rfl, by decide⟩
theorem ekN : Ek nb1 13 := ⟨fun _ => rfl, fun x v hv => by
  simp only [List.mem_cons, List.not_mem_nil, or_false] at hv
  rcases hv with rfl | rfl | rfl | rfl | rfl | rfl | rfl | rfl | rfl | rfl | rfl | rfl | rfl <;> rfl, by decide⟩
theorem Tryd.infoViol : (Tryd.prog.info? 41).map (fun i => (i.zero, i.size, i.bytes)) = some (some (.agg #[.int .i64 0, .int .i64 0, .int .i64 0, .int .i64 0, .int .i64 0, .string .empty, .bool false, .string .empty, .bool false, .string .empty, .int .i64 0, .int .i64 0]), 12, 120) := by kernel_rfl
/-- How two violations stand to one another. -/
def compV (a b : Vl) : Int := orL [cmp3 a.tm b.tm, cmp3 a.kd b.kd, cmp3 a.tx b.tx, cmp3 a.op b.op]
def compN (a b : Nb) : Int := orL [compV a.v b.v, cmp3 a.n b.n]
/-- Does a come before b? -/
def ltV (a b : Vl) : Bool := decide (compV a b < 0)
def ltN (a b : Nb) : Bool := decide (compN a b < 0)
theorem compV_lt (a b : Vl) : compV a b < 0 ↔ (a.tm < b.tm ∨ (a.tm = b.tm ∧ (a.kd < b.kd ∨ (a.kd = b.kd ∧ (a.tx < b.tx ∨ (a.tx = b.tx ∧ a.op < b.op)))))) := by
  unfold compV
  rcases cmp3_cases a.tm b.tm with ⟨g1, e1, -⟩ | ⟨g1, e1, -⟩ | ⟨g1, e1, -⟩ <;> rcases cmp3_cases a.kd b.kd with ⟨g2, e2, -⟩ | ⟨g2, e2, -⟩ | ⟨g2, e2, -⟩ <;> rcases cmp3_cases a.tx b.tx with ⟨g3, e3, -⟩ | ⟨g3, e3, -⟩ | ⟨g3, e3, -⟩ <;> rcases cmp3_cases a.op b.op with ⟨g4, e4, -⟩ | ⟨g4, e4, -⟩ | ⟨g4, e4, -⟩ <;>
    rw [e1, e2, e3, e4] <;> simp [orL] <;> omega
theorem compV_swap (a b : Vl) : compV b a = - compV a b := by
  unfold compV
  rcases cmp3_cases a.tm b.tm with ⟨g1, e1, f1⟩ | ⟨g1, e1, f1⟩ | ⟨g1, e1, f1⟩ <;> rcases cmp3_cases a.kd b.kd with ⟨g2, e2, f2⟩ | ⟨g2, e2, f2⟩ | ⟨g2, e2, f2⟩ <;> rcases cmp3_cases a.tx b.tx with ⟨g3, e3, f3⟩ | ⟨g3, e3, f3⟩ | ⟨g3, e3, f3⟩ <;> rcases cmp3_cases a.op b.op with ⟨g4, e4, f4⟩ | ⟨g4, e4, f4⟩ | ⟨g4, e4, f4⟩ <;>
    rw [e1, e2, e3, e4, f1, f2, f3, f4] <;> simp [orL]
theorem compV_cases (a b : Vl) : compV a b = -1 ∨ compV a b = 0 ∨ compV a b = 1 := by
  unfold compV
  rcases cmp3_cases a.tm b.tm with ⟨g1, e1, f1⟩ | ⟨g1, e1, f1⟩ | ⟨g1, e1, f1⟩ <;> rcases cmp3_cases a.kd b.kd with ⟨g2, e2, f2⟩ | ⟨g2, e2, f2⟩ | ⟨g2, e2, f2⟩ <;> rcases cmp3_cases a.tx b.tx with ⟨g3, e3, f3⟩ | ⟨g3, e3, f3⟩ | ⟨g3, e3, f3⟩ <;> rcases cmp3_cases a.op b.op with ⟨g4, e4, f4⟩ | ⟨g4, e4, f4⟩ | ⟨g4, e4, f4⟩ <;>
    rw [e1, e2, e3, e4] <;> simp [orL]
theorem ltV_iff (a b : Vl) : ltV a b = true ↔ (a.tm < b.tm ∨ (a.tm = b.tm ∧ (a.kd < b.kd ∨ (a.kd = b.kd ∧ (a.tx < b.tx ∨ (a.tx = b.tx ∧ a.op < b.op)))))) := by
  unfold ltV
  rw [decide_eq_true_iff, compV_lt]
theorem ltV_swo : SWO ltV := by
  constructor
  · intro a b h
    cases h2 : ltV b a
    · rfl
    · rw [ltV_iff] at h h2
      omega
  · intro a b c h1 h2
    cases h3 : ltV a c
    · rfl
    · have h1' : ¬ ltV a b = true := by rw [h1]; decide
      have h2' : ¬ ltV b c = true := by rw [h2]; decide
      rw [ltV_iff] at h1' h2' h3
      omega
theorem ltN_iff (a b : Nb) : ltN a b = true ↔ (ltV a.v b.v = true ∨ (ltV b.v a.v = false ∧ a.n < b.n)) := by
  unfold ltN compN ltV
  rw [compV_swap a.v b.v]
  rcases compV_cases a.v b.v with e | e | e <;> rcases cmp3_cases a.n b.n with ⟨g1, e1, f1⟩ | ⟨g1, e1, f1⟩ | ⟨g1, e1, f1⟩ <;> rw [e, e1] <;> simp [orL] <;> omega
theorem ltN_swo : SWO ltN := by
  have V := ltV_swo
  constructor
  · intro a b h
    cases h2 : ltN b a
    · rfl
    · rw [ltN_iff] at h h2
      rcases h with h | ⟨h, hn⟩ <;> rcases h2 with h2 | ⟨h2, hm⟩
      · rw [V.asym h] at h2; cases h2
      · rw [h2] at h; cases h
      · rw [h] at h2; cases h2
      · omega
  · intro a b c h1 h2
    cases h3 : ltN a c
    · rfl
    · have h1' : ¬ ltN a b = true := by rw [h1]; decide
      have h2' : ¬ ltN b c = true := by rw [h2]; decide
      rw [ltN_iff] at h1' h2' h3
      have hab : ltV a.v b.v = false := by cases h : ltV a.v b.v; · rfl
                                           · exact absurd (.inl h) h1'
      have hbc : ltV b.v c.v = false := by cases h : ltV b.v c.v; · rfl
                                           · exact absurd (.inl h) h2'
      have hac := V.ntr hab hbc
      rcases h3 with h3 | ⟨h3, hn⟩
      · rw [hac] at h3; cases h3
      · have hba : ltV b.v a.v = false := V.ntr hbc h3
        have hcb : ltV c.v b.v = false := V.ntr h3 hab
        have : ¬ a.n < b.n := fun h => h1' (.inr ⟨hba, h⟩)
        have : ¬ b.n < c.n := fun h => h2' (.inr ⟨hcb, h⟩)
        omega
theorem ltN_tot {a b : Nb} (h : a.n ≠ b.n) : ltN a b = true ∨ ltN b a = true := by
  rw [ltN_iff, ltN_iff]
  cases h1 : ltV a.v b.v <;> cases h2 : ltV b.v a.v <;> simp <;> omega
theorem compN_gt (a b : Nb) : decide (compN a b > 0) = ltN b a := by
  unfold ltN compN
  rw [compV_swap a.v b.v]
  rcases compV_cases a.v b.v with e | e | e <;> rcases cmp3_cases a.n b.n with ⟨g1, e1, f1⟩ | ⟨g1, e1, f1⟩ | ⟨g1, e1, f1⟩ <;> rw [e, e1, f1] <;> simp [orL]
theorem or_four (w : World) (g : Nat) (a b c d : Int) (ty : TypeId) (h : w.heap[g]? = some (.cells #[.int .i64 a, .int .i64 b, .int .i64 c, .int .i64 d] ty (0, 0))) :
    Calls Tryd.prog 62 #[.slice (some ⟨g, 0, none⟩) 4 4] w fun e w' => e = .returned (.int .i64 (orL [a, b, c, d])) ∧ w' = w := by
  refine or_any w g 4 [a, b, c, d] (fun i x hx => ?_) rfl (by decide)
  rw [cell_of h]
  match i, hx with
  | 0, hx => simp at hx; subst hx; rfl
  | 1, hx => simp at hx; subst hx; rfl
  | 2, hx => simp at hx; subst hx; rfl
  | 3, hx => simp at hx; subst hx; rfl
  | n + 4, hx => simp at hx
theorem or_two (w : World) (g : Nat) (a b : Int) (ty : TypeId) (h : w.heap[g]? = some (.cells #[.int .i64 a, .int .i64 b] ty (0, 0))) :
    Calls Tryd.prog 62 #[.slice (some ⟨g, 0, none⟩) 2 2] w fun e w' => e = .returned (.int .i64 (orL [a, b])) ∧ w' = w := by
  refine or_any w g 2 [a, b] (fun i x hx => ?_) rfl (by decide)
  rw [cell_of h]
  match i, hx with
  | 0, hx => simp at hx; subst hx; rfl
  | 1, hx => simp at hx; subst hx; rfl
  | n + 2, hx => simp at hx
/-- A world whose cells a comparison reads. -/
structure Cm (w W : World) (h : Nat) (a b : Vl) : Prop where
  kept : Grw w W
  lt : h + 1 < W.heap.size
  c1 : W.cell? ⟨h, 1, none⟩ = some (.int .i64 a.tm)
  d1 : W.cell? ⟨h + 1, 1, none⟩ = some (.int .i64 b.tm)
  c0 : W.cell? ⟨h, 0, none⟩ = some (.int .i64 a.kd)
  d0 : W.cell? ⟨h + 1, 0, none⟩ = some (.int .i64 b.kd)
  c2 : W.cell? ⟨h, 2, none⟩ = some (.int .i64 a.tx)
  d2 : W.cell? ⟨h + 1, 2, none⟩ = some (.int .i64 b.tx)
  c3 : W.cell? ⟨h, 3, none⟩ = some (.int .i64 a.op)
  d3 : W.cell? ⟨h + 1, 3, none⟩ = some (.int .i64 b.op)
theorem cm_new (w : World) (a b : Vl) : Cm w ((w.alloc (vlO a)).alloc (vlO b)) w.heap.size a b := by
  have q1 := (heap_old _ (vlO b) (by rw [World.size_alloc]; exact Nat.lt_succ_self _)).trans (heap_new w (vlO a))
  have q2 := heap_new (w.alloc (vlO a)) (vlO b)
  rw [World.size_alloc] at q2
  exact ⟨((Grw.refl w).alloc _).alloc _, by simp only [World.size_alloc]; omega, (cell_of q1 1).trans rfl, (cell_of q2 1).trans rfl, (cell_of q1 0).trans rfl, (cell_of q2 0).trans rfl, (cell_of q1 2).trans rfl, (cell_of q2 2).trans rfl, (cell_of q1 3).trans rfl, (cell_of q2 3).trans rfl⟩
theorem Cm.on {w W W' : World} {h : Nat} {a b : Vl} (m : Cm w W h a b) (k : Grw W W') : Cm w W' h a b := by
  have h0 : h < W.heap.size := by have := m.lt; omega
  have kk := k.kept
  have g : ∀ c, W'.cell? ⟨h, c, none⟩ = W.cell? ⟨h, c, none⟩ := fun c => kk.cell (p := ⟨h, c, none⟩) h0 (fun e => e)
  have g' : ∀ c, W'.cell? ⟨h + 1, c, none⟩ = W.cell? ⟨h + 1, c, none⟩ := fun c => kk.cell (p := ⟨h + 1, c, none⟩) m.lt (fun e => e)
  exact ⟨m.kept.trans k, Nat.lt_of_lt_of_le m.lt kk.size, (g _).trans m.c1, (g' _).trans m.d1, (g _).trans m.c0, (g' _).trans m.d0, (g _).trans m.c2, (g' _).trans m.d2, (g _).trans m.c3, (g' _).trans m.d3⟩
set_option maxRecDepth 100000 in
set_option maxHeartbeats 1600000 in
theorem compare18 (a b : Vl) (w : World) : Calls Tryd.prog 45 #[vlV a, vlV b] w fun e w' => e = .returned (.int .i64 (compV a b)) ∧ Grw w w' := by
  have HC : Hid (∀ x y W, _) := cmpC_any
  have HO : Hid (∀ (W : World) (g : Nat) (a b c d : Int) (ty : TypeId), W.heap[g]? = _ → _) := or_four
  have HM : Hid (Cm w _ _ a b) := cm_new w a b
  unfold compV
  obtain ⟨akd, atm, atx, aop, awi, akey, awa, aex, ago, aob, afr, att⟩ := a
  obtain ⟨bkd, btm, btx, bop, bwi, bkey, bwa, bex, bgo, bob, bfr, btt⟩ := b
  simp only at HM ⊢
  go_enter Tryd.func45, Tryd.ntmps45
  go_upto_region 1 with fail
  generalize (w.alloc _).alloc _ = W at HM ⊢
  generalize w.heap.size = h at HM ⊢
  have HBX : Hid (∀ w3, Grw W w3 → Grw w w3 ∧ w3.cell? ⟨h, 1, none⟩ = some (.int .i64 atm) ∧ w3.cell? ⟨h + 1, 1, none⟩ = some (.int .i64 btm) ∧ w3.cell? ⟨h, 0, none⟩ = some (.int .i64 akd) ∧ w3.cell? ⟨h + 1, 0, none⟩ = some (.int .i64 bkd) ∧ w3.cell? ⟨h, 2, none⟩ = some (.int .i64 atx) ∧ w3.cell? ⟨h + 1, 2, none⟩ = some (.int .i64 btx) ∧ w3.cell? ⟨h, 3, none⟩ = some (.int .i64 aop) ∧ w3.cell? ⟨h + 1, 3, none⟩ = some (.int .i64 bop)) := fun w3 k3 => by
    obtain ⟨k, hlt, c1, d1, c0, d0, c2, d2, c3, d3⟩ := HM.out.on k3
    exact ⟨k, c1, d1, c0, d0, c2, d2, c3, d3⟩
  obtain ⟨k, hlt, c1, d1, c0, d0, c2, d2, c3, d3⟩ := HM.out
  have K : Hid (Grw w W) := k
  clear k HM
  go_region_held3 (fun w' => Grw w w' ∧ w'.cell? ⟨h, 1, none⟩ = some (.int .i64 atm) ∧ w'.cell? ⟨h + 1, 1, none⟩ = some (.int .i64 btm) ∧ w'.cell? ⟨h, 0, none⟩ = some (.int .i64 akd) ∧ w'.cell? ⟨h + 1, 0, none⟩ = some (.int .i64 bkd) ∧ w'.cell? ⟨h, 2, none⟩ = some (.int .i64 atx) ∧ w'.cell? ⟨h + 1, 2, none⟩ = some (.int .i64 btx) ∧ w'.cell? ⟨h, 3, none⟩ = some (.int .i64 aop) ∧ w'.cell? ⟨h + 1, 3, none⟩ = some (.int .i64 bop))
    (exact HBX.out _ (by (repeat (first | exact Grw.refl _ | apply Grw.alloc | apply Grw.drew | apply Grw.drewN)); done))
    (first
    | (go_at_call 63; refine Calls.mono (HC.out _ _ _) ?_; rintro r w1 ⟨rfl, rfl⟩)
    | (go_at_call 62; refine Calls.mono (HO.out _ _ _ _ _ _ 3 (by exact heap_new _ _)) ?_; rintro r w1 ⟨rfl, rfl⟩))
  all_goals (go_wp2_with fail)
  all_goals (go_ret; exact ⟨rfl, Grw.trans K.out (by (repeat (first | exact Grw.refl _ | apply Grw.alloc | apply Grw.drew | apply Grw.drewN)); done)⟩)
end Go.Proofs.YtfhaiklfbnfdlaaDoor.Vi
