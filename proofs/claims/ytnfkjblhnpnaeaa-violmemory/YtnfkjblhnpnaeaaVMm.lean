/- What is proved: lists of violations of one's own, marked and grown, beside a top; no condition. -/
import Derived.Test.YtnfkjblhnpnaeaaVFst
namespace Go.Proofs.Ytnfkjblhnpnaeaa
open Go.RowKit

/-- Behind an append the row that was handed in lies as it lay. -/
theorem app_stays {P : Program} {w : World} {base : Nat} {t ty e : TypeId} {z : Value} {size bytes : Nat} (ht : P.underlying t = some (.slice e)) (hi : (P.info? e).map (fun i => (i.zero, i.size, i.bytes)) = some (some z, size, bytes))
    {v : Value} {n : Nat} {xs : List Value} (hown : w.ownsRow base e size v n xs) {a : Addr} {m c : Nat} {news : List Value} (hl : news.length = m * size) (hnews : ∀ j u, news[j]? = some u → w.cell? (a.add j) = some u) (h1 : ∀ u ∈ news, u.oneCell' = true)
    (h63 : n + m ≤ maxLen) (hbytes : ((n + m) + (n + m) / 4 + 192) * bytes ≤ 281474976710656) {v' : Value} {w' : World} (hr : (Builtin.append_ #[t, t] ty #[v, .slice (some a) m c]).run P w = .ok v' w') : w'.ownsRow base e size v n xs := by
  obtain ⟨i0, hi0, hz0, rfl, rfl⟩ := info_parts hi
  have hsmall : n + m ≤ 9223372036854775807 := by simp only [maxLen] at h63; omega
  rcases hown.2 with ⟨rfl, h0⟩ | ⟨g, cap, cur, rfl, hbg, hg, hnc, hcm, hcs, htake⟩
  · exact ⟨hown.1, .inl ⟨rfl, h0⟩⟩
  · by_cases hroom : n + m ≤ cap
    · have hfit : n * i0.size + news.length ≤ cur.size := by rw [hl, hcs, ← Nat.add_mul]; exact Nat.mul_le_mul_right _ hroom
      have hr2 := run_append_room (P := P) w t ty e i0 ht hi0 g n cap cur hg a m c news hl hnews h1 hroom hfit
      rw [hr] at hr2
      injection hr2 with e1 e2
      subst e2
      refine ⟨hown.1, .inr ⟨g, cap, _, rfl, hbg, setRow_heap w g cur _ e _ hg, hnc, hcm, ?_, ?_⟩⟩
      · simp only [List.size_toArray, List.length_append, List.length_take, List.length_drop, Array.length_toList]
        omega
      · rw [htake]
        have hx : xs.length = n * i0.size := hown.1
        simp only [List.append_assoc]
        rw [← hx]
        exact List.take_left
    · have holds : ∀ j u, xs[j]? = some u → w.cell? ((⟨g, 0, none⟩ : Addr).add j) = some u := hown.cells (g := g) rfl
      have hr2 := run_append_grow (P := P) w t ty e i0 _ ht hi0 hz0 ⟨g, 0, none⟩ n cap xs hown.1 holds a m c news hl hnews (by omega) (by omega) (growslice_fits_wide (by omega) hbytes)
      rw [hr] at hr2
      injection hr2 with e1 e2
      subst e2
      exact ⟨hown.1, .inr ⟨g, cap, cur, rfl, hbg, (((Same.refl (fun _ => False) w).drew.alloc _).block g (lt_of_heap hg) (fun e => e)).trans hg, hnc, hcm, hcs, htake⟩⟩
section
variable {α : Type} {enc : α → List Value} {k : Nat}
/-- One element more; what was handed in stays. -/
theorem Own.app1 (E : Ek enc k) {P : Program} {t ty T : TypeId} {z : Value} {bytes : Nat} (ht : P.underlying t = some (.slice T)) (hi : (P.info? T).map (fun i => (i.zero, i.size, i.bytes)) = some (some z, k, bytes)) (hzs : z.cells.size = k)
    {w : World} {base : Nat} {v : Value} {xs : List α} (hown : Own enc k T base w v xs) {g : Nat} {y : α} {ty' : TypeId} (hg : w.heap[g]? = some (.cells (enc y).toArray ty' (0, 0))) {c : Nat} (hb : ((xs.length + 1) + (xs.length + 1) / 4 + 192) * bytes ≤ 281474976710656) (hm : xs.length + 1 ≤ maxLen) (hbase : base ≤ w.heap.size) :
    ∃ v' w', (Builtin.append_ #[t, t] ty #[v, .slice (some ⟨g, 0, none⟩) 1 c]).run P w = .ok v' w' ∧ Own enc k T base w' v' (xs ++ [y]) ∧ Same (fun k => v.ownBlock = some k) w w' ∧ (∀ k, v'.ownBlock = some k → v.ownBlock = some k ∨ w.heap.size ≤ k) ∧ Own enc k T base w' v xs := by
  have hc : ∀ j u, (fl enc [y])[j]? = some u → w.cell? ((⟨g, 0, none⟩ : Addr).add j) = some u := fun j u hu => by
    rw [Addr.add_lit, Nat.zero_add, cell_of hg]
    simpa [fl] using hu
  have hl : (fl enc [y]).length = 1 * k := length_fl E [y]
  obtain ⟨v', w', hr, r1, r2, r3, -⟩ := Ch.app_wide (P := P) (t := t) (ty := ty) (c := c) (m := 1) (a := ⟨g, 0, none⟩) (news := fl enc [y]) ht hi hzs E.pos hown hl hc (fl_one E [y]) hm hb hbase
  refine ⟨v', w', hr, ⟨by rw [length_fl E], ?_⟩, r2, r3, app_stays ht hi hown hl hc (fl_one E [y]) hm hb hr⟩
  have := r1.2
  rw [fl_append, List.length_append]
  exact this
/-- A list that is the beginning of another in the same block stays when that one does. -/
theorem Own.part (E : Ek enc k) {T : TypeId} {base : Nat} {W W' : World} {v u : Value} {l ys : List α} (h0 : Own enc k T base W v l) (h1 : Own enc k T base W u (l ++ ys)) (hb : u.ownBlock = v.ownBlock) (h2 : Own enc k T base W' u (l ++ ys)) : Own enc k T base W' v l := by
  rcases h0.2 with ⟨rfl, e0⟩ | ⟨g, cap, cur, rfl, hbg, hg, a1, a2, a3, a4⟩
  · exact ⟨h0.1, .inl ⟨rfl, e0⟩⟩
  rcases h1.2 with ⟨rfl, e1⟩ | ⟨g1, cap1, cur1, rfl, hbg1, hg1, b1, b2, b3, b4⟩
  · cases hb
  obtain rfl : g1 = g := by simpa [Value.ownBlock] using hb
  rcases h2.2 with ⟨e2, -⟩ | ⟨g2, cap2, cur2, e2, hbg2, hg2, c1, c2, c3, c4⟩
  · cases e2
  cases e2
  rw [hg] at hg1
  cases hg1
  have hcc : cap = cap1 := by
    have : cap * k = cap1 * k := by rw [← a3, ← b3]
    exact Nat.eq_of_mul_eq_mul_right E.pos this
  subst hcc
  refine ⟨h0.1, .inr ⟨_, cap, cur2, rfl, hbg, hg2, a1, a2, c3, ?_⟩⟩
  have h3 : cur2.toList.take (l.length * k) = (cur2.toList.take ((l ++ ys).length * k)).take (l.length * k) := by
    rw [List.take_take, Nat.min_eq_left (Nat.mul_le_mul_right k (by rw [List.length_append]; omega))]
  rw [h3, c4, fl_append, ← length_fl E l]
  exact List.take_left
end
theorem set_own {β : Type} {L : List β} {i : Nat} {l : β} (hl : L[i]? = some l) : L.set i l = L := by
  apply List.ext_getElem?
  intro j
  rw [List.getElem?_set]
  by_cases e : i = j
  · subst e
    rw [if_pos rfl, if_pos (List.getElem?_eq_some_iff.1 hl).1, hl]
  · rw [if_neg e]
theorem set_bound {L : List (List Vl)} {t : Nat} {ls : List Vl} (hb : ∀ (i : Nat) l, L[i]? = some l → l.length ≤ 100) (h : ls.length ≤ 100) : ∀ (i : Nat) l, (L.set t ls)[i]? = some l → l.length ≤ 100 := fun i l hi => by
  rw [List.getElem?_set] at hi
  split at hi
  · split at hi
    · cases hi; exact h
    · cases hi
  · exact hb i l hi
/-- A top stays when a list of violations is written, however they are laid. -/
theorem TpN.appE {enc : Vl → List Value} {k : Nat} {w W W' : World} {tb lim : Nat} {vs : List Vl} (h : TpN w W tb lim vs) {base : Nat} {u : Value} {l : List Vl} (o : Own enc k 30 base W u l) (hb : w.heap.size ≤ base) (s : Same (fun k => u.ownBlock = some k) W W') : TpN w W' tb lim vs := by
  obtain ⟨⟨v, L, t⟩, k0⟩ := h
  refine ⟨⟨v, L, t.on s (fun e => ?_) (fun b hb e => ?_)⟩, k0.trans s fun b hb' e => ?_⟩
  · obtain ⟨-, c1, q1⟩ := o.block e
    rw [t.obj] at q1; cases q1
  · obtain ⟨-, c1, q1⟩ := o.block e
    obtain ⟨-, c2, q2⟩ := t.own.block hb
    rw [q1] at q2; cases q2
  · have := (o.block e).1; omega
/-- Some lists of one's own, a list of them, a top and one list more. -/
structure Fv (enc : Vl → List Value) (k : Nat) (w W : World) (tb : Nat) (vs : List Vl) (gl : Nat) (V : List Value) (L : List (List Vl)) (u : Value) (wl : List Vl) : Prop where
  top : TpN w W tb 10000 vs
  row : W.heap[gl]? = some (.cells V.toArray 28 (0, 0))
  own : ∀ (i : Nat) v l, V[i]? = some v → L[i]? = some l → Own enc k 30 w.heap.size W v l
  ap : ∀ (i j : Nat) v v' b, V[i]? = some v → V[j]? = some v' → v.ownBlock = some b → v'.ownBlock = some b → i = j
  wo : Own enc k 30 w.heap.size W u wl
  wap : ∀ (i : Nat) v b, V[i]? = some v → v.ownBlock = some b → u.ownBlock ≠ some b
section
variable {enc : Vl → List Value} {k : Nat} {w W W' : World} {tb gl : Nat} {vs wl : List Vl} {V : List Value} {L : List (List Vl)} {u : Value}
theorem Own.rng {T : TypeId} {base : Nat} {v : Value} {l : List Vl} (h : Own enc k T base W v l) {b : Nat} (e : v.ownBlock = some b) : base ≤ b ∧ b < W.heap.size := by
  obtain ⟨h1, c, q⟩ := h.block e
  exact ⟨h1, lt_of_heap q⟩
/-- Five lists made one behind the other. -/
theorem Fv.start {p q x y r : Value} {lp lq lx ly lr : List Vl} {s0 s1 s2 s3 s4 s5 : Nat} (top : TpN w W tb 10000 vs) (row : W.heap[gl]? = some (.cells #[p, q, x, y, r] 28 (0, 0)))
    (hr : Own enc k 30 s0 W r lr) (hp : Own enc k 30 s1 W p lp) (hq : Own enc k 30 s2 W q lq) (hx : Own enc k 30 s3 W x lx) (hy : Own enc k 30 s4 W y ly) (hu : Own enc k 30 s5 W u wl)
    (b0 : ∀ b, r.ownBlock = some b → b < s1) (b1 : ∀ b, p.ownBlock = some b → b < s2) (b2 : ∀ b, q.ownBlock = some b → b < s3) (b3 : ∀ b, x.ownBlock = some b → b < s4) (b4 : ∀ b, y.ownBlock = some b → b < s5)
    (z0 : w.heap.size ≤ s0) (z1 : s0 ≤ s1) (z2 : s1 ≤ s2) (z3 : s2 ≤ s3) (z4 : s3 ≤ s4) (z5 : s4 ≤ s5) : Fv enc k w W tb vs gl [p, q, x, y, r] [lp, lq, lx, ly, lr] u wl := by
  have R : ∀ (i : Nat) v b, [p, q, x, y, r][i]? = some v → v.ownBlock = some b → [s1, s2, s3, s4, s0].getD i 0 ≤ b ∧ b < [s2, s3, s4, s5, s1].getD i 0 ∧ i < 5 := fun i v b h e => by
    rcases i with _ | _ | _ | _ | _ | i
    · simp at h; subst h; exact ⟨(hp.rng e).1, b1 b e, by omega⟩
    · simp at h; subst h; exact ⟨(hq.rng e).1, b2 b e, by omega⟩
    · simp at h; subst h; exact ⟨(hx.rng e).1, b3 b e, by omega⟩
    · simp at h; subst h; exact ⟨(hy.rng e).1, b4 b e, by omega⟩
    · simp at h; subst h; exact ⟨(hr.rng e).1, b0 b e, by omega⟩
    · simp at h
  refine ⟨top, row, fun i v l hv hl => ?_, fun i j v v' b hv hv' e e' => ?_, hu.base (by omega), fun i v b hv e eu => ?_⟩
  · rcases i with _ | _ | _ | _ | _ | i
    · simp at hv hl; subst hv hl; exact hp.base (by omega)
    · simp at hv hl; subst hv hl; exact hq.base (by omega)
    · simp at hv hl; subst hv hl; exact hx.base (by omega)
    · simp at hv hl; subst hv hl; exact hy.base (by omega)
    · simp at hv hl; subst hv hl; exact hr.base (by omega)
    · simp at hv
  · have h1 := R i v b hv e
    have h2 := R j v' b hv' e'
    clear R hv hv' e e'
    rcases i with _ | _ | _ | _ | _ | i <;> rcases j with _ | _ | _ | _ | _ | j <;> simp only [List.getD_cons_zero, List.getD_cons_succ] at h1 h2 <;> omega
  · have h1 := R i v b hv e
    have h2 := (hu.rng eu).1
    clear R hv e eu
    rcases i with _ | _ | _ | _ | _ | i <;> simp only [List.getD_cons_zero, List.getD_cons_succ] at h1 <;> omega
/-- One of the lists is written. -/
theorem Fv.set (f : Fv enc k w W tb vs gl V L u wl) {i : Nat} {v : Value} {l l' : List Vl} (hv : V[i]? = some v) (hl : L[i]? = some l) (s : Same (fun b => v.ownBlock = some b) W W') (o : Own enc k 30 w.heap.size W' v l') : Fv enc k w W' tb vs gl V (L.set i l') u wl := by
  refine ⟨f.top.appE (f.own i v l hv hl) (Nat.le_refl _) s, (s.block gl (lt_of_heap f.row) fun e => ?_).trans f.row, fun j x y hx hy => ?_, f.ap, f.wo.kept s fun b hb e => f.wap i v b hv e hb, f.wap⟩
  · obtain ⟨-, c1, q1⟩ := (f.own i v l hv hl).block e
    rw [f.row] at q1; cases q1
  · rw [List.getElem?_set] at hy
    split at hy
    · next e =>
      subst e
      split at hy
      · cases hy
        rw [hv] at hx; cases hx
        exact o
      · cases hy
    · next e => exact (f.own j x y hx hy).kept s fun b hb e2 => e (f.ap i j v x b hv hx e2 hb)
/-- Nothing old is written. -/
theorem Fv.on (f : Fv enc k w W tb vs gl V L u wl) (s : Kept W W') : Fv enc k w W' tb vs gl V L u wl :=
  ⟨f.top.on s, (s.block gl (lt_of_heap f.row) fun e => e).trans f.row, fun i v l hv hl => (f.own i v l hv hl).on s, f.ap, f.wo.on s, f.wap⟩
/-- A row that grows: it lies where one of the lists does and begins with it, or apart from all. -/
def Gr (V : List Value) (u v x : Value) : Prop := x.ownBlock = v.ownBlock ∨ ∀ b, x.ownBlock = some b → (∀ (j : Nat) v', V[j]? = some v' → v'.ownBlock ≠ some b) ∧ u.ownBlock ≠ some b
theorem Fv.grow (E : Ek enc k) (f : Fv enc k w W tb vs gl V L u wl) {i : Nat} {v x x' : Value} {l ys : List Vl} (hv : V[i]? = some v) (hl : L[i]? = some l) (hL : L.length = V.length) (g : Gr V u v x) (o : Own enc k 30 w.heap.size W x (l ++ ys)) (s : Same (fun b => x.ownBlock = some b) W W') (hb : ∀ b, x'.ownBlock = some b → x.ownBlock = some b ∨ W.heap.size ≤ b) (o2 : Own enc k 30 w.heap.size W' x (l ++ ys)) :
    Fv enc k w W' tb vs gl V L u wl ∧ Gr V u v x' := by
  have hVb : ∀ (j : Nat) v' b, V[j]? = some v' → v'.ownBlock = some b → b < W.heap.size := fun j v' b hj e => by
    have hj' := (List.getElem?_eq_some_iff.1 hj).1
    obtain ⟨l', hl'⟩ : ∃ l', L[j]? = some l' := ⟨_, List.getElem?_eq_getElem (by rw [hL]; exact hj')⟩
    obtain ⟨-, c, q⟩ := (f.own j v' l' hj hl').block e
    exact lt_of_heap q
  have hub : ∀ b, u.ownBlock = some b → b < W.heap.size := fun b e => by
    obtain ⟨-, c, q⟩ := f.wo.block e
    exact lt_of_heap q
  refine ⟨?_, ?_⟩
  · rcases g with g | g
    · have h1 := f.set hv hl (by rw [← g]; exact s) (Own.part E (f.own i v l hv hl) o g o2)
      rwa [set_own hl] at h1
    · refine ⟨f.top.appE o (Nat.le_refl _) s, (s.block gl (lt_of_heap f.row) fun e => ?_).trans f.row, fun j x1 y1 hx hy => (f.own j x1 y1 hx hy).kept s fun b hb e => (g b e).1 j x1 hx hb, f.ap, f.wo.kept s fun b hb e => (g b e).2 hb, f.wap⟩
      obtain ⟨-, c1, q1⟩ := o.block e
      rw [f.row] at q1; cases q1
  · by_cases hx : ∃ b, x'.ownBlock = some b ∧ x.ownBlock = some b
    · obtain ⟨b, h1, h2⟩ := hx
      rcases g with g | g
      · exact .inl (by rw [h1, ← g, h2])
      · exact .inr fun b' h' => by rw [h1] at h'; cases h'; exact g b h2
    · refine .inr fun b h1 => ?_
      have h2 : W.heap.size ≤ b := (hb b h1).resolve_left fun e => hx ⟨b, h1, e⟩
      exact ⟨fun j v' hj e => by have := hVb j v' b hj e; omega, fun e => by have := hub b e; omega⟩
end
end Go.Proofs.Ytnfkjblhnpnaeaa
