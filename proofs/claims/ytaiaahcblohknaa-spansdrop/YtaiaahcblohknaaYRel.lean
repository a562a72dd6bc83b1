/- What is proved: release hands a node back, grow takes one that is free or a new one; the forest lies in memory, the list of nodes is not longer than memory lets it be. -/
import Derived.Test.YtaiaahcblohknaaYLift
namespace Go.Proofs.Ytaiaahcblohknaa
open Go.RowKit

/-- A node that is free. -/
def frN (f : Nat) : Nd := ⟨⟨0, 0, 0⟩, f, 0, 0, 0, 0⟩
set_option maxRecDepth 100000 in
set_option maxHeartbeats 1600000 in
theorem release14 {w : World} {fb nb cap fr : Nat} {mv : Value} {c e : Int} {N : List Nd} (h : Ar w fb nb cap fr mv c e N) (p : Nat) (n : Nd) (hp : N[p]? = some n) :
    Calls Try.prog 48 #[.pointer (some ⟨fb, 0, none⟩), .int .i64 p] w fun r w' => r = .returned (.tuple #[]) ∧ Ar w' fb nb cap p mv c e (N.set p (frN fr)) ∧ Same (fun k => k = nb ∨ k = fb) w w' := by
  have q1 : Ar (World.drew ((((((((w.setCell ⟨nb, p * 8, none⟩ (.int .i64 0)).setCell ⟨nb, p * 8 + 1, none⟩ (.int .i64 0)).setCell ⟨nb, p * 8 + 2, none⟩ (.int .i64 0)).setCell ⟨nb, p * 8 + 3, none⟩ (.int .i64 fr)).setCell ⟨nb, p * 8 + 4, none⟩ (.int .i64 0)).setCell ⟨nb, p * 8 + 5, none⟩ (.int .i64 0)).setCell ⟨nb, p * 8 + 6, none⟩ (.int .i64 0)).setCell ⟨nb, p * 8 + 7, none⟩ (.int .i64 0))) fb nb cap fr mv c e (N.set p (frN fr)) := (h.put8 hp (y := frN fr)).drew
  have s1 : Same (fun k => k = nb ∨ k = fb) w (World.drew ((((((((w.setCell ⟨nb, p * 8, none⟩ (.int .i64 0)).setCell ⟨nb, p * 8 + 1, none⟩ (.int .i64 0)).setCell ⟨nb, p * 8 + 2, none⟩ (.int .i64 0)).setCell ⟨nb, p * 8 + 3, none⟩ (.int .i64 fr)).setCell ⟨nb, p * 8 + 4, none⟩ (.int .i64 0)).setCell ⟨nb, p * 8 + 5, none⟩ (.int .i64 0)).setCell ⟨nb, p * 8 + 6, none⟩ (.int .i64 0)).setCell ⟨nb, p * 8 + 7, none⟩ (.int .i64 0))) := Same.drew (same8 (g := nb) (S := fun k => k = nb ∨ k = fb) (Same.refl _ w) (.inr (.inl rfl)) _ _ _ _ _ _ _ _ _ _ _ _ _ _ _ _)
  obtain ⟨⟨f0, f1, -⟩, -⟩ := h.cells
  obtain ⟨⟨n0, n1, n2, n3, n4, n5, n6, n7⟩, lp⟩ := h.node hp
  have zf := fun o => h.nodes.frozen o
  have l1 : (p : Int) < (N.length : Int) := by omega
  have hne : ¬ fb = nb := h.ne
  have hne2 : ¬ nb = fb := fun e => h.ne e.symm
  clear h hp lp
  go_enter Try.func48, Try.ntmps48
  go_wp2_with fail
  go_region
  all_goals
    go_upto_region 1 with fail
    generalize World.drew ((((((((w.setCell ⟨nb, p * 8, none⟩ (.int .i64 0)).setCell ⟨nb, p * 8 + 1, none⟩ (.int .i64 0)).setCell ⟨nb, p * 8 + 2, none⟩ (.int .i64 0)).setCell ⟨nb, p * 8 + 3, none⟩ (.int .i64 fr)).setCell ⟨nb, p * 8 + 4, none⟩ (.int .i64 0)).setCell ⟨nb, p * 8 + 5, none⟩ (.int .i64 0)).setCell ⟨nb, p * 8 + 6, none⟩ (.int .i64 0)).setCell ⟨nb, p * 8 + 7, none⟩ (.int .i64 0)) = W1 at q1 s1 ⊢
    have Q2 : Hid _ := q1.setFr p
    have S2 : Hid _ := Same.setCell s1 ⟨fb, 1, none⟩ (.inr (.inr rfl)) (.int .i64 p)
    clear f0 f1 n0 n1 n2 n3 n4 n5 n6 n7 zf
    obtain ⟨⟨-, f1, -⟩, -⟩ := q1.cells
    have zg := fun o => q1.unfrozen o
    clear q1 s1
    go_wp2_with fail
    go_end0
    exact ⟨rfl, Q2.out, S2.out⟩
/-- Append behind a row of one's own: where the new row lies; the wide bound. -/
theorem app_wide {P : Program} {w : World} {base : Nat} {t ty e : TypeId} {z : Value} {size bytes : Nat} (ht : P.underlying t = some (.slice e)) (hi : (P.info? e).map (fun i => (i.zero, i.size, i.bytes)) = some (some z, size, bytes)) (hzs : z.cells.size = size) (hsz : 0 < size)
    {v : Value} {n : Nat} {xs : List Value} (hown : w.ownsRow base e size v n xs) {a : Addr} {m c : Nat} {news : List Value} (hl : news.length = m * size) (hnews : ∀ j u, news[j]? = some u → w.cell? (a.add j) = some u) (h1 : ∀ u ∈ news, u.oneCell' = true)
    (h63 : n + m ≤ maxLen) (hbytes : ((n + m) + (n + m) / 4 + 192) * bytes ≤ 281474976710656) (hbase : base ≤ w.heap.size) :
    ∃ v' w', (Builtin.append_ #[t, t] ty #[v, .slice (some a) m c]).run P w = .ok v' w' ∧ w'.ownsRow base e size v' (n + m) (xs ++ news) ∧ Same (fun k => v.ownBlock = some k) w w' ∧ (∀ k, v'.ownBlock = some k → v.ownBlock = some k ∨ w.heap.size ≤ k) ∧ (v' = .slice none 0 0 ↔ v = .slice none 0 0 ∧ m = 0) := by
  obtain ⟨i0, hi0, hz0, rfl, rfl⟩ := info_parts hi
  obtain ⟨v', w', hr, r1, r2, r3⟩ := Go.run_append_own_wide (P := P) w base t ty e i0 z _ _ ht hi0 hz0 rfl rfl hzs hsz v n xs hown a m c news hl hnews h1 h63 hbytes hbase
  have hsmall : n + m ≤ 9223372036854775807 := by simp only [maxLen] at h63; omega
  refine ⟨v', w', hr, r1, Same.of_grown r2 (fun k e => e), fun k hk => ?_, r3⟩
  rcases hown.2 with ⟨rfl, rfl⟩ | ⟨g, cap, cur, rfl, hbg, hg, hnc, hcm, hcs, htake⟩
  · have hx : xs = [] := List.eq_nil_of_length_eq_zero (by simpa using hown.1)
    subst hx
    obtain ⟨v2, w2, hr2, q1, -⟩ := Go.run_append_own_wide (P := P) w w.heap.size t ty e i0 z _ _ ht hi0 hz0 rfl rfl hzs hsz _ 0 [] (World.ownsRow_nil w w.heap.size e i0.size) a m c news hl hnews h1 h63 hbytes (Nat.le_refl _)
    rw [hr] at hr2
    cases hr2
    exact .inr (q1.lt k hk).1
  · by_cases hroom : n + m ≤ cap
    · have hfit : n * i0.size + news.length ≤ cur.size := by rw [hl, hcs, ← Nat.add_mul]; exact Nat.mul_le_mul_right _ hroom
      have hr2 := run_append_room (P := P) w t ty e i0 ht hi0 g n cap cur hg a m c news hl hnews h1 hroom hfit
      rw [hr] at hr2
      cases hr2
      exact .inl hk
    · have hr2 := run_append_grow (P := P) w t ty e i0 z ht hi0 hz0 ⟨g, 0, none⟩ n cap xs hown.1 (hown.cells (g := g) rfl) a m c news hl hnews (by omega) (by omega) (growslice_fits_wide (by omega) hbytes)
      rw [hr] at hr2
      cases hr2
      simp only [Value.ownBlock, Option.some.injEq] at hk
      exact .inr (by omega)
theorem nd_new (w : World) (x : Nd) : ∀ j u, (ncs [x])[j]? = some u → (w.alloc (ndO x)).cell? (Addr.add ⟨w.heap.size, 0, none⟩ j) = some u := fun j u hu => by
  have h := heap_new w (ndO x)
  rw [Addr.add_lit, cell_of h]
  have hj := (List.getElem?_eq_some_iff.1 hu).1
  rw [length_ncs] at hj
  simp only [List.length_singleton] at hj
  rw [show ncs [x] = nc1 x from by simp [ncs]] at hu
  rw [← hu, Nat.zero_add]
  simp [nc1]
/-- One node more. -/
theorem app_node {w : World} {fb nb cap fr : Nat} {mv : Value} {c e : Int} {N : List Nd} (h : Ar w fb nb cap fr mv c e N) (x : Nd) (hb : N.length + 1 ≤ 3500000000000) {W : World} (k : Kept w W) {g : Nat} (hg : W.heap[g]? = some (ndO x)) (ty : TypeId) :
    ∃ v' w', (Builtin.append_ #[49, 49] ty #[.slice (some ⟨nb, 0, none⟩) N.length cap, .slice (some ⟨g, 0, none⟩) 1 1]).run Try.prog W = .ok v' w' ∧ ∃ nb' cap', v' = .slice (some ⟨nb', 0, none⟩) (N.length + 1) cap' ∧ NodesIn w' nb' cap' (N ++ [x]) ∧ (nb' = nb ∨ W.heap.size ≤ nb') ∧ Same (fun b => b = nb) W w' := by
  obtain ⟨cur, hc, h1, h2, h3, h4⟩ := h.nodes.kept k (fun e => e)
  have hown : W.ownsRow 0 74 8 (.slice (some ⟨nb, 0, none⟩) N.length cap) N.length (ncs N) := ⟨length_ncs N, .inr ⟨nb, cap, cur, rfl, Nat.zero_le _, hc, h1, h2, h3, h4⟩⟩
  obtain ⟨v', w', hr, r1, r2, r3, -⟩ := app_wide (P := Try.prog) (t := 49) (ty := ty) (c := 1) (m := 1) (a := ⟨g, 0, none⟩) Try.underlying49 Try.infoNode rfl (by decide) hown (length_ncs [x]) (fun j u hu => by
    rw [Addr.add_lit, cell_of hg]
    have hj := (List.getElem?_eq_some_iff.1 hu).1
    rw [show ncs [x] = nc1 x from by simp [ncs]] at hu
    rw [← hu, Nat.zero_add]
    simp [nc1]) (ncs_one _) (by unfold maxLen; omega) (by omega) (Nat.zero_le _)
  rw [← ncs_append] at r1
  rcases r1.2 with ⟨_, hn⟩ | ⟨g', cap', cur', rfl, _, hg', q1, q2, q3, q4⟩
  · omega
  · refine ⟨_, w', hr, g', cap', rfl, ⟨cur', hg', by rw [List.length_append]; exact q1, q2, q3, by rw [List.length_append]; exact q4⟩, ?_, r2.mono fun b _ hb => ?_⟩
    · rcases r3 g' (by simp [Value.ownBlock]) with hb | hb
      · simp only [Value.ownBlock, Option.some.injEq] at hb
        exact .inl hb.symm
      · exact .inr hb
    · simp only [Value.ownBlock, Option.some.injEq] at hb
      exact hb.symm
/-- What grow answers and leaves: the place q of a new tree of one span. -/
def GrowP (w : World) (fb nb _cap fr : Nat) (mv : Value) (c e : Int) (N : List Nd) (x : Sp) (r : Ending) (w' : World) : Prop :=
  ∃ q nb' cap' fr' N', r = .returned (.int .i64 (q : Nat)) ∧ Ar w' fb nb' cap' fr' mv c e N' ∧ N'[q]? = some (ndOf .nil x .nil) ∧ (nb' = nb ∨ w.heap.size ≤ nb') ∧ Same (fun k => k = nb ∨ k = fb) w w' ∧
    ((fr = 0 ∧ fr' = 0 ∧ q = N.length ∧ N' = N ++ [ndOf .nil x .nil]) ∨ (fr ≠ 0 ∧ q = fr ∧ nb' = nb ∧ N' = N.set fr (ndOf .nil x .nil) ∧ ∃ m, N[fr]? = some m ∧ fr' = m.l))
theorem ndOf_leaf (x : Sp) (h : x.t < 9223372036854775807 ∧ -9223372036854775808 < x.t) : ndOf .nil x .nil = ⟨x, 0, 0, 1, x.t, x.t⟩ := by
  unfold ndOf
  have e1 : (Tr.node PT.nil.tr x PT.nil.tr).mn = x.t := by show min x.t (min 9223372036854775807 9223372036854775807) = _; omega
  have e2 : (Tr.node PT.nil.tr x PT.nil.tr).mx = x.t := by show max x.t (max (-9223372036854775808) (-9223372036854775808)) = _; omega
  rw [e1, e2]
  rfl
abbrev leafO (f t i : Int) : Obj := .cells #[.int .i64 f, .int .i64 t, .int .i64 i, .int .i64 0, .int .i64 0, .int .i64 1, .int .i64 t, .int .i64 t] 74 (0, 0)
structure LfBox (w : World) (g : Nat) (f t i : Int) : Prop where
  c0 : w.cell? ⟨g, 0, none⟩ = some (.int .i64 f)
  c1 : w.cell? ⟨g, 1, none⟩ = some (.int .i64 t)
  c2 : w.cell? ⟨g, 2, none⟩ = some (.int .i64 i)
  c3 : w.cell? ⟨g, 3, none⟩ = some (.int .i64 0)
  c4 : w.cell? ⟨g, 4, none⟩ = some (.int .i64 0)
  c5 : w.cell? ⟨g, 5, none⟩ = some (.int .i64 1)
  c6 : w.cell? ⟨g, 6, none⟩ = some (.int .i64 t)
  c7 : w.cell? ⟨g, 7, none⟩ = some (.int .i64 t)
theorem lf_box {w : World} {g : Nat} {f t i : Int} (h : w.heap[g]? = some (leafO f t i)) : LfBox w g f t i :=
  ⟨(cell_of h 0).trans rfl, (cell_of h 1).trans rfl, (cell_of h 2).trans rfl, (cell_of h 3).trans rfl, (cell_of h 4).trans rfl, (cell_of h 5).trans rfl, (cell_of h 6).trans rfl, (cell_of h 7).trans rfl⟩
set_option maxRecDepth 100000 in
set_option maxHeartbeats 1600000 in
theorem grow_free {w : World} {fb nb cap fr : Nat} {mv : Value} {c e : Int} {N : List Nd} (h : Ar w fb nb cap fr mv c e N) (x : Sp) (hx : x.t < 9223372036854775807 ∧ -9223372036854775808 < x.t) (hf : fr ≠ 0) (m : Nd) (hm : N[fr]? = some m) :
    Calls Try.prog 30 #[.pointer (some ⟨fb, 0, none⟩), spV x] w (GrowP w fb nb cap fr mv c e N x) := by
  have HE : Hid (∀ w', Ar w' fb nb cap m.l mv c e (N.set fr ⟨x, 0, 0, 1, x.t, x.t⟩) → Same (fun k => k = nb ∨ k = fb) w w' → GrowP w fb nb cap fr mv c e N x (.returned (.int .i64 fr)) w') := fun w' a s => ⟨fr, nb, cap, m.l, _, rfl, a, by rw [set_here hm, ndOf_leaf x hx], .inl rfl, s, .inr ⟨hf, rfl, rfl, by rw [ndOf_leaf x hx], m, hm, rfl⟩⟩
  have HA : Hid _ := h
  have HM : Hid _ := hm
  have l1 : (fr : Int) < (N.length : Int) := by have := (h.node hm).2; omega
  have hf1 : ¬ ((fr : Int) = 0) := by omega
  have hne : ¬ fb = nb := h.ne
  have hne2 : ¬ nb = fb := fun e => h.ne e.symm
  have hlb := h.cells.2.1
  have hln := h.cells.2.2
  clear h hm hx hf
  obtain ⟨xf, xt, xi⟩ := x
  have K0 : Hid _ := ((Same.refl (fun _ => False) w).alloc (spO ⟨xf, xt, xi⟩)).alloc (leafO xf xt xi)
  have HG : Hid _ := (two_boxes w (spO ⟨xf, xt, xi⟩) (leafO xf xt xi)).2.1
  unfold spV
  simp only at HE K0 HG ⊢
  go_enter Try.func30, Try.ntmps30
  go_upto_region 2 with fail
  generalize (w.alloc (spO ⟨xf, xt, xi⟩)).alloc (leafO xf xt xi) = W at K0 HG ⊢
  generalize w.heap.size = g at HG hlb hln ⊢
  have hA := Ar.on HA.out K0.out
  obtain ⟨⟨f0, f1, -⟩, -⟩ := hA.cells
  obtain ⟨⟨-, -, -, n3, n4, -, -, -⟩, -⟩ := hA.node HM.out
  have zg := fun o => hA.unfrozen o
  have HA1 : Hid _ := hA.setFr m.l
  have S1 : Hid _ := Same.setCell (Kept.to K0.out (fun k => k = nb ∨ k = fb)) ⟨fb, 1, none⟩ (.inr (.inr rfl)) (.int .i64 m.l)
  have HG1 : Hid _ := (Below.heap_setCell W ⟨fb, 1, none⟩ (.int .i64 m.l) (g + 1) (show g + 1 ≠ fb by omega)).trans HG.out
  clear hA
  go_upto_region 7 with fail
  generalize W.setCell ⟨fb, 1, none⟩ (.int .i64 m.l) = Y at HA1 S1 HG1 ⊢
  clear f0 f1 n3 n4 zg
  have hA := HA1.out
  obtain ⟨⟨f0, f1, -⟩, -⟩ := hA.cells
  obtain ⟨⟨n0, n1, n2, n3, n4, n5, n6, n7⟩, -⟩ := hA.node HM.out
  obtain ⟨b0, b1, b2, b3, b4, b5, b6, b7⟩ := lf_box HG1.out
  have zf := fun o => hA.nodes.frozen o
  have HQ : Hid (Ar (World.drew ((((((((Y.setCell ⟨nb, fr * 8, none⟩ (.int .i64 xf)).setCell ⟨nb, fr * 8 + 1, none⟩ (.int .i64 xt)).setCell ⟨nb, fr * 8 + 2, none⟩ (.int .i64 xi)).setCell ⟨nb, fr * 8 + 3, none⟩ (.int .i64 0)).setCell ⟨nb, fr * 8 + 4, none⟩ (.int .i64 0)).setCell ⟨nb, fr * 8 + 5, none⟩ (.int .i64 1)).setCell ⟨nb, fr * 8 + 6, none⟩ (.int .i64 xt)).setCell ⟨nb, fr * 8 + 7, none⟩ (.int .i64 xt))) fb nb cap m.l mv c e (N.set fr ⟨⟨xf, xt, xi⟩, 0, 0, 1, xt, xt⟩)) := (hA.put8 HM.out (y := ⟨⟨xf, xt, xi⟩, 0, 0, 1, xt, xt⟩)).drew
  have HS9 : Hid (Same (fun k => k = nb ∨ k = fb) w (World.drew ((((((((Y.setCell ⟨nb, fr * 8, none⟩ (.int .i64 xf)).setCell ⟨nb, fr * 8 + 1, none⟩ (.int .i64 xt)).setCell ⟨nb, fr * 8 + 2, none⟩ (.int .i64 xi)).setCell ⟨nb, fr * 8 + 3, none⟩ (.int .i64 0)).setCell ⟨nb, fr * 8 + 4, none⟩ (.int .i64 0)).setCell ⟨nb, fr * 8 + 5, none⟩ (.int .i64 1)).setCell ⟨nb, fr * 8 + 6, none⟩ (.int .i64 xt)).setCell ⟨nb, fr * 8 + 7, none⟩ (.int .i64 xt)))) := Same.drew (same8 (g := nb) (S := fun k => k = nb ∨ k = fb) S1.out (.inr (.inl rfl)) _ _ _ _ _ _ _ _ _ _ _ _ _ _ _ _)
  have ng1 : ¬ nb = g + 1 := by omega
  have ng2 : ¬ g + 1 = nb := by omega
  clear hA
  go_region
  all_goals
    go_upto_region 8 with fail
    generalize World.drew ((((((((Y.setCell ⟨nb, fr * 8, none⟩ (.int .i64 xf)).setCell ⟨nb, fr * 8 + 1, none⟩ (.int .i64 xt)).setCell ⟨nb, fr * 8 + 2, none⟩ (.int .i64 xi)).setCell ⟨nb, fr * 8 + 3, none⟩ (.int .i64 0)).setCell ⟨nb, fr * 8 + 4, none⟩ (.int .i64 0)).setCell ⟨nb, fr * 8 + 5, none⟩ (.int .i64 1)).setCell ⟨nb, fr * 8 + 6, none⟩ (.int .i64 xt)).setCell ⟨nb, fr * 8 + 7, none⟩ (.int .i64 xt)) = Z at HQ HS9 ⊢
    clear f0 f1 n0 n1 n2 n3 n4 n5 n6 n7 zf b0 b1 b2 b3 b4 b5 b6 b7
    go_wp2_with fail
    go_ret
    exact HE.out _ HQ.out HS9.out
structure Gw (w : World) (fb nb cap : Nat) (mv : Value) (c e : Int) (N : List Nd) (x : Sp) (w' : World) : Prop where
  p : GrowP w fb nb cap 0 mv c e N x (.returned (.int .i64 (N.length : Nat))) w'
set_option maxRecDepth 100000 in
set_option maxHeartbeats 1600000 in
theorem grow_new {w : World} {fb nb cap : Nat} {mv : Value} {c e : Int} {N : List Nd} (h : Ar w fb nb cap 0 mv c e N) (x : Sp) (hx : x.t < 9223372036854775807 ∧ -9223372036854775808 < x.t) (hb : N.length + 1 ≤ 3500000000000) :
    Calls Try.prog 30 #[.pointer (some ⟨fb, 0, none⟩), spV x] w (GrowP w fb nb cap 0 mv c e N x) := by
  have HE : Hid (∀ w' nb' cap', Ar w' fb nb' cap' 0 mv c e (N ++ [⟨x, 0, 0, 1, x.t, x.t⟩]) → (nb' = nb ∨ w.heap.size ≤ nb') → Same (fun k => k = nb ∨ k = fb) w w' → GrowP w fb nb cap 0 mv c e N x (.returned (.int .i64 (N.length : Nat))) w') := fun w' nb' cap' a hn s => ⟨N.length, nb', cap', 0, _, rfl, a, by rw [ndOf_leaf x hx]; simp, hn, s, .inl ⟨rfl, rfl, rfl, by rw [ndOf_leaf x hx]⟩⟩
  have HA : Hid _ := h
  have HBD : Hid _ := hb
  have hlb := h.cells.2.1
  have hln := h.cells.2.2
  have hl1 : N.length < 4611686018427387904 := by omega
  clear h hx hb
  obtain ⟨xf, xt, xi⟩ := x
  have K0 : Hid _ := ((Same.refl (fun _ => False) w).alloc (spO ⟨xf, xt, xi⟩)).alloc (leafO xf xt xi)
  have HG : Hid _ := (two_boxes w (spO ⟨xf, xt, xi⟩) (leafO xf xt xi)).2.1
  have HSZ : Hid (((w.alloc (spO ⟨xf, xt, xi⟩)).alloc (leafO xf xt xi)).heap.size = w.heap.size + 2) := by show _ = _; rw [World.size_alloc, World.size_alloc]
  unfold spV
  simp only at HE K0 HG ⊢
  go_enter Try.func30, Try.ntmps30
  go_upto_region 2 with fail
  generalize (w.alloc (spO ⟨xf, xt, xi⟩)).alloc (leafO xf xt xi) = W at K0 HG HSZ ⊢
  generalize hg0 : w.heap.size = g at HG HSZ hlb hln ⊢
  have HG0 : Hid _ := hg0
  clear hg0
  have hA := Ar.on HA.out K0.out
  obtain ⟨⟨f0, f1, -⟩, hlb2, hln2⟩ := hA.cells
  have zg := fun o => hA.unfrozen o
  obtain ⟨b0, b1, b2, b3, b4, b5, b6, b7⟩ := lf_box HG.out
  have hgw : g + 1 < W.heap.size := by rw [show W.heap.size = g + 2 from HSZ.out]; omega
  have HAP : Hid (∀ W1, Kept (W.alloc (leafO xf xt xi)) W1 → ∀ ty, ∃ v' w', (Builtin.append_ #[49, 49] ty #[.slice (some ⟨nb, 0, none⟩) N.length cap, .slice (some ⟨W.heap.size, 0, none⟩) 1 1]).run Try.prog W1 = .ok v' w' ∧ ∃ nb' cap', v' = .slice (some ⟨nb', 0, none⟩) (N.length + 1) cap' ∧ w'.cell? ⟨fb, 0, none⟩ = some (.slice (some ⟨nb, 0, none⟩) N.length cap) ∧ w'.frozen? ⟨fb, 0, none⟩ = false ∧ fb < w'.heap.size ∧ Hid (Gw w fb nb cap mv c e N ⟨xf, xt, xi⟩ (w'.setCell ⟨fb, 0, none⟩ (.slice (some ⟨nb', 0, none⟩) (N.length + 1) cap')) ∧ (w'.setCell ⟨fb, 0, none⟩ (.slice (some ⟨nb', 0, none⟩) (N.length + 1) cap')).cell? ⟨fb, 0, none⟩ = some (.slice (some ⟨nb', 0, none⟩) (N.length + 1) cap'))) := fun W1 k1 ty => by
    have kw : Kept W W1 := ((Same.refl _ W).alloc _).trans' k1
    have hg9 : W1.heap[W.heap.size]? = some (ndO ⟨⟨xf, xt, xi⟩, 0, 0, 1, xt, xt⟩) := (k1.block _ (by rw [World.size_alloc]; omega) (fun e => e)).trans (heap_new W _)
    obtain ⟨v', w', hr, nb', cap', rfl, r1, r2, r3⟩ := app_node hA ⟨⟨xf, xt, xi⟩, 0, 0, 1, xt, xt⟩ HBD.out kw hg9 ty
    have hA2 := hA.on kw
    have ho : w'.heap[fb]? = _ := (r3.block fb hA2.cells.2.1 hA2.ne).trans hA2.obj
    have ho2 := setCell_at ho 0 (.slice (some ⟨nb', 0, none⟩) (N.length + 1) cap')
    have sw : Same (fun k => k = nb ∨ k = fb) w (w'.setCell ⟨fb, 0, none⟩ (.slice (some ⟨nb', 0, none⟩) (N.length + 1) cap')) := Same.setCell (((Kept.to K0.out _).trans' (Kept.to kw _)).trans' (r3.mono fun _ _ h => .inl h)) ⟨fb, 0, none⟩ (.inr (.inr rfl)) _
    refine ⟨_, w', hr, nb', cap', rfl, (cell_of ho 0).trans rfl, frozen_of ho 0, lt_of_heap ho, ?_, (cell_of ho2 0).trans (by simp)⟩
    refine ⟨HE.out _ nb' cap' ⟨by simpa using ho2, ?_⟩ ?_ sw⟩
    · refine r1.kept (S := fun k => k = fb) (Same.setCell (S := fun k => k = fb) (Same.refl _ w') ⟨fb, 0, none⟩ (.inr rfl) _) (fun e => ?_)
      obtain ⟨cur, hc, -⟩ := r1
      rw [e, ho] at hc
      simp at hc
    · refine r2.imp id fun hle => ?_
      have h1 := kw.size
      have h2 : W.heap.size = g + 2 := HSZ.out
      have h3 : w.heap.size = g := HG0.out
      omega
  have HAP1 : Hid _ := HAP.out (W.alloc (leafO xf xt xi)).drew ((Same.refl _ _).drew)
  clear hA HAP
  go_wp2_with fail
  go_region_law ((refine step_app rfl (.tmp 23) (.tmp 25) 49 rfl (.slice (some ⟨nb, 0, none⟩) N.length cap) (.slice (some ⟨W.heap.size, 0, none⟩) 1 1) rfl rfl _ HAP1.out ?_); rintro v3 w3 ⟨nb', cap', rfl, z1, z2, hl3, Q⟩)
  all_goals
    obtain ⟨Q1, Q2⟩ := Q.out
    have HQ1 : Hid _ := Q1
    clear Q1 Q f0 f1 zg b0 b1 b2 b3 b4 b5 b6 b7
    go_upto_region 5 with fail
    generalize World.setCell w3 ⟨fb, 0, none⟩ (.slice (some ⟨nb', 0, none⟩) (N.length + 1) cap') = Z at HQ1 Q2 ⊢
    have hw9 : ((N.length + 1 : Nat) : Int) - 1 = (N.length : Int) := by omega
    go_wp2_with fail
    go_ret
    exact (show Gw w fb nb cap mv c e N ⟨xf, xt, xi⟩ Z from HQ1.out).p
end Go.Proofs.Ytaiaahcblohknaa
