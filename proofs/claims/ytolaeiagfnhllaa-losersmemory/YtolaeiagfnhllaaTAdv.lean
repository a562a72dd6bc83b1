/- What is proved: what advance leaves: the source holds the next row of its list, or is finished where there is none; the tree, the lists and the numbers lie in memory apart of one another. -/
import Derived.Test.YtolaeiagfnhllaaTLook
import Derived.Test.YtolaeiagfnhllaaTAnch
namespace Go.Proofs.Ytolaeiagfnhllaa
open Go.RowKit

/-- The lists L lie in w from address a on. -/
def ListsAt (w : World) (a : Option Addr) (L : List (List RwM)) : Prop :=
  ∀ i l, L[i]? = some l → ∃ b off x c, a = some ⟨b, off, none⟩ ∧ b < w.heap.size ∧ w.cell? ⟨b, off + i, none⟩ = some (.slice x l.length c) ∧ RowsAt w x l
theorem ListsAt.on {w w' : World} {a : Option Addr} {L : List (List RwM)} (h : ListsAt w a L) (k : Kept w w') : ListsAt w' a L := fun i l hl => by
  obtain ⟨b, off, x, c, rfl, hb, h1, h2⟩ := h i l hl
  exact ⟨b, off, x, c, rfl, Nat.lt_of_lt_of_le hb k.size, (k.cell (p := ⟨b, off + i, none⟩) hb (fun e => e)).trans h1, h2.on k⟩
/-- A row of numbers of one's own. -/
def Nx (w : World) (nb : Nat) (N : List Nat) : Prop := w.heap[nb]? = some (.cells (inz (N.map fun n : Nat => (n : Int))).toArray 3 (0, 0))
theorem Nx.at_ {w : World} {nb : Nat} {N : List Nat} (h : Nx w nb N) {i : Nat} (hi : i < N.length) : w.cell? ⟨nb, i, none⟩ = some (.int .i64 ((N.getD i 0 : Nat) : Int)) := by
  have := inz_get (L := N.map fun n : Nat => (n : Int)) (i := i) (by simpa using hi)
  unfold Nx at h
  rw [cell_of h, show ((inz (N.map fun n : Nat => (n : Int))).toArray)[i]? = (inz (N.map fun n : Nat => (n : Int)))[i]? by simp, this, getD_at' (by simpa using hi), getD_at' hi]
  simp
theorem Nx.set {w : World} {nb : Nat} {N : List Nat} (h : Nx w nb N) (i x : Nat) : Nx (w.setCell ⟨nb, i, none⟩ (.int .i64 (x : Int))) nb (N.set i x) := by
  unfold Nx at *
  rw [setCell_at h, List.map_set, inz_set]
  simp
theorem Nx.onS {T : Nat → Prop} {w w' : World} {nb : Nat} {N : List Nat} (h : Nx w nb N) (k : Same T w w') (h1 : ¬ T nb) : Nx w' nb N := (k.block _ (lt_of_heap h) h1).trans h
theorem Nx.frz {w : World} {nb : Nat} {N : List Nat} (h : Nx w nb N) (i : Nat) : w.frozen? ⟨nb, i, none⟩ = false ∧ nb < w.heap.size := ⟨frozen_of h i, lt_of_heap h⟩
/-- A merge under way: the tree, how many rows of each list were handed in, what is left. -/
structure Ad (w wr : World) (b gs gn nb : Nat) (order : Int) (L : List (List RwM)) (S : List Sr) (N : List Nat) (R : List (List RwM)) : Prop where
  tl : Tl w wr b gs gn order S
  nx : Nx wr nb N
  lnb : w.heap.size ≤ nb
  nf : ¬ Ft b gs gn nb
  mg : Mg11 L S N R
theorem Ad.on {w wr W : World} {b gs gn nb : Nat} {order : Int} {L R : List (List RwM)} {S : List Sr} {N : List Nat} (h : Ad w wr b gs gn nb order L S N R) (k : Kept wr W) : Ad w W b gs gn nb order L S N R :=
  ⟨h.tl.on k, h.nx.onS k (fun e => e), h.lnb, h.nf, h.mg⟩
theorem ref_ok11 {S : List Sr} {n : Nat} (h : n < S.length) (hw : (S.getD n .wait).wt = true) : refC S n = 0 := by
  unfold refC
  rw [if_neg (by omega), show ((n : Nat) : Int).toNat = n by omega, hw, if_pos rfl]
theorem Ad.fin {w wr W : World} {b gs gn nb : Nat} {order : Int} {L R : List (List RwM)} {S : List Sr} {N : List Nat} (h : Ad w wr b gs gn nb order L S N R) (k : Kept wr W) {i : Nat} (hi : i < L.length) (hw : (S.getD i .wait).wt = true) (hr : N.getD i 0 = (L.getD i []).length) :
    Calls Try.prog 21 #[.pointer (some ⟨b, 0, none⟩), .int .i64 i] W fun e w' => e = .returned (.int .i64 0) ∧ Ad w w' b gs gn nb order L (S.set i .fin) N R ∧ Same (Ft b gs gn) wr w' := by
  have hi2 : i < S.length := by rw [h.mg.ls]; exact hi
  have := h.tl.finish k i
  rw [ref_ok11 hi2 hw, show finS S i = S.set i .fin by unfold finS; rw [if_pos (ref_ok11 hi2 hw)]; rfl] at this
  exact Calls.mono this fun _ _ ⟨h1, h2, h3⟩ => ⟨h1, ⟨h2, h.nx.onS h3 h.nf, h.lnb, h.nf, h.mg.fin hi hw hr⟩, h3⟩
theorem Ad.feed {w wr W : World} {b gs gn nb : Nat} {order : Int} {L R : List (List RwM)} {S : List Sr} {N : List Nat} (h : Ad w wr b gs gn nb order L S N R) (k : Kept wr W) {i : Nat} (hi : i < L.length) (hw : (S.getD i .wait).wt = true) {r : RwM} (hr : (L.getD i [])[N.getD i 0]? = some r) (ok : rightR r) :
    Calls Try.prog 18 #[.pointer (some ⟨b, 0, none⟩), .int .i64 i, rowV r] W fun e w' => e = .returned (.int .i64 0) ∧ (Nx w' nb N ∧ ∀ W2, Nx W2 nb (N.set i (N.getD i 0 + 1)) → Same (fun k => k = nb) w' W2 → Ad w W2 b gs gn nb order L (S.set i (.fed r)) (N.set i (N.getD i 0 + 1)) R) ∧ Same (Ft b gs gn) wr w' := by
  have hi2 : i < S.length := by rw [h.mg.ls]; exact hi
  have := h.tl.feed k i r
  obtain ⟨e1, e2⟩ := feed_ok hi2 hw ok
  rw [e1, e2] at this
  refine Calls.mono this fun _ w' ⟨h1, h2, h3⟩ => ⟨h1, ⟨h.nx.onS h3 h.nf, fun W2 n2 s2 => ⟨⟨h2.tn.onS s2 (fun e => h.nf (.inl e.symm)) (fun e => h.nf (.inr (.inl e.symm))) (fun e => h.nf (.inr (.inr e.symm))), h2.same.trans s2 fun j _ e => ?_, h2.lb, h2.ls, h2.ln⟩, n2, h.lnb, h.nf, h.mg.feed hi hw hr⟩⟩, h3⟩
  have := h.lnb
  omega
set_option maxRecDepth 100000 in
set_option maxHeartbeats 1000000 in
theorem advance11 {w wr : World} {b gs gn nb : Nat} {order : Int} {L R : List (List RwM)} {S : List Sr} {N : List Nat} (h : Ad w wr b gs gn nb order L S N R) {a : Option Addr} (cap : Nat) (hl : ListsAt w a L) (ok : ∀ l ∈ L, ∀ r ∈ l, rightR r) (hn : ∀ l ∈ L, l.length ≤ 2199023255552) {i : Nat} (hi : i < L.length) (hw : (S.getD i .wait).wt = true) :
    Calls Try.prog 28 #[.pointer (some ⟨b, 0, none⟩), .int .i64 i, .slice a L.length cap, .slice (some ⟨nb, 0, none⟩) L.length L.length] wr fun e w' => e = .returned (.tuple #[]) ∧ (∃ s N', s.wt = false ∧ Ad w w' b gs gn nb order L (S.set i s) N' R) ∧ Same (fun k => Ft b gs gn k ∨ k = nb) wr w' := by
  obtain ⟨l, hli⟩ : ∃ l, L[i]? = some l := ⟨_, List.getElem?_eq_getElem hi⟩
  have hlg : L.getD i [] = l := by rw [List.getD_eq_getElem?_getD, hli]; rfl
  have hmem : l ∈ L := List.mem_of_getElem? hli
  have hlen := hn l hmem
  obtain ⟨hsc, -⟩ := h.mg.at_ i hi
  have hxl := hsc.le
  rw [hlg] at hxl
  have hb0 := h.tl.lb
  have hb1 := h.tl.ls
  have hb2 := h.tl.ln
  have hlt : ∀ k, k < w.heap.size → ¬ Ft b gs gn k := fun k hk e => by rcases e with e | e | e <;> omega
  obtain ⟨bb, off, xa, c, rfl, hbb, cl, hrow⟩ := hl i l hli
  have cl1 := (h.tl.kept.cell (p := ⟨bb, off + i, none⟩) hbb (fun e => e)).trans cl
  have cn := h.nx.at_ (i := i) (by rw [h.mg.ln]; exact hi)
  have hnl := (h.nx.frz i).2
  obtain ⟨n, en⟩ : ∃ n, n = L.length := ⟨_, rfl⟩
  rw [← en] at hi ⊢
  have hi2 : (i : Int) < (n : Int) := by omega
  by_cases hx : N.getD i 0 = l.length
  · have HF : Hid (∀ W, Kept wr W → _) := fun W (k : Kept wr W) => h.fin k (i := i) (by rw [← en]; exact hi) hw (by rw [hlg]; exact hx)
    rw [hx] at cn
    generalize l.length = m at *
    clear hx hlen hxl hrow hn ok hlg hmem hli hsc hl h cl hlt hb0 hb1 hb2 en hw hnl hbb
    go_enter Try.func28, Try.ntmps28
    go_wp2_with fail
    go_quiet (fail)
    go_wp2_with fail
    refine Calls.mono (HF.out _ (by (repeat (first | assumption | exact Same.refl _ _ | apply Same.alloc | apply Same.drew | apply Same.drewN)); done)) ?_
    rintro e w1 ⟨rfl, a1, k1⟩
    have A1 : Hid _ := (⟨a1, k1⟩ : _ ∧ _)
    clear a1 k1 HF
    go_wp2_with fail
    refine bodyPost_ret (results_none rfl _ _ _) rfl ?_
    exact ⟨rfl, ⟨.fin, N, rfl, A1.out.1⟩, A1.out.2.mono fun _ _ e => .inl e⟩
  · have hxlt : N.getD i 0 < l.length := by omega
    obtain ⟨r, hr⟩ : ∃ r, l[N.getD i 0]? = some r := ⟨_, List.getElem?_eq_getElem hxlt⟩
    have HF : Hid (∀ W, Kept wr W → _) := fun W (k : Kept wr W) => h.feed k (i := i) (by rw [← en]; exact hi) hw (r := r) (by rw [hlg]; exact hr) (ok l hmem r (List.mem_of_getElem? hr))
    obtain ⟨g, o2, ex, hg, c0, c1, c2, c3, c4, c5, c6⟩ := hrow _ r hr
    subst ex
    have t : ∀ o, wr.cell? ⟨g, o, none⟩ = w.cell? ⟨g, o, none⟩ := fun o => h.tl.kept.cell (p := ⟨g, o, none⟩) hg (fun e => e)
    have hgr : g < wr.heap.size := Nat.lt_of_lt_of_le hg h.tl.kept.size
    have hbr : bb < wr.heap.size := Nat.lt_of_lt_of_le hbb h.tl.kept.size
    have z0 := (t _).trans c0
    have z1 := (t _).trans c1
    have z2 := (t _).trans c2
    have z3 := (t _).trans c3
    have z4 := (t _).trans c4
    have z5 := (t _).trans c5
    have z6 := (t _).trans c6
    have n1 := hlt g hg
    have n2 := hlt bb hbb
    have n3 := h.nf
    have hS : Hid (Nat → S.length = S.length) := fun _ => rfl
    obtain ⟨x, ex⟩ : ∃ x, x = N.getD i 0 := ⟨_, rfl⟩
    rw [← ex] at cn hxlt z0 z1 z2 z3 z4 z5 z6 hx HF
    generalize l.length = m at *
    obtain ⟨akind, atime, aseq, aindex, afrm, atil, abody⟩ := r
    simp only at z0 z1 z2 z3 z4 z5 z6
    unfold rowV at HF
    simp only at HF
    have HT : Hid (∀ W, Same (Ft b gs gn) wr W → Same (Ft b gs gn) wr W ∧ W.cell? ⟨nb, i, none⟩ = some (.int .i64 (x : Int)) ∧ W.cell? ⟨bb, off + i, none⟩ = some (.slice (some ⟨g, o2, none⟩) m c) ∧ W.cell? ⟨g, o2 + x * 7, none⟩ = some (.int .i64 akind) ∧ W.cell? ⟨g, o2 + x * 7 + 1, none⟩ = some (.int .i64 atime) ∧ W.cell? ⟨g, o2 + x * 7 + 2, none⟩ = some (.int .i64 aseq) ∧ W.cell? ⟨g, o2 + x * 7 + 3, none⟩ = some (.int .i64 aindex) ∧ W.cell? ⟨g, o2 + x * 7 + 4, none⟩ = some (.int .i64 afrm) ∧ W.cell? ⟨g, o2 + x * 7 + 5, none⟩ = some (.int .i64 atil) ∧ W.cell? ⟨g, o2 + x * 7 + 6, none⟩ = some (.string abody)) := fun W k => by
      have t1 : ∀ o, W.cell? ⟨g, o, none⟩ = wr.cell? ⟨g, o, none⟩ := fun o => k.cell (p := ⟨g, o, none⟩) hgr n1
      exact ⟨k, (k.cell (p := ⟨nb, i, none⟩) hnl n3).trans cn, (k.cell (p := ⟨bb, off + i, none⟩) hbr n2).trans cl1, (t1 _).trans z0, (t1 _).trans z1, (t1 _).trans z2, (t1 _).trans z3, (t1 _).trans z4, (t1 _).trans z5, (t1 _).trans z6⟩
    have p1 : (x : Int) < (m : Int) := by omega
    have p2 : ((x : Int) == (m : Int)) = false := by rw [beq_eq_false_iff_ne]; omega
    have p3 : (x == m) = false := by rw [beq_eq_false_iff_ne]; omega
    have hwx : IntKind.i64.wrap ((x : Int) + 1) = (x : Int) + 1 := by rw [IntKind.wrap_i64]; omega
    clear hlen hxl hrow hn ok hlg hmem hli hsc hl h cl hlt hb0 hb1 hb2 en hw hbb hr ex t hg hS c0 c1 c2 c3 c4 c5 c6 n1 n2 n3 hgr hbr hnl
    go_enter Try.func28, Try.ntmps28
    go_wp2_with fail
    go_quiet (fail)
    go_wp2_with fail
    go_region_held3 (fun W => Same (Ft b gs gn) wr W ∧ W.cell? ⟨nb, i, none⟩ = some (.int .i64 (x : Int)) ∧ W.cell? ⟨bb, off + i, none⟩ = some (.slice (some ⟨g, o2, none⟩) m c) ∧ W.cell? ⟨g, o2 + x * 7, none⟩ = some (.int .i64 akind) ∧ W.cell? ⟨g, o2 + x * 7 + 1, none⟩ = some (.int .i64 atime) ∧ W.cell? ⟨g, o2 + x * 7 + 2, none⟩ = some (.int .i64 aseq) ∧ W.cell? ⟨g, o2 + x * 7 + 3, none⟩ = some (.int .i64 aindex) ∧ W.cell? ⟨g, o2 + x * 7 + 4, none⟩ = some (.int .i64 afrm) ∧ W.cell? ⟨g, o2 + x * 7 + 5, none⟩ = some (.int .i64 atil) ∧ W.cell? ⟨g, o2 + x * 7 + 6, none⟩ = some (.string abody))
      (exact HT.out _ (by (repeat (first | assumption | exact Same.refl _ _ | apply Same.alloc | apply Same.drew | apply Same.drewN)); done))
      (first
      | (go_at_call 18; refine Calls.mono (HF.out _ (by (repeat (first | assumption | exact Same.refl _ _ | apply Same.alloc | apply Same.drew | apply Same.drewN)); done)) ?_; rintro e w2 ⟨rfl, b2, k2⟩))
    all_goals
      obtain ⟨-, cn2, -⟩ := HT.out _ k2
      obtain ⟨hf2, hb2⟩ := Nx.frz b2.1 i
      have B2 : Hid _ := b2
      have K2 : Hid _ := k2
      clear HF HT b2 k2 z0 z1 z2 z3 z4 z5 z6 cn cl1
      go_wp2_with fail
      go_end0
      have s2 : Same (fun k => k = nb) w2 (w2.setCell ⟨nb, i, none⟩ (.int .i64 ((x : Int) + 1))) := (Same.refl (fun k => k = nb) w2).setCell ⟨nb, i, none⟩ (.inr rfl) _
      have nx2 : Nx (w2.setCell ⟨nb, i, none⟩ (.int .i64 ((x : Int) + 1))) nb (N.set i (x + 1)) := by
        have := B2.out.1.set i (x + 1)
        rwa [Int.natCast_add] at this
      exact ⟨rfl, ⟨_, _, rfl, B2.out.2 _ nx2 s2⟩, (K2.out.mono fun _ _ e => .inl e).trans' (s2.mono fun _ _ e => .inr e)⟩
end Go.Proofs.Ytolaeiagfnhllaa
