/- What is proved: a top that was made since: what is put, listed and told of it; and the law's anchor holds; no condition. -/
import Derived.Test.YtnfkjblhnpnaeaaVLst
import Derived.Test.YtnfkjblhnpnaeaaVPut
namespace Go.Proofs.Ytnfkjblhnpnaeaa
open Go.RowKit

/-- A top that was made since w. -/
def TpN (w W : World) (tb lim : Nat) (vs : List Vl) : Prop := (∃ v L, Tp w.heap.size W tb lim vs v L) ∧ Kept w W
theorem TpN.kept {w W : World} {tb lim : Nat} {vs : List Vl} (h : TpN w W tb lim vs) : Kept w W := h.2
theorem TpN.on {w W W' : World} {tb lim : Nat} {vs : List Vl} (h : TpN w W tb lim vs) (k : Kept W W') : TpN w W' tb lim vs := by
  obtain ⟨⟨v, L, t⟩, k0⟩ := h
  exact ⟨⟨v, L, t.kept k⟩, k0.trans' k⟩
theorem TpN.new {w W : World} (k : Kept w W) {lim : Nat} (h : lim ≤ 10000) : TpN w (W.alloc (tpO lim 0 (.slice none 0 0))) W.heap.size lim [] :=
  ⟨⟨_, _, ⟨heap_new _ _, k.size, Own.nil _ _ _ _ _, Hd.start lim, h⟩⟩, k.alloc _⟩
theorem TpN.put {w W : World} {tb lim : Nat} {vs : List Vl} (h : TpN w W tb lim vs) {x : Vl} (hx : okV x = true) (hm : vs.length + 1 ≤ 4398046511104) : Calls Try.prog 11 #[.pointer (some ⟨tb, 0, none⟩), vlV x] W fun e w' => e = .returned (.int .i64 0) ∧ TpN w w' tb lim (vs ++ [x]) := by
  obtain ⟨⟨v, L, t⟩, k0⟩ := h
  refine (put18_ok t hx hm).mono fun e w' ⟨h1, v', L', t', s, _⟩ => ⟨h1, ⟨v', L', t'⟩, k0.trans s fun b hb e => ?_⟩
  rcases e with rfl | e
  · have := t.low; omega
  · have := (t.own.block e).1; omega
theorem TpN.no {w W : World} {tb lim : Nat} {vs : List Vl} (h : TpN w W tb lim vs) {x : Vl} (hx : okV x = false) : Calls Try.prog 11 #[.pointer (some ⟨tb, 0, none⟩), vlV x] W fun e w' => e = .returned (.int .i64 181) ∧ TpN w w' tb lim vs := by
  have h' := h
  obtain ⟨⟨v, L, t⟩, k0⟩ := h
  exact (put18_no t hx).mono fun e w' ⟨h1, k⟩ => ⟨h1, h'.on k⟩
theorem TpN.list {w W : World} {tb lim : Nat} {vs : List Vl} (h : TpN w W tb lim vs) : Calls Try.prog 14 #[.pointer (some ⟨tb, 0, none⟩)] W fun e w' => ∃ u, e = .returned u ∧ OwnV W.heap.size w' u ((srt ltV vs).take lim) ∧ TpN w w' tb lim vs ∧ Kept W w' := by
  have h' := h
  obtain ⟨⟨v, L, t⟩, k0⟩ := h
  exact (list18 t).mono fun e w' ⟨u, h1, o, k⟩ => ⟨u, h1, o, h'.on k, k⟩
theorem TpN.total {w W : World} {tb lim : Nat} {vs : List Vl} (h : TpN w W tb lim vs) : Calls Try.prog 16 #[.pointer (some ⟨tb, 0, none⟩)] W fun e w' => e = .returned (.int .i64 (vs.length : Int)) ∧ w' = W := by
  obtain ⟨⟨v, L, t⟩, k0⟩ := h
  exact total18 t
theorem OwnV.cells {base : Nat} {w : World} {a : Option Addr} {m cap : Nat} {l : List Vl} (h : OwnV base w (.slice a m cap) l) {x : Vl} (hx : l[0]? = some x) : ∃ g, a = some ⟨g, 0, none⟩ ∧ w.cell? ⟨g, 0, none⟩ = some (.int .i64 x.kd) ∧ w.cell? ⟨g, 1, none⟩ = some (.int .i64 x.tm) ∧ w.cell? ⟨g, 2, none⟩ = some (.int .i64 x.tx) ∧ w.cell? ⟨g, 3, none⟩ = some (.int .i64 x.op) ∧ w.cell? ⟨g, 4, none⟩ = some (.int .i64 x.wi) ∧ w.cell? ⟨g, 5, none⟩ = some (.string x.key) ∧ w.cell? ⟨g, 6, none⟩ = some (.bool x.wa) ∧ w.cell? ⟨g, 7, none⟩ = some (.string x.ex) ∧ w.cell? ⟨g, 8, none⟩ = some (.bool x.go) ∧ w.cell? ⟨g, 9, none⟩ = some (.string x.ob) ∧ w.cell? ⟨g, 10, none⟩ = some (.int .i64 x.fr) ∧ w.cell? ⟨g, 11, none⟩ = some (.int .i64 x.tt) := by
  obtain ⟨b, o, e, hb, hc⟩ := (h.at ekV) 0 x hx
  obtain ⟨a2, cap2, e2, -, -, h5⟩ := h.shape
  cases e2
  obtain ⟨g, e3, -, -⟩ := h5 _ e
  cases e3
  simp only [Nat.zero_mul, Nat.add_zero, Nat.zero_add] at hc
  exact ⟨b, e, hc 0 _ rfl, hc 1 _ rfl, hc 2 _ rfl, hc 3 _ rfl, hc 4 _ rfl, hc 5 _ rfl, hc 6 _ rfl, hc 7 _ rfl, hc 8 _ rfl, hc 9 _ rfl, hc 10 _ rfl, hc 11 _ rfl⟩
def v9 : Vl := ⟨8, 9, 0, 0, 0, ⟨#[]⟩, false, ⟨#[]⟩, false, ⟨#[]⟩, 0, 0⟩
def v4 : Vl := ⟨8, 4, 0, 0, 0, ⟨#[]⟩, false, ⟨#[]⟩, false, ⟨#[]⟩, 0, 0⟩
set_option maxRecDepth 100000 in
set_option maxHeartbeats 3200000 in
theorem anchor18 (w : World) : Calls Try.prog 9 #[] w fun e w' => e = .returned (.bool true) ∧ Kept w w' := by
  have HN : Hid _ := new18_ok 1 (by decide) w
  have HT0 : Hid (TpN w (w.alloc (tpO 1 0 (.slice none 0 0))) w.heap.size 1 []) := TpN.new (Same.refl _ w) (by decide)
  have HP1 : Hid (∀ W tb, TpN w W tb 1 [] → _) := fun W tb (h : TpN w W tb 1 []) => h.put (x := v9) (by decide) (by decide)
  have HP2 : Hid (∀ W tb, TpN w W tb 1 ([] ++ [v9]) → _) := fun W tb (h : TpN w W tb 1 ([] ++ [v9])) => h.put (x := v4) (by decide) (by decide)
  have HL : Hid (∀ W tb, TpN w W tb 1 (([] ++ [v9]) ++ [v4]) → _) := fun W tb (h : TpN w W tb 1 (([] ++ [v9]) ++ [v4])) => h.list
  have HT : Hid (∀ W tb, TpN w W tb 1 (([] ++ [v9]) ++ [v4]) → _) := fun W tb (h : TpN w W tb 1 (([] ++ [v9]) ++ [v4])) => h.total
  have HV : Hid (∀ W, _) := fun W => valid18 v4 W
  rw [show okV v4 = true by decide] at HV
  unfold vlV v9 at HP1
  unfold vlV v4 at HP2 HV
  simp only at HP1 HP2 HV
  go_enter Try.func9, Try.ntmps9
  go_wp2_with fail
  refine Calls.mono HN.out ?_
  rintro r w1 ⟨rfl, rfl⟩
  generalize w.alloc (tpO 1 0 (.slice none 0 0)) = W1 at HT0 ⊢
  generalize w.heap.size = tb at HT0 ⊢
  go_wp2_with fail
  refine Calls.mono (HP1.out _ _ HT0.out) ?_
  rintro r W2 ⟨rfl, t2⟩
  have HT2 : Hid (TpN w W2 tb 1 ([] ++ [v9])) := t2
  clear t2
  go_wp2_with fail
  refine Calls.mono (HP2.out _ _ HT2.out) ?_
  rintro r W3 ⟨rfl, t3⟩
  have HT3 : Hid (TpN w W3 tb 1 (([] ++ [v9]) ++ [v4])) := t3
  clear t3
  go_wp2_with fail
  refine Calls.mono (HL.out _ _ HT3.out) ?_
  rintro r W4 ⟨u, rfl, o4, t4, -⟩
  have HT4 : Hid (TpN w W4 tb 1 (([] ++ [v9]) ++ [v4])) := t4
  rw [show (srt ltV (([] ++ [v9]) ++ [v4])).take 1 = [v4] by decide] at o4
  obtain ⟨a, cap, eu, -, -, -⟩ := o4.shape
  subst eu
  obtain ⟨g, rfl, c0, c1, c2, c3, c4, c5, c6, c7, c8, c9, c10, c11⟩ := OwnV.cells o4 (x := v4) rfl
  unfold v4 at c0 c1 c2 c3 c4 c5 c6 c7 c8 c9 c10 c11
  simp only at c0 c1 c2 c3 c4 c5 c6 c7 c8 c9 c10 c11
  clear o4 t4 HL HP1 HP2
  go_wp2_with fail
  refine Calls.mono (HT.out _ _ HT4.out) ?_
  rintro r w5 ⟨rfl, rfl⟩
  go_wp2_with fail
  refine Calls.mono (HV.out _) ?_
  rintro r w5 ⟨rfl, rfl⟩
  go_wp2_with fail
  go_ret
  exact ⟨rfl, HT4.out.kept.alloc _⟩
end Go.Proofs.Ytnfkjblhnpnaeaa
