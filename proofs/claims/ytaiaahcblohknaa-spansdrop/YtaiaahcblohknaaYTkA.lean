/- What is proved: take takes a span out of a tree that has it; has tells whether it does; soonest gives one that ends no later than any other; the forest lies in memory. -/
import Derived.Test.YtaiaahcblohknaaYTake
namespace Go.Proofs.Ytaiaahcblohknaa
open Go.RowKit

theorem eql_sp (a b : Sp) (w : World) : (binOp .eql 31 (.agg #[.int .i64 a.f, .int .i64 a.t, .int .i64 a.i]) (.agg #[.int .i64 b.f, .int .i64 b.t, .int .i64 b.i])).run Try.prog w = .ok (.bool (decide (a = b))) w := by
  obtain ⟨af, at_, ai⟩ := a
  obtain ⟨bf, bt, bi⟩ := b
  go_simp
  by_cases h1 : af = bf <;> simp [h1]
  by_cases h2 : at_ = bt <;> simp [h2]
  by_cases h3 : ai = bi <;> simp [h3]
theorem neq_sp (a b : Sp) (w : World) : (binOp .neq 31 (.agg #[.int .i64 a.f, .int .i64 a.t, .int .i64 a.i]) (.agg #[.int .i64 b.f, .int .i64 b.t, .int .i64 b.i])).run Try.prog w = .ok (.bool (!decide (a = b))) w := by
  obtain ⟨af, at_, ai⟩ := a
  obtain ⟨bf, bt, bi⟩ := b
  go_simp
  by_cases h1 : af = bf <;> simp [h1]
  by_cases h2 : at_ = bt <;> simp [h2]
  by_cases h3 : ai = bi <;> simp [h3]
set_option maxRecDepth 100000 in
set_option maxHeartbeats 6400000 in
theorem take_eq (fb nb cap fr : Nat) (mv : Value) (c e : Int) (x : Sp) (p : Nat) (L : PT) (s : Sp) (R : PT) (w : World) (N : List Nd) (h : Ar w fb nb cap fr mv c e N) (hT : Lay N (.node p L s R)) (h0 : N[0]? = some nd0) (hd : (PT.node p L s R).pl.Nodup) (hx : x ∈ (PT.node p L s R).tr.list) (hsr : Srt (PT.node p L s R).tr.list) (hz : (PT.node p L s R).tr.sz < 4611686018427387904) (hxs : x = s) :
    Calls Try.prog 33 #[.pointer (some ⟨fb, 0, none⟩), .int .i64 ((PT.node p L s R).root : Nat), spV x] w (TakeP w fb nb cap fr mv c e N (.node p L s R) x) := by
  have hg := hT.hg hd h0
  have hs : (PT.node p L s R).tr.sz = L.tr.sz + R.tr.sz + 1 := Tr.sz_node _ _ _
  obtain ⟨hpL, hpR, dL, dR, dLR⟩ := hg.parts
  have sp := Tr.srt_parts (show Srt (Tr.node L.tr s R.tr).list from hsr)
  clear hsr
  have l1 : (p : Int) < (N.length : Int) := by have := (h.node hg.at_).2; omega
  have HS : Hid (∀ W, Kept w W → _) := fun W k => side14 (h.on k) p (ndOf L s R) hg.at_ x
  have HC : Hid (∀ W, Kept w W → Lnk W fb nb cap N.length p (ndOf L s R) ∧ W.cell? ⟨nb, p * 8, none⟩ = some (.int .i64 s.f) ∧ W.cell? ⟨nb, p * 8 + 1, none⟩ = some (.int .i64 s.t) ∧ W.cell? ⟨nb, p * 8 + 2, none⟩ = some (.int .i64 s.i)) := fun W k =>
    ⟨(h.on k).lnk hg.at_ rfl, (((h.on k).node hg.at_).1).span⟩
  have K0 : Hid _ := (Same.refl (fun _ => False) w).alloc (spO x)
  have HG : Hid _ := heap_new w (spO x)
  have hlb := h.cells.2.1
  have hln := h.cells.2.2
  subst hxs
  have HU : Hid (∀ W, Kept w W → Calls Try.prog 42 #[.pointer (some ⟨fb, 0, none⟩), .int .i64 p] W (TakeP w fb nb cap fr mv c e N (.node p L x R) x)) := fun W k => (unroot14 (h.on k) hT h0 hd hz).mono fun r w' ⟨T', N', q, hr, F⟩ => ⟨T', N', q, hr, F.from_ k⟩
  clear h hT h0 hd hx hz hg hs hpL hpR dL dR dLR sp HS
  show Calls Try.prog 33 #[.pointer (some ⟨fb, 0, none⟩), .int .i64 (p : Int), spV x] w _
  have EQ := eql_sp x x
  rw [decide_eq_true (rfl : x = x)] at EQ
  generalize hPP : TakeP w fb nb cap fr mv c e N (.node p L x R) x = PP at HU ⊢
  have HPP : Hid _ := hPP
  clear hPP
  have HUR : Hid (∀ r w', PP r w' → ∃ v : Nat, r = .returned (.int .i64 v)) := fun r w' h9 => by
    rw [← show TakeP w fb nb cap fr mv c e N (.node p L x R) x = PP from HPP.out] at h9
    obtain ⟨T', N', q, hr, F⟩ := h9
    exact ⟨_, hr⟩
  obtain ⟨xf, xt, xi⟩ := x
  simp only at EQ
  unfold spV
  simp only
  clear HPP
  go_enter Try.func33, Try.ntmps33
  go_upto_region 1 with fail
  generalize w.alloc (spO ⟨xf, xt, xi⟩) = W at K0 HG ⊢
  generalize hgg : w.heap.size = g at HG hlb hln ⊢
  clear hgg
  obtain ⟨⟨f0, -, -, -⟩, y0, y1, y2⟩ := HC.out W K0.out
  obtain ⟨b0, b1, b2⟩ := sp_cells HG.out
  simp only at b0 b1 b2 y0 y1 y2
  go_quiet (fail)
  rename Nat => nn
  clear EQ
  go_wp2_with fail
  refine Calls.mono (HU.out _ (Same.drewN K0.out _)) ?_
  intro r w2 hP
  obtain ⟨v, rfl⟩ := HUR.out _ _ hP
  have HP2 : Hid _ := hP
  clear hP
  go_wp2_with fail
  exact HP2.out
end Go.Proofs.Ytaiaahcblohknaa
