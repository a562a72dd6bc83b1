/- What is proved: balance mends a node whose subtrees are as they should be, whatever their heights: the tree that the plain turning makes; the forest lies in memory. -/
import Derived.Test.YtaiaahcblohknaaYLift
import Derived.Test.YtaiaahcblohknaaYFix
import Derived.Deep.RegionWith
namespace Go.Proofs.Ytaiaahcblohknaa
open Go.RowKit

/-- What balance answers and leaves. -/
def BalP (w : World) (fb nb cap fr : Nat) (mv : Value) (c e : Int) (N : List Nd) (p : Nat) (L : PT) (s : Sp) (R : PT) (r : Ending) (w' : World) : Prop :=
  ∃ T N', r = .returned (.int .i64 (T.root : Nat)) ∧ Fin w w' fb nb cap fr mv c e N N' T ∧ T.tr = Tr.fix L.tr s R.tr ∧ T.prs = L.prs ++ (p, s) :: R.prs
theorem Fin.from_ {w W w' : World} {fb nb cap fr : Nat} {mv : Value} {c e : Int} {N N' : List Nd} {T : PT} (k : Kept w W) (h : Fin W w' fb nb cap fr mv c e N N' T) : Fin w w' fb nb cap fr mv c e N N' T := ⟨h.ar, (Kept.to k _).trans' h.same, h.lay, h.ch⟩
/-- A node's cells ahead of a store. -/
structure Lnk (w2 : World) (fb nb cap : Nat) (len p : Nat) (n : Nd) : Prop where
  f0 : w2.cell? ⟨fb, 0, none⟩ = some (.slice (some ⟨nb, 0, none⟩) len cap)
  c3 : w2.cell? ⟨nb, p * 8 + 3, none⟩ = some (.int .i64 n.l)
  c4 : w2.cell? ⟨nb, p * 8 + 4, none⟩ = some (.int .i64 n.r)
  fz : ∀ o, w2.frozen? ⟨nb, o, none⟩ = false
theorem Ar.lnk {w : World} {fb nb cap fr : Nat} {mv : Value} {c e : Int} {N : List Nd} (h : Ar w fb nb cap fr mv c e N) {p : Nat} {n : Nd} (hp : N[p]? = some n) {len : Nat} (hl : N.length = len) : Lnk w fb nb cap len p n := by
  subst hl
  obtain ⟨⟨f0, -⟩, -⟩ := h.cells
  obtain ⟨⟨-, -, -, c3, c4, -, -, -⟩, -⟩ := h.node hp
  exact ⟨f0, c3, c4, fun o => h.nodes.frozen o⟩
theorem idx0 (w : World) (a b : Int) : (Instr.index 72 (.agg #[.int .i64 a, .int .i64 b]) (.int .i64 0)).run Try.prog w = .ok (.int .i64 a) w := by kernel_rfl
theorem idx1 (w : World) (a b : Int) : (Instr.index 72 (.agg #[.int .i64 a, .int .i64 b]) (.int .i64 1)).run Try.prog w = .ok (.int .i64 b) w := by kernel_rfl
set_option maxRecDepth 100000 in
set_option maxHeartbeats 3200000 in
theorem balC {w : World} {fb nb cap fr : Nat} {mv : Value} {c e : Int} {N : List Nd} (h : Ar w fb nb cap fr mv c e N) {p : Nat} {L R : PT} {s : Sp} {n : Nd} (hg : Hg N p L s R n) (hz : L.tr.sz + R.tr.sz + 1 < 4611686018427387904) (h1 : L.tr.ht ≤ R.tr.ht + 1) (h2 : R.tr.ht ≤ L.tr.ht + 1) :
    Calls Try.prog 40 #[.pointer (some ⟨fb, 0, none⟩), .int .i64 p] w (BalP w fb nb cap fr mv c e N p L s R) := by
  obtain ⟨x, ex, tx⟩ := hg.ll.tells hg.zero
  obtain ⟨y, ey, ty⟩ := hg.lr.tells hg.zero
  have b1 := Tr.ht_le_sz L.tr
  have b2 := Tr.ht_le_sz R.tr
  have HA : Hid _ := h
  have HG : Hid _ := hg
  have HE : Hid (∀ W w' N', Kept w W → Fin W w' fb nb cap fr mv c e N N' (.node p L s R) → BalP w fb nb cap fr mv c e N p L s R (.returned (.int .i64 p)) w') := fun W w' N' k f => ⟨_, N', rfl, f.from_ k, (Tr.fix_none s h1 h2).symm, rfl⟩
  have HR : Hid (∀ W, Kept w W → _) := fun W k => refresh_hg (h.on k) hg (by omega)
  have HC : Hid (∀ W, Kept w W → Lnk W fb nb cap N.length p n ∧ W.cell? ⟨nb, L.root * 8 + 5, none⟩ = some (.int .i64 L.tr.ht) ∧ W.cell? ⟨nb, R.root * 8 + 5, none⟩ = some (.int .i64 R.tr.ht)) := fun W k => by
    have q1 := (((h.on k).node ex).1).c5
    have q2 := (((h.on k).node ey).1).c5
    rw [tx.h] at q1
    rw [ty.h] at q2
    exact ⟨(h.on k).lnk hg.at_ rfl, q1, q2⟩
  have l1 : (p : Int) < (N.length : Int) := by have := (h.node hg.at_).2; omega
  have l2 : (L.root : Int) < (N.length : Int) := by have := (h.node ex).2; omega
  have l3 : (R.root : Int) < (N.length : Int) := by have := (h.node ey).2; omega
  obtain ⟨⟨f0, c3, c4, -⟩, -, -⟩ := HC.out w (Same.refl _ w)
  rw [hg.l_] at c3
  rw [hg.r_] at c4
  have el : Hid _ := hg.l_
  have er : Hid _ := hg.r_
  clear h hg tx ty ex ey
  generalize L.root = lr at *
  generalize R.root = rr at *
  generalize hlh : L.tr.ht = lh at *
  generalize hrh : R.tr.ht = rh at *
  clear hlh hrh
  have t1 : (lh : Int) ≤ (rh : Int) + 1 := by omega
  have t2 : (rh : Int) ≤ (lh : Int) + 1 := by omega
  have t3 : rh < 4611686018427387904 := by omega
  have t4 : lh < 4611686018427387904 := by omega
  clear h1 h2 b1 b2 hz
  have ix0 := idx0
  have ix1 := idx1
  go_enter Try.func40, Try.ntmps40
  go_wp2_with fail
  go_loopw [17] (fun v wr => (∃ k : Nat, k ≤ 2 ∧ v = .int .i64 k) ∧ Kept w wr) (fun v _ => 2 - (intOf v).toNat)
  case atStart => exact ⟨⟨0, by omega, rfl⟩, (by (repeat (first | exact Same.refl _ _ | apply Same.drew | apply Same.drewN)); done)⟩
  case round =>
    obtain ⟨⟨k, hk, rfl⟩, kk⟩ := hrel
    have KK : Hid (Kept w wr) := kk
    clear f0 c3 c4
    obtain ⟨⟨f0, c3, c4, -⟩, c5, c6⟩ := HC.out wr kk
    rw [show n.l = lr from el.out] at c3
    rw [show n.r = rr from er.out] at c4
    clear kk
    rcases (show k = 0 ∨ k = 1 ∨ k = 2 by omega) with rfl | rfl | rfl
    · go_wp2_with fail
      go_quiet (fail)
      go_wp2_with fail
      go_roundw
      case rel => exact ⟨⟨1, by omega, rfl⟩, Same.drewN KK.out _⟩
      case measure => simp [intOf]
    · go_wp2_with fail
      go_quiet (fail)
      go_wp2_with fail
      go_roundw
      case rel => exact ⟨⟨2, by omega, rfl⟩, Same.drewN KK.out _⟩
      case measure => simp [intOf]
    · go_wp2_with fail
      refine Calls.mono (HR.out _ KK.out) ?_
      rintro r w2 ⟨rfl, N', F, -⟩
      have F' : Hid (Fin wr w2 fb nb cap fr mv c e N N' _) := F
      clear F
      go_wp2_with fail
      go_ret
      exact HE.out _ _ _ KK.out F'.out
end Go.Proofs.Ytaiaahcblohknaa
