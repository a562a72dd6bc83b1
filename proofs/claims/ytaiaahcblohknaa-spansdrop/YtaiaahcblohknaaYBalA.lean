/- What is proved: balance, where the left tree is too high; the forest lies in memory. -/
import Derived.Test.YtaiaahcblohknaaYBal
namespace Go.Proofs.Ytaiaahcblohknaa
open Go.RowKit

set_option maxRecDepth 100000 in
set_option maxHeartbeats 3200000 in
theorem balA2 {w : World} {fb nb cap fr : Nat} {mv : Value} {c e : Int} {N : List Nd} (h : Ar w fb nb cap fr mv c e N) {p u : Nat} {a b R : PT} {s x : Sp} {n : Nd} (hg : Hg N p (.node u a x b) s R n) (hz : a.tr.sz + b.tr.sz + R.tr.sz + 2 < 4611686018427387904) (hA : R.tr.ht + 1 < (Tr.node a.tr x b.tr).ht) (hk : ¬ a.tr.ht < b.tr.ht) :
    Calls Try.prog 40 #[.pointer (some ⟨fb, 0, none⟩), .int .i64 p] w (BalP w fb nb cap fr mv c e N p (.node u a x b) s R) := by
  have HE : Hid (∀ W w' N', Kept w W → Fin W w' fb nb cap fr mv c e N N' (PT.node u a x (.node p b s R)) → BalP w fb nb cap fr mv c e N p (.node u a x b) s R (.returned (.int .i64 u)) w') := fun W w' N' k f => ⟨_, N', rfl, f.from_ k, (Tr.fixA2 hA hk).symm, by simp [PT.prs]⟩
  have HL : Hid (∀ W, Kept w W → _) := fun W k => liftR14 (h.on k) hg (by omega)
  obtain ⟨yo, ey, ty⟩ := hg.lr.tells hg.zero
  have hu : N[u]? = some (ndOf a x b) := hg.ll.2.1
  obtain ⟨xa, ea, ta⟩ := Lay.tells hg.zero hg.ll.2.2.1
  obtain ⟨xb, eb, tb⟩ := Lay.tells hg.zero hg.ll.2.2.2
  have b1 := Tr.ht_le_sz (Tr.node a.tr x b.tr)
  rw [Tr.sz_node] at b1
  have b2 := Tr.ht_le_sz R.tr
  have HC : Hid (∀ W, Kept w W → Lnk W fb nb cap N.length p n ∧ W.cell? ⟨nb, u * 8 + 3, none⟩ = some (.int .i64 a.root) ∧ W.cell? ⟨nb, u * 8 + 4, none⟩ = some (.int .i64 b.root) ∧ W.cell? ⟨nb, u * 8 + 5, none⟩ = some (.int .i64 (Tr.node a.tr x b.tr).ht) ∧ W.cell? ⟨nb, R.root * 8 + 5, none⟩ = some (.int .i64 R.tr.ht) ∧ W.cell? ⟨nb, a.root * 8 + 5, none⟩ = some (.int .i64 a.tr.ht) ∧ W.cell? ⟨nb, b.root * 8 + 5, none⟩ = some (.int .i64 b.tr.ht)) := fun W k => by
    have q1 := (((h.on k).node hu).1).c5
    have q2 := (((h.on k).node ey).1).c5
    have q3 := (((h.on k).node ea).1).c5
    have q4 := (((h.on k).node eb).1).c5
    rw [ty.h] at q2
    rw [ta.h] at q3
    rw [tb.h] at q4
    exact ⟨(h.on k).lnk hg.at_ rfl, ((h.on k).lnk hu rfl).c3, ((h.on k).lnk hu rfl).c4, q1, q2, q3, q4⟩
  have l1 : (p : Int) < (N.length : Int) := by have := (h.node hg.at_).2; omega
  have l2 : (u : Int) < (N.length : Int) := by have := (h.node hu).2; omega
  have l3 : (R.root : Int) < (N.length : Int) := by have := (h.node ey).2; omega
  have l4 : (a.root : Int) < (N.length : Int) := by have := (h.node ea).2; omega
  have l5 : (b.root : Int) < (N.length : Int) := by have := (h.node eb).2; omega
  obtain ⟨⟨f0, c3, c4, -⟩, -⟩ := HC.out w (Same.refl _ w)
  rw [hg.l_] at c3
  rw [hg.r_] at c4
  rw [show (PT.node u a x b).root = u from rfl] at c3
  have el : Hid (n.l = u) := hg.l_
  have er : Hid (n.r = R.root) := hg.r_
  clear h hg ty ta tb hu ey ea eb
  generalize hor : R.root = orr at *
  generalize a.root = ar at *
  generalize b.root = br at *
  generalize hlh : (Tr.node a.tr x b.tr).ht = uh at *
  generalize hrh : R.tr.ht = oh at *
  generalize hah : a.tr.ht = ah at *
  generalize hbh : b.tr.ht = bh at *
  clear hlh hrh hah hbh hor
  have t1 : ¬ (uh : Int) ≤ (oh : Int) + 1 := by omega
  have t3 : oh < 4611686018427387904 := by omega
  have t4 : uh < 4611686018427387904 := by omega
  have t5 : ¬ (ah : Int) < (bh : Int) := by omega

  clear hA hk b1 b2 hz
  have ix0 := idx0
  have ix1 := idx1
  go_enter Try.func40, Try.ntmps40
  go_wp2_with fail
  go_loopw [17] (fun v wr => (∃ k : Nat, k ≤ 0 ∧ v = .int .i64 k) ∧ Kept w wr) (fun v _ => 2 - (intOf v).toNat)
  case atStart => exact ⟨⟨0, by omega, rfl⟩, (by (repeat (first | exact Same.refl _ _ | apply Same.drew | apply Same.drewN)); done)⟩
  case round =>
    obtain ⟨⟨k, hk, rfl⟩, kk⟩ := hrel
    have KK : Hid (Kept w wr) := kk
    clear f0 c3 c4
    obtain ⟨⟨f0, c3, c4, zf⟩, u3, u4, c5, c6, c7, c8⟩ := HC.out wr kk
    rw [show n.l = _ from el.out] at c3
    rw [show n.r = _ from er.out] at c4
    clear kk
    rcases (show k = 0 by omega) with rfl
    · go_wp2_with fail
      go_quiet (fail)
      go_wp2_with fail
      go_quiet (fail)
      go_wp2_with fail
      go_quiet (fail)
      go_wp2_with fail
      refine Calls.mono (HL.out _ (Same.drewN KK.out _)) ?_
      rintro r w2 ⟨rfl, N', F⟩
      have F' : Hid (Fin _ w2 fb nb cap fr mv c e N N' _) := F
      clear F
      go_wp2_with fail
      go_ret
      exact HE.out _ _ _ (Same.drewN KK.out _) F'.out
set_option maxRecDepth 100000 in
set_option maxHeartbeats 3200000 in
theorem balA1 {w : World} {fb nb cap fr : Nat} {mv : Value} {c e : Int} {N : List Nd} (h : Ar w fb nb cap fr mv c e N) {p u v : Nat} {a b1 b2 R : PT} {s x y : Sp} {n : Nd} (hg : Hg N p (.node u a x (.node v b1 y b2)) s R n) (hz : a.tr.sz + b1.tr.sz + b2.tr.sz + R.tr.sz + 3 < 4611686018427387904) (hA : R.tr.ht + 1 < (Tr.node a.tr x (Tr.node b1.tr y b2.tr)).ht) (hk : a.tr.ht < (Tr.node b1.tr y b2.tr).ht) :
    Calls Try.prog 40 #[.pointer (some ⟨fb, 0, none⟩), .int .i64 p] w (BalP w fb nb cap fr mv c e N p (.node u a x (.node v b1 y b2)) s R) := by
  have HE : Hid (∀ w' N', Fin w w' fb nb cap fr mv c e N N' (PT.node v (.node u a x b1) y (.node p b2 s R)) → BalP w fb nb cap fr mv c e N p (.node u a x (.node v b1 y b2)) s R (.returned (.int .i64 v)) w') := fun w' N' f => ⟨_, N', rfl, f, (Tr.fixA1 hA hk).symm, by simp [PT.prs]⟩
  have hgu := hg.subL
  have hpu : p ∉ (PT.node v (.node u a x b1) y b2).pl := by have h9 := hg.parts.1; simp only [PT.pl_node, List.mem_append, List.mem_cons, not_or] at h9 ⊢; simp_all
  have h0u : 0 ∉ (PT.node v (.node u a x b1) y b2).pl := by
    have h9 := hg.ll.zero_out
    simp only [PT.pl_node, List.mem_append, List.mem_cons, not_or] at h9 ⊢
    simp_all
  have hou : ∀ q ∈ R.pl, q ∉ (PT.node v (.node u a x b1) y b2).pl := fun q hq h9 => by
    have h8 := hg.parts.2.2.2.2 q
    simp only [PT.pl_node, List.mem_append, List.mem_cons] at h8 h9
    exact absurd hq (h8 (by rcases h9 with (h9 | h9 | h9) | h9 | h9 <;> simp [h9]))
  have hnd : ((PT.node v (.node u a x b1) y b2).pl ++ p :: R.pl).Nodup := by have h9 := hg.nd; simp only [PT.pl_node] at h9 ⊢; simpa using h9
  have HL : Hid (∀ W, Kept w W → Calls Try.prog 46 #[.pointer (some ⟨fb, 0, none⟩), .int .i64 u, .int .i64 1] W fun r w2 => r = .returned (.int .i64 v) ∧ ∃ N1, Fin w w2 fb nb cap fr mv c e N N1 (PT.node v (.node u a x b1) y b2) ∧ Lnk w2 fb nb cap N.length p n ∧ N1[p]? = some n ∧ Hg (N1.set p { n with l := v }) p (PT.node v (.node u a x b1) y b2) s R { n with l := v }) := fun W k => by
    refine (liftL14 (h.on k) hgu (by omega)).mono ?_
    rintro r w2 ⟨rfl, N1, F⟩
    obtain ⟨e1, hg2⟩ := hg.relinkL F.ch F.lay hpu h0u hou hnd
    exact ⟨rfl, N1, F.from_ k, F.ar.lnk e1 F.ch.len, e1, hg2⟩
  have HL2 : Hid (∀ W N2 n2, Ar W fb nb cap fr mv c e N2 → Hg N2 p (PT.node v (.node u a x b1) y b2) s R n2 → _) := fun W N2 n2 hA9 hg9 => liftR14 hA9 hg9 (by show (Tr.node a.tr x b1.tr).sz + b2.tr.sz + R.tr.sz + 1 < _; rw [Tr.sz_node]; omega)
  have HF : Hid (∀ w2 w3 N1 N2, Fin w w2 fb nb cap fr mv c e N N1 (PT.node v (.node u a x b1) y b2) → Fin (w2.setCell ⟨nb, p * 8 + 3, none⟩ (.int .i64 v)) w3 fb nb cap fr mv c e (N1.set p { n with l := v }) N2 (PT.node v (.node u a x b1) y (.node p b2 s R)) → Fin w w3 fb nb cap fr mv c e N N2 (PT.node v (.node u a x b1) y (.node p b2 s R))) := fun w2 w3 N1 N2 f1 f2 => by
    refine ⟨f2.ar, (Same.setCell f1.same ⟨nb, p * 8 + 3, none⟩ (.inr rfl) _).trans' f2.same, f2.lay, ?_⟩
    have hp9 : p ∈ (PT.node v (.node u a x b1) y (.node p b2 s R)).pl := by simp [PT.pl_node]
    exact ((f1.ch.mono (fun q hq => by simp only [PT.pl_node, List.mem_append, List.mem_cons] at hq ⊢; rcases hq with (hq | hq | hq) | hq | hq <;> simp [hq])).trans (Ch.set N1 hp9 _)).trans f2.ch
  obtain ⟨b, eb⟩ : ∃ b, b = PT.node v b1 y b2 := ⟨_, rfl⟩
  have hvr : b.root = v := by rw [eb]; rfl
  rw [← eb] at hg
  rw [show Tr.node b1.tr y b2.tr = b.tr by rw [eb]; rfl] at hA hk
  have hz9 : b.tr.sz = b1.tr.sz + b2.tr.sz + 1 := by rw [eb]; exact Tr.sz_node _ _ _
  obtain ⟨yo, ey, ty⟩ := hg.lr.tells hg.zero
  have hu : N[u]? = some (ndOf a x b) := hg.ll.2.1
  obtain ⟨xa, ea, ta⟩ := Lay.tells hg.zero hg.ll.2.2.1
  obtain ⟨xb, eb, tb⟩ := Lay.tells hg.zero hg.ll.2.2.2
  have bb1 := Tr.ht_le_sz (Tr.node a.tr x b.tr)
  rw [Tr.sz_node] at bb1
  have bb2 := Tr.ht_le_sz R.tr
  have HC : Hid (∀ W, Kept w W → Lnk W fb nb cap N.length p n ∧ W.cell? ⟨nb, u * 8 + 3, none⟩ = some (.int .i64 a.root) ∧ W.cell? ⟨nb, u * 8 + 4, none⟩ = some (.int .i64 b.root) ∧ W.cell? ⟨nb, u * 8 + 5, none⟩ = some (.int .i64 (Tr.node a.tr x b.tr).ht) ∧ W.cell? ⟨nb, R.root * 8 + 5, none⟩ = some (.int .i64 R.tr.ht) ∧ W.cell? ⟨nb, a.root * 8 + 5, none⟩ = some (.int .i64 a.tr.ht) ∧ W.cell? ⟨nb, b.root * 8 + 5, none⟩ = some (.int .i64 b.tr.ht)) := fun W k => by
    have q1 := (((h.on k).node hu).1).c5
    have q2 := (((h.on k).node ey).1).c5
    have q3 := (((h.on k).node ea).1).c5
    have q4 := (((h.on k).node eb).1).c5
    rw [ty.h] at q2
    rw [ta.h] at q3
    rw [tb.h] at q4
    exact ⟨(h.on k).lnk hg.at_ rfl, ((h.on k).lnk hu rfl).c3, ((h.on k).lnk hu rfl).c4, q1, q2, q3, q4⟩
  have l1 : (p : Int) < (N.length : Int) := by have := (h.node hg.at_).2; omega
  have l2 : (u : Int) < (N.length : Int) := by have := (h.node hu).2; omega
  have l3 : (R.root : Int) < (N.length : Int) := by have := (h.node ey).2; omega
  have l4 : (a.root : Int) < (N.length : Int) := by have := (h.node ea).2; omega
  have l5 : (b.root : Int) < (N.length : Int) := by have := (h.node eb).2; omega
  obtain ⟨⟨f0, c3, c4, -⟩, -⟩ := HC.out w (Same.refl _ w)
  rw [hg.l_] at c3
  rw [hg.r_] at c4
  rw [show (PT.node u a x b).root = u from rfl] at c3
  have el : Hid (n.l = u) := hg.l_
  have er : Hid (n.r = R.root) := hg.r_
  clear h hg hgu hpu h0u hou hnd ty ta tb hu ey ea eb
  generalize hor : R.root = orr at *
  generalize a.root = ar at *
  generalize b.root = br at *
  generalize hlh : (Tr.node a.tr x b.tr).ht = uh at *
  generalize hrh : R.tr.ht = oh at *
  generalize hah : a.tr.ht = ah at *
  generalize hbh : b.tr.ht = bh at *
  clear hlh hrh hah hbh hor eb hvr
  have t1 : ¬ (uh : Int) ≤ (oh : Int) + 1 := by omega
  have t3 : oh < 4611686018427387904 := by omega
  have t4 : uh < 4611686018427387904 := by omega
  have t5 : (ah : Int) < (bh : Int) := by omega

  clear hA hk bb1 bb2 hz hz9
  have ix0 := idx0
  have ix1 := idx1
  go_enter Try.func40, Try.ntmps40
  go_wp2_with fail
  go_loopw [17] (fun v wr => (∃ k : Nat, k ≤ 0 ∧ v = .int .i64 k) ∧ Kept w wr) (fun v _ => 2 - (intOf v).toNat)
  case atStart => exact ⟨⟨0, by omega, rfl⟩, (by (repeat (first | exact Same.refl _ _ | apply Same.drew | apply Same.drewN)); done)⟩
  case round =>
    obtain ⟨⟨k, hk, rfl⟩, kk⟩ := hrel
    have KK : Hid (Kept w wr) := kk
    clear f0 c3 c4
    obtain ⟨⟨f0, c3, c4, zf⟩, u3, u4, c5, c6, c7, c8⟩ := HC.out wr kk
    rw [show n.l = _ from el.out] at c3
    rw [show n.r = _ from er.out] at c4
    clear kk
    rcases (show k = 0 by omega) with rfl
    · go_wp2_with fail
      go_quiet (fail)
      go_wp2_with fail
      go_quiet (fail)
      go_wp2_with fail
      go_quiet (fail)
      go_wp2_with fail
      go_region_with ((go_at_call 46; refine Calls.mono (HL.out _ (by (repeat (first | exact KK.out | apply Same.drew | apply Same.drewN)); done)) ?_; rintro r w2 ⟨rfl, N1, F1, ⟨g0, g3, g4, gz⟩, P1, G1⟩; have F1' : Hid (Fin w w2 fb nb cap fr mv c e N N1 _) := F1; have P1' : Hid (N1[p]? = some n) := P1; have G1' : Hid (Hg _ p _ s _ _) := G1; clear F1 P1 G1))
      all_goals
        go_wp2_with fail
        refine Calls.mono (HL2.out _ _ _ (Ar.put F1'.out.ar P1'.out (j := 3) (by decide) rfl) G1'.out) ?_
        rintro r w3 ⟨rfl, N2, F2⟩
        have F2' : Hid (Fin _ w3 fb nb cap fr mv c e _ N2 _) := F2
        clear F2
        go_wp2_with fail
        go_ret
        exact HE.out _ _ (HF.out _ _ _ _ F1'.out F2'.out)
end Go.Proofs.Ytaiaahcblohknaa
