/- What is proved: unroot takes the root out of a tree, take a span that the tree has; the forest lies in memory. -/
import Derived.Test.YtaiaahcblohknaaYPart
namespace Go.Proofs.Ytaiaahcblohknaa
open Go.RowKit

/-- What is left behind a span that was taken out. -/
structure TakeR (w w' : World) (fb nb cap fr : Nat) (mv : Value) (c e : Int) (N : List Nd) (T : PT) (x : Sp) (T' : PT) (N' : List Nd) (q : Nat) : Prop where
  ar : Ar w' fb nb cap q mv c e N'
  same : Same (fun k => k = nb ∨ k = fb) w w'
  lay : Lay N' T'
  ch : Ch T.pl N N'
  tr : T'.tr = Tr.del Tr.joinG T.tr x
  prs : T.prs.Perm ((q, x) :: T'.prs)
  free : N'[q]? = some (frN fr)
def TakeP (w : World) (fb nb cap fr : Nat) (mv : Value) (c e : Int) (N : List Nd) (T : PT) (x : Sp) (r : Ending) (w' : World) : Prop :=
  ∃ T' N' q, r = .returned (.int .i64 (T'.root : Nat)) ∧ TakeR w w' fb nb cap fr mv c e N T x T' N' q
theorem TakeR.from_ {w W w' : World} {fb nb cap fr : Nat} {mv : Value} {c e : Int} {N : List Nd} {T : PT} {x : Sp} {T' : PT} {N' : List Nd} {q : Nat} (k : Kept w W) (h : TakeR W w' fb nb cap fr mv c e N T x T' N' q) : TakeR w w' fb nb cap fr mv c e N T x T' N' q := { h with same := (Kept.to k _).trans' h.same }
theorem del_root (l r : Tr) (s : Sp) : Tr.del Tr.joinG (.node l s r) s = Tr.joinG l r := by
  show (if sl s s = true then _ else if sl s s = true then _ else _) = _
  rw [if_neg (by rw [sl_irrefl]; decide), if_neg (by rw [sl_irrefl]; decide)]
theorem del_less {l r : Tr} {s x : Sp} (h : sl x s = true) : Tr.del Tr.joinG (.node l s r) x = Tr.fix (Tr.del Tr.joinG l x) s r := by
  show (if sl x s = true then _ else if sl s x = true then _ else _) = _
  rw [if_pos h]
theorem del_more {l r : Tr} {s x : Sp} (h : sl x s = false) (k : sl s x = true) : Tr.del Tr.joinG (.node l s r) x = Tr.fix l s (Tr.del Tr.joinG r x) := by
  show (if sl x s = true then _ else if sl s x = true then _ else _) = _
  rw [if_neg (by rw [h]; decide), if_pos k]
theorem popL_node {t : Tr} (h : t ≠ .nil) : ∃ q, t.popL = some q := by
  cases e : t.popL with
  | none => exact absurd (Tr.popL_none e) h
  | some q => exact ⟨q, rfl⟩
set_option maxRecDepth 100000 in
set_option maxHeartbeats 3200000 in
theorem unroot14 {w : World} {fb nb cap fr : Nat} {mv : Value} {c e : Int} {N : List Nd} (h : Ar w fb nb cap fr mv c e N) {p : Nat} {L R : PT} {s : Sp} (hT : Lay N (.node p L s R)) (h0 : N[0]? = some nd0) (hd : (PT.node p L s R).pl.Nodup) (hz : (PT.node p L s R).tr.sz < 4611686018427387904) :
    Calls Try.prog 42 #[.pointer (some ⟨fb, 0, none⟩), .int .i64 p] w (TakeP w fb nb cap fr mv c e N (.node p L s R) s) := by
  have hg := hT.hg hd h0
  have hs : (PT.node p L s R).tr.sz = L.tr.sz + R.tr.sz + 1 := Tr.sz_node _ _ _
  obtain ⟨hpL, hpR, dL, dR, dLR⟩ := hg.parts
  have l1 : (p : Int) < (N.length : Int) := by have := (h.node hg.at_).2; omega
  obtain ⟨f0, c3, c4, -⟩ := h.lnk hg.at_ rfl
  have c3' : w.cell? ⟨nb, p * 8 + 3, none⟩ = some (.int .i64 (L.root : Nat)) := c3
  have c4' : w.cell? ⟨nb, p * 8 + 4, none⟩ = some (.int .i64 (R.root : Nat)) := c4
  have K0 : Hid _ := (Same.refl (fun _ => False) w).alloc (prO L.root R.root)
  have HG : Hid _ := heap_new w (prO L.root R.root)
  have hlb := h.cells.2.1
  have hln := h.cells.2.2
  have HRL : Hid (∀ W, Kept w W → Calls Try.prog 48 #[.pointer (some ⟨fb, 0, none⟩), .int .i64 p] W fun r w' => r = .returned (.tuple #[]) ∧ Ar w' fb nb cap p mv c e (N.set p (frN fr)) ∧ Same (fun k => k = nb ∨ k = fb) W w') := fun W k => release14 (h.on k) p _ hg.at_
  have ll1 : Lay (N.set p (frN fr)) L := hg.ll.frame fun q hq => set_there (ne_in hq hpL) _
  have lr1 : Lay (N.set p (frN fr)) R := hg.lr.frame fun q hq => set_there (ne_in hq hpR) _
  have z1 : (N.set p (frN fr))[0]? = some nd0 := zero_set h0 hg.p0 _
  have hpT : p ∈ (PT.node p L s R).pl := by rw [PT.pl_node]; simp
  by_cases hR : R = .nil
  · subst hR
    have HE : Hid (∀ w', Ar w' fb nb cap p mv c e (N.set p (frN fr)) → Same (fun k => k = nb ∨ k = fb) w w' → TakeP w fb nb cap fr mv c e N (.node p L s .nil) s (.returned (.int .i64 (L.root : Nat))) w') := fun w' a k =>
      ⟨L, _, p, rfl, a, k, ll1, Ch.set N hpT _, (by show L.tr = Tr.del Tr.joinG (Tr.node L.tr s Tr.nil) s; rw [del_root]; rfl), by show (L.prs ++ (p, s) :: []).Perm _; exact List.perm_middle.trans (by simp), set_here hg.at_ _⟩
    clear h hT h0 hd hz hg hs hpL hpR dL dR dLR c3 c4 ll1 lr1 z1 hpT
    have er : (PT.nil.root : Nat) = 0 := rfl
    rw [er] at *
    generalize L.root = lr at *
    go_enter Try.func42, Try.ntmps42
    go_upto_region 2 with fail
    generalize w.alloc (.cells #[.int .i64 lr, .int .i64 ((0 : Nat) : Int)] 72 (0, 0)) = W at K0 HG ⊢
    generalize hgg : w.heap.size = g at HG hlb hln ⊢
    clear hgg f0 c3' c4'
    go_wp2_with fail
    refine Calls.mono (HRL.out _ K0.out) ?_
    rintro r w1 ⟨rfl, a1, k1⟩
    obtain ⟨b0, b1⟩ := pr_cells ((k1.block g (lt_of_heap HG.out) (by omega)).trans HG.out)
    have HE2 : Hid _ := HE.out _ a1 ((Kept.to K0.out _).trans' k1)
    clear a1 k1
    go_wp2_with fail
    go_ret
    exact HE2.out
  · have hr0 : R.root ≠ 0 := fun e => hR (root_zero hg.lr e)
    have HP : Hid (∀ W, Ar W fb nb cap p mv c e (N.set p (frN fr)) → Calls Try.prog 49 #[.pointer (some ⟨fb, 0, none⟩), .int .i64 (R.root : Nat)] W (fun r w2 => ∃ q v : Nat, r = .returned (.tuple #[.int .i64 q, .int .i64 v]) ∧ (∃ n' : Nd, Lnk w2 fb nb cap N.length q n') ∧ (q : Int) < (N.length : Int) ∧ Same (fun k => k = nb) W w2 ∧ Hid (∃ m R' N2 n', PartR W w2 fb nb cap p mv c e (N.set p (frN fr)) R q v m R' N2 n' ∧ Ar ((w2.setCell ⟨nb, q * 8 + 3, none⟩ (.int .i64 (L.root : Nat))).setCell ⟨nb, q * 8 + 4, none⟩ (.int .i64 v)) fb nb cap p mv c e (N2.set q { n' with l := L.root, r := v }) ∧ Hg (N2.set q { n' with l := L.root, r := v }) q L m R' { n' with l := L.root, r := v }))) := fun W hA => by
      refine (parted14 fb nb cap p mv c e R W _ hR hA lr1 z1 dR (by omega)).mono ?_
      rintro r w2 ⟨q, v, m, R', N2, n', rfl, F⟩
      have hpl : R.pl = q :: R'.pl := by simp [PT.pl, F.prs]
      have hq : q ∈ R.pl := by rw [hpl]; simp
      have hqL : q ∉ L.pl := fun e => dLR q e hq
      have hqR : q ∉ R'.pl := by rw [hpl] at dR; exact (List.nodup_cons.1 dR).1
      have hlen : N2.length = N.length := by rw [F.ch.len]; simp
      have a1 := F.ar.put (i := q) (j := 3) (y := { n' with l := L.root }) F.nd (by decide) (v := .int .i64 (L.root : Nat)) rfl
      have a2 := a1.put (i := q) (j := 4) (y := { n' with l := L.root, r := v }) (set_here F.nd _) (by decide) (v := .int .i64 v) rfl
      rw [List.set_set] at a2
      refine ⟨q, v, rfl, ⟨n', F.ar.lnk F.nd hlen⟩, by have := (F.ar.node F.nd).2; omega, F.same, m, R', N2, n', F, a2, (lr1.mem q hq).1, set_here F.nd _, F.ns, rfl, F.v_.symm, ?_, ?_, ?_, ?_⟩
      · exact ll1.frame fun z hz => (set_there (ne_in hz hqL) _).trans (F.ch.get z (dLR z hz))
      · exact F.lay.frame fun z hz => set_there (ne_in hz hqR) _
      · have h9 := hg.nd
        rw [hpl] at h9
        have h8 : (L.pl ++ q :: R'.pl).Sublist (L.pl ++ p :: q :: R'.pl) := List.Sublist.append_left (List.sublist_cons_self _ _) _
        exact h8.nodup h9
      · exact zero_set ((F.ch.get 0 lr1.zero_out).trans z1) (lr1.mem q hq).1 _
    have HB : Hid (∀ W N3 q m R' n3, Ar W fb nb cap p mv c e N3 → Hg N3 q L m R' n3 → L.tr.sz + R'.tr.sz + 1 < 4611686018427387904 → _) := fun W N3 q m R' n3 hA9 hg9 hz9 => balance14 hA9 hg9 hz9
    have HZ : Hid (∀ q m R', R.prs = (q, m) :: PT.prs R' → L.tr.sz + R'.tr.sz + 1 < 4611686018427387904) := fun q m R' e => by
      have e1 : R.pl.length = R'.pl.length + 1 := by simp [PT.pl, e]
      rw [PT.pl_length, PT.pl_length] at e1
      omega
    have HF : Hid (∀ (W w2 W3 w3 : World) (q v : Nat) m R' N2 n' T' N', Same (fun k => k = nb ∨ k = fb) w W → Same (fun k => k = nb) w2 W3 → PartR W w2 fb nb cap p mv c e (N.set p (frN fr)) R q v m R' N2 n' → Fin W3 w3 fb nb cap p mv c e (N2.set q { n' with l := L.root, r := v }) N' T' → T'.tr = Tr.fix L.tr m R'.tr → T'.prs = L.prs ++ (q, m) :: R'.prs → TakeP w fb nb cap fr mv c e N (.node p L s R) s (.returned (.int .i64 (T'.root : Nat))) w3) := fun W w2 W3 w3 q v m R' N2 n' T' N' kw k3 F F2 t1 t2 => by
      have hpl : R.pl = q :: R'.pl := by simp [PT.pl, F.prs]
      have t3 : T'.prs = L.prs ++ R.prs := by rw [t2, F.prs]
      have htl : T'.pl = L.pl ++ R.pl := by simp [PT.pl, t3]
      have hpT' : p ∉ T'.pl := by rw [htl]; simp [hpL, hpR]
      have hpq : p ≠ q := fun e => hpR (by rw [hpl, e]; simp)
      have hTs : ∀ z, z ∈ T'.pl → z ∈ (PT.node p L s R).pl := fun z hz => by
        rw [htl] at hz
        rw [PT.pl_node]
        simp only [List.mem_append, List.mem_cons] at hz ⊢
        rcases hz with hz | hz <;> simp [hz]
      refine ⟨T', N', p, rfl, F2.ar, ((kw.trans' (F.same.mono fun _ _ h => .inl h)).trans' (k3.mono fun _ _ h => .inl h)).trans' (F2.same.mono fun _ _ h => .inl h), F2.lay, ?_, ?_, ?_, ?_⟩
      · have hRs : ∀ z, z ∈ R.pl → z ∈ (PT.node p L s R).pl := fun z hz => by rw [PT.pl_node]; simp [hz]
        exact (((Ch.set N hpT _).trans (F.ch.mono hRs)).trans (Ch.set N2 (hRs q (by rw [hpl]; simp)) _)).trans (F2.ch.mono hTs)
      · rw [t1]
        show _ = Tr.del Tr.joinG (Tr.node L.tr s R.tr) s
        rw [del_root]
        unfold Tr.joinG
        rw [F.pop]
      · rw [t3]
        exact List.perm_middle
      · rw [F2.ch.get p hpT', set_there hpq, F.ch.get p hpR]
        exact set_here hg.at_ _
    clear h hT h0 hd hz hg hs hpL hpR dL dR dLR c3 c4 ll1 lr1 z1 hpT hR
    have hr1 : ¬ ((R.root : Int) = 0) := by omega
    clear hr0
    generalize R.root = rr at *
    generalize L.root = lr at *
    go_enter Try.func42, Try.ntmps42
    go_upto_region 2 with fail
    generalize w.alloc (.cells #[.int .i64 lr, .int .i64 rr] 72 (0, 0)) = W at K0 HG ⊢
    generalize hgg : w.heap.size = g at HG hlb hln ⊢
    clear hgg f0 c3' c4'
    go_wp2_with fail
    refine Calls.mono (HRL.out _ K0.out) ?_
    rintro r w1 ⟨rfl, a1, k1⟩
    have HG1 : Hid (w1.heap[g]? = some (prO lr rr)) := (k1.block g (lt_of_heap HG.out) (by omega)).trans HG.out
    obtain ⟨b0, b1⟩ := pr_cells HG1.out
    have HP1 : Hid _ := HP.out _ a1
    have KW : Hid (Same (fun k => k = nb ∨ k = fb) w w1) := (Kept.to K0.out _).trans' k1
    clear a1 k1
    go_wp2_with fail
    refine Calls.mono HP1.out ?_
    rintro r w2 ⟨q, v, rfl, ⟨n', g0, g3, g4, gz⟩, lq, k2, LK⟩
    clear b0 b1
    obtain ⟨b0, b1⟩ := pr_cells ((k2.block g (lt_of_heap HG1.out) (by omega)).trans HG1.out)
    obtain ⟨m, R', N2, n2, F, A2, G2⟩ := LK.out
    have S3 : Hid (Same (fun k => k = nb) w2 ((w2.setCell ⟨nb, q * 8 + 3, none⟩ (.int .i64 lr)).setCell ⟨nb, q * 8 + 4, none⟩ (.int .i64 v))) := Same.setCell (S := fun k => k = nb) (Same.setCell (S := fun k => k = nb) (Same.refl _ w2) ⟨nb, q * 8 + 3, none⟩ (.inr rfl) _) ⟨nb, q * 8 + 4, none⟩ (.inr rfl) _
    have A2' : Hid _ := A2
    have F' : Hid (PartR w1 w2 fb nb cap p mv c e _ R q v m R' N2 n2) := F
    have G2' : Hid (Hg _ q L m R' _) := G2
    clear F A2 G2 LK k2
    have ng : ¬ g = nb := by omega
    have ng2 : ¬ nb = g := by omega
    go_upto_region 6 with fail
    go_region
    all_goals
      go_upto_region 7 with fail
      have A3 := Ar.drew A2'.out
      have S4 := Same.drew S3.out
      generalize World.drew ((w2.setCell ⟨nb, q * 8 + 3, none⟩ (.int .i64 lr)).setCell ⟨nb, q * 8 + 4, none⟩ (.int .i64 v)) = Z at A3 S4 ⊢
      have HB2 : Hid _ := HB.out _ _ _ _ _ _ A3 G2'.out (HZ.out _ _ _ F'.out.prs)
      have HF2 : Hid _ := fun w3 T' N' => HF.out w1 w2 Z w3 q v m R' N2 n2 T' N' KW.out S4 F'.out
      clear A3 S4 g0 g3 g4 gz b0 b1
      go_wp2_with fail
      refine Calls.mono HB2.out ?_
      rintro r w3 ⟨T', N', rfl, F2, t1, t2⟩
      have HB3 : Hid _ := HF2.out w3 T' N' F2 t1 t2
      clear F2 t1 t2
      generalize T'.root = tr' at HB3 ⊢
      go_wp2_with fail
      go_ret
      exact HB3.out
end Go.Proofs.Ytaiaahcblohknaa
