/- What is proved: balance, whatever the heights; put hangs a tree of one span into a tree that lacks it; the forest lies in memory. -/
import Derived.Test.YtaiaahcblohknaaYBalA
import Derived.Test.YtaiaahcblohknaaYBalB
namespace Go.Proofs.Ytaiaahcblohknaa
open Go.RowKit

theorem balance14 {w : World} {fb nb cap fr : Nat} {mv : Value} {c e : Int} {N : List Nd} (h : Ar w fb nb cap fr mv c e N) {p : Nat} {L R : PT} {s : Sp} {n : Nd} (hg : Hg N p L s R n) (hz : L.tr.sz + R.tr.sz + 1 < 4611686018427387904) :
    Calls Try.prog 40 #[.pointer (some ⟨fb, 0, none⟩), .int .i64 p] w (BalP w fb nb cap fr mv c e N p L s R) := by
  have z0 : PT.nil.tr.ht = 0 := rfl
  by_cases hA : R.tr.ht + 1 < L.tr.ht
  · cases L with
    | nil => omega
    | node u a x b =>
      have hs : (PT.node u a x b).tr.sz = a.tr.sz + b.tr.sz + 1 := Tr.sz_node _ _ _
      by_cases hk : a.tr.ht < b.tr.ht
      · cases b with
        | nil => omega
        | node v b1 y b2 =>
          have hs2 : (PT.node v b1 y b2).tr.sz = b1.tr.sz + b2.tr.sz + 1 := Tr.sz_node _ _ _
          exact balA1 h hg (by omega) hA hk
      · exact balA2 h hg (by omega) hA hk
  · by_cases hB : L.tr.ht + 1 < R.tr.ht
    · cases R with
      | nil => omega
      | node u a x b =>
        have hs : (PT.node u a x b).tr.sz = a.tr.sz + b.tr.sz + 1 := Tr.sz_node _ _ _
        by_cases hk : b.tr.ht < a.tr.ht
        · cases a with
          | nil => omega
          | node v b1 y b2 =>
            have hs2 : (PT.node v b1 y b2).tr.sz = b1.tr.sz + b2.tr.sz + 1 := Tr.sz_node _ _ _
            exact balB1 h hg (by omega) hB hk
        · exact balB2 h hg (by omega) hB hk
    · exact balC h hg hz (by omega) (by omega)
/-- A tree of one span. -/
abbrev leaf (q : Nat) (x : Sp) : PT := .node q .nil x .nil
/-- What put answers and leaves. -/
def PutP (w : World) (fb nb cap fr : Nat) (mv : Value) (c e : Int) (N : List Nd) (q : Nat) (x : Sp) (T : PT) (r : Ending) (w' : World) : Prop :=
  ∃ T' N', r = .returned (.int .i64 (T'.root : Nat)) ∧ Fin w w' fb nb cap fr mv c e N N' T' ∧ T'.tr = T.tr.ins x ∧ T'.prs.Perm ((q, x) :: T.prs)
theorem pl_perm {T T' : PT} {q : Nat} {x : Sp} (h : T'.prs.Perm ((q, x) :: T.prs)) : T'.pl.Perm (q :: T.pl) := by
  show (T'.prs.map (fun z => z.1)).Perm (((q, x) :: T.prs).map (fun z => z.1))
  exact List.Perm.map _ h
/-- The tree on the left is a new one. -/
def LinkL (w w2 : World) (fb nb cap fr : Nat) (mv : Value) (c e : Int) (N : List Nd) (p : Nat) (s : Sp) (R : PT) (n : Nd) (Z : PT → Prop) (v : Nat) : Prop :=
  ∃ L' N1, L'.root = v ∧ Fin w w2 fb nb cap fr mv c e N N1 L' ∧ N1[p]? = some n ∧ Hg (N1.set p { n with l := v }) p L' s R { n with l := v } ∧ Z L'
def LinkR (w w2 : World) (fb nb cap fr : Nat) (mv : Value) (c e : Int) (N : List Nd) (p : Nat) (s : Sp) (L : PT) (n : Nd) (Z : PT → Prop) (v : Nat) : Prop :=
  ∃ R' N1, R'.root = v ∧ Fin w w2 fb nb cap fr mv c e N N1 R' ∧ N1[p]? = some n ∧ Hg (N1.set p { n with r := v }) p L s R' { n with r := v } ∧ Z R'
theorem ins_less {l r : Tr} {s x : Sp} (h : sl x s = true) : (Tr.node l s r).ins x = Tr.fix (l.ins x) s r := by
  show (if sl x s = true then _ else if sl s x = true then _ else _) = _
  rw [if_pos h]
theorem ins_more {l r : Tr} {s x : Sp} (h : sl x s = false) (k : sl s x = true) : (Tr.node l s r).ins x = Tr.fix l s (r.ins x) := by
  show (if sl x s = true then _ else if sl s x = true then _ else _) = _
  rw [if_neg (by rw [h]; decide), if_pos k]
theorem sd_true : sd true = 0 := rfl
theorem sd_false : sd false = 1 := rfl
set_option maxRecDepth 100000 in
set_option maxHeartbeats 3200000 in
theorem put14 (fb nb cap fr : Nat) (mv : Value) (c e : Int) (q : Nat) (x : Sp) (T : PT) : ∀ (w : World) (N : List Nd), Ar w fb nb cap fr mv c e N → Lay N T → N[0]? = some nd0 → Lay N (leaf q x) → (q :: T.pl).Nodup → x ∉ T.tr.list → T.tr.sz + 1 < 4611686018427387904 →
    Calls Try.prog 29 #[.pointer (some ⟨fb, 0, none⟩), .int .i64 (T.root : Nat), .int .i64 q] w (PutP w fb nb cap fr mv c e N q x T) := by
  induction T with
  | nil =>
    intro w N h _ _ hq _ _ _
    have HE : Hid (PutP w fb nb cap fr mv c e N q x .nil (.returned (.int .i64 q)) w) := ⟨leaf q x, N, rfl, ⟨h, Same.refl _ _, hq, Ch.refl _ _⟩, rfl, by simp [PT.prs]⟩
    clear hq h
    show Calls Try.prog 29 #[.pointer (some ⟨fb, 0, none⟩), .int .i64 ((0 : Nat) : Int), .int .i64 q] w _
    go_enter Try.func29, Try.ntmps29
    go_wp2_with fail
    go_ret
    exact HE.out
  | node p L s R ihl ihr =>
    intro w N h hT h0 hq hd hx hz
    have hd2 := (List.nodup_cons.1 hd).2
    have hqT := (List.nodup_cons.1 hd).1
    have hg := hT.hg hd2 h0
    rw [PT.pl_node] at hd hqT
    have hs : (PT.node p L s R).tr.sz = L.tr.sz + R.tr.sz + 1 := Tr.sz_node _ _ _
    have hxl : x ∉ L.tr.list ∧ x ≠ s ∧ x ∉ R.tr.list := by
      have : x ∉ L.tr.list ++ s :: R.tr.list := hx
      simpa using this
    have hqn : N[q]? = some (ndOf .nil x .nil) := hq.2.1
    obtain ⟨hpL, hpR, dL, dR, dLR⟩ := hg.parts
    have hqp : q ≠ p := fun e => hqT (by simp [e])
    have hqL : q ∉ L.pl := fun e => hqT (by simp [e])
    have hqR : q ∉ R.pl := fun e => hqT (by simp [e])
    have p0 : p ≠ 0 := hg.p0
    have hp0 : ¬ ((p : Int) = 0) := by omega
    have q0 : q ≠ 0 := hq.1
    have HS : Hid (∀ W, Kept w W → _) := fun W k => side14 (h.on k) p (ndOf L s R) hg.at_ x
    have HC : Hid (∀ W, Kept w W → Lnk W fb nb cap N.length p (ndOf L s R) ∧ W.cell? ⟨nb, q * 8, none⟩ = some (.int .i64 x.f) ∧ W.cell? ⟨nb, q * 8 + 1, none⟩ = some (.int .i64 x.t) ∧ W.cell? ⟨nb, q * 8 + 2, none⟩ = some (.int .i64 x.i)) := fun W k =>
      ⟨(h.on k).lnk hg.at_ rfl, (((h.on k).node hqn).1).span⟩
    have l1 : (p : Int) < (N.length : Int) := by have := (h.node hg.at_).2; omega
    have l2 : (q : Int) < (N.length : Int) := by have := (h.node hqn).2; omega
    have HB : Hid (∀ W N2 L' R' n2, Ar W fb nb cap fr mv c e N2 → Hg N2 p L' s R' n2 → L'.tr.sz + R'.tr.sz + 1 < 4611686018427387904 → _) := fun W N2 L' R' n2 hA9 hg9 hz9 => balance14 hA9 hg9 hz9
    cases hsl : sl x s
    · -- on the right
      have hsr : sl s x = true := by
        cases hc : sl s x
        · exact absurd (sl_eq hsl hc) hxl.2.1
        · rfl
      have HR : Hid (∀ W, Kept w W → Calls Try.prog 29 #[.pointer (some ⟨fb, 0, none⟩), .int .i64 (R.root : Nat), .int .i64 q] W fun r w2 => ∃ v : Nat, r = .returned (.int .i64 v) ∧ Lnk w2 fb nb cap N.length p (ndOf L s R) ∧ LinkR w w2 fb nb cap fr mv c e N p s L (ndOf L s R) (fun X' => X'.tr = R.tr.ins x ∧ X'.prs.Perm ((q, x) :: R.prs)) v) := fun W k => by
        refine (ihr W N (h.on k) hg.lr h0 hq (List.nodup_cons.2 ⟨hqR, dR⟩) hxl.2.2 (by omega)).mono ?_
        rintro r w2 ⟨X', N1, rfl, F, e1, e2⟩
        have pm := pl_perm e2
        have ms : ∀ z, z ∈ X'.pl ↔ z = q ∨ z ∈ R.pl := fun z => by rw [pm.mem_iff, List.mem_cons]
        obtain ⟨g1, g2⟩ := hg.relinkR F.ch F.lay (fun e => by rcases (ms p).1 e with e | e; exact hqp e.symm; exact hpR e) (fun e => by rcases (ms 0).1 e with e | e; exact q0 e.symm; exact hg.lr.zero_out e) (fun z h5 e => by rcases (ms z).1 e with e | e; exact hqL (e ▸ h5); exact dLR z h5 e)
          (by
            refine List.nodup_append.2 ⟨dL, List.nodup_cons.2 ⟨fun e => ?_, pm.nodup_iff.2 (List.nodup_cons.2 ⟨hqR, dR⟩)⟩, fun z h5 y hy e => ?_⟩
            · rcases (ms p).1 e with e | e; exact hqp e.symm; exact hpR e
            · subst e
              rcases List.mem_cons.1 hy with rfl | hy
              · exact hpL h5
              · rcases (ms z).1 hy with e | e; exact hqL (e ▸ h5); exact dLR z h5 e)
        exact ⟨_, rfl, F.ar.lnk g1 F.ch.len, X', N1, rfl, F.from_ k, g1, g2, e1, e2⟩
      have HZ : Hid (∀ X' : PT, X'.prs.Perm ((q, x) :: R.prs) → (L.tr.sz + X'.tr.sz) + 1 < 4611686018427387904) := fun X' e2 => by
        have := (pl_perm e2).length_eq
        rw [PT.pl_length, List.length_cons, PT.pl_length] at this
        omega
      have HF : Hid (∀ (w2 w3 : World) (v : Nat) (r : Ending) (X' : PT) (N1 : List Nd), Fin w w2 fb nb cap fr mv c e N N1 X' → X'.tr = R.tr.ins x → X'.prs.Perm ((q, x) :: R.prs) → BalP (w2.setCell ⟨nb, p * 8 + 4, none⟩ (.int .i64 v)) fb nb cap fr mv c e (N1.set p { ndOf L s R with r := v }) p L s X' r w3 → PutP w fb nb cap fr mv c e N q x (.node p L s R) r w3) := fun w2 w3 v r X' N1 F e1 e2 B => by
        obtain ⟨T', N', rfl, F2, t1, t2⟩ := B
        refine ⟨T', N', rfl, ⟨F2.ar, (Same.setCell F.same ⟨nb, p * 8 + 4, none⟩ (.inr rfl) _).trans' F2.same, F2.lay, ?_⟩, by rw [t1, e1]; exact (ins_more hsl hsr).symm, ?_⟩
        · have ht : T'.pl = L.pl ++ p :: X'.pl := by simp [PT.pl, t2]
          exact ((F.ch.mono (fun z h5 => by rw [ht]; simp [h5])).trans (Ch.set N1 (by rw [ht]; simp) _)).trans F2.ch
        · rw [t2]
          show (L.prs ++ (p, s) :: X'.prs).Perm ((q, x) :: (L.prs ++ (p, s) :: R.prs))
          refine ((e2.cons (p, s)).append_left L.prs).trans ?_
          have : (L.prs ++ (p, s) :: (q, x) :: R.prs).Perm (L.prs ++ (q, x) :: (p, s) :: R.prs) := (List.Perm.swap _ _ _).append_left _
          exact this.trans List.perm_middle
      rw [show (ndOf L s R).s = s from rfl, hsl] at HS
      simp only [sd_false] at HS
      obtain ⟨⟨f0, -, -, -⟩, k0, k1, k2⟩ := HC.out w (Same.refl _ w)
      have EC : Hid (∀ W : World, W.cell? ⟨nb, p * 8 + 4, none⟩ = some (.int .i64 ((ndOf L s R).r : Nat)) → W.cell? ⟨nb, p * 8 + 4, none⟩ = some (.int .i64 (R.root : Nat))) := fun W hW => hW
      clear h hT h0 hq hd hx hz hd2 hqT hg hs hxl hqn hpL hpR dL dR dLR hqp hqL hqR q0 hsl ihl ihr hsr
      show Calls Try.prog 29 #[.pointer (some ⟨fb, 0, none⟩), .int .i64 (p : Int), .int .i64 q] w _
      go_enter Try.func29, Try.ntmps29
      go_wp2_with fail
      refine Calls.mono (HS.out _ (Same.refl _ w)) ?_
      rintro r w1 ⟨rfl, kk⟩
      have KK : Hid (Kept w w1) := kk
      clear f0 k0 k1 k2
      obtain ⟨⟨f0, c3, c4, zf⟩, -⟩ := HC.out w1 kk
      have c9 := EC.out _ c4
      clear kk c3 c4 HC HS
      generalize R.root = rr at *
      go_wp2_with fail
      go_region_with ((go_at_call 29; refine Calls.mono (HR.out _ (by (repeat (first | exact KK.out | apply Same.drew | apply Same.drewN)); done)) ?_; rintro r w2 ⟨v, rfl, ⟨g0, g3, g4, gz⟩, LK⟩; have LK' : Hid (LinkR w w2 fb nb cap fr mv c e N p s L (ndOf L s R) (fun X' => X'.tr = R.tr.ins x ∧ X'.prs.Perm ((q, x) :: R.prs)) v) := LK; clear LK))
      all_goals
        obtain ⟨X', N1, hv, F, P1, G1, e1, e2⟩ := LK'.out
        have HB2 : Hid _ := HB.out _ _ _ _ _ (Ar.put F.ar P1 (j := 4) (v := .int .i64 v) (by decide) rfl) G1 (HZ.out X' e2)
        have HF2 : Hid _ := fun r w3 => HF.out w2 w3 v r X' N1 F e1 e2
        clear hv F P1 G1 e1 e2
        go_wp2_with fail
        refine Calls.mono HB2.out ?_
        rintro r w3 ⟨T', N', rfl, B⟩
        have HB3 : Hid _ := HF2.out _ _ ⟨T', N', rfl, B⟩
        clear B
        generalize T'.root = tr' at HB3 ⊢
        go_wp2_with fail
        go_ret
        exact HB3.out
    · -- on the left
      have HR : Hid (∀ W, Kept w W → Calls Try.prog 29 #[.pointer (some ⟨fb, 0, none⟩), .int .i64 (L.root : Nat), .int .i64 q] W fun r w2 => ∃ v : Nat, r = .returned (.int .i64 v) ∧ Lnk w2 fb nb cap N.length p (ndOf L s R) ∧ LinkL w w2 fb nb cap fr mv c e N p s R (ndOf L s R) (fun X' => X'.tr = L.tr.ins x ∧ X'.prs.Perm ((q, x) :: L.prs)) v) := fun W k => by
        refine (ihl W N (h.on k) hg.ll h0 hq (List.nodup_cons.2 ⟨hqL, dL⟩) hxl.1 (by omega)).mono ?_
        rintro r w2 ⟨X', N1, rfl, F, e1, e2⟩
        have pm := pl_perm e2
        have ms : ∀ z, z ∈ X'.pl ↔ z = q ∨ z ∈ L.pl := fun z => by rw [pm.mem_iff, List.mem_cons]
        obtain ⟨g1, g2⟩ := hg.relinkL F.ch F.lay (fun e => by rcases (ms p).1 e with e | e; exact hqp e.symm; exact hpL e) (fun e => by rcases (ms 0).1 e with e | e; exact q0 e.symm; exact hg.ll.zero_out e) (fun z h5 e => by rcases (ms z).1 e with e | e; exact hqR (e ▸ h5); exact dLR z e h5)
          (by
            refine List.nodup_append.2 ⟨pm.nodup_iff.2 (List.nodup_cons.2 ⟨hqL, dL⟩), List.nodup_cons.2 ⟨hpR, dR⟩, fun z h5 y hy e => ?_⟩
            subst e
            rcases List.mem_cons.1 hy with rfl | hy
            · rcases (ms z).1 h5 with e | e; exact hqp e.symm; exact hpL e
            · rcases (ms z).1 h5 with e | e; exact hqR (e ▸ hy); exact dLR z e hy)
        exact ⟨_, rfl, F.ar.lnk g1 F.ch.len, X', N1, rfl, F.from_ k, g1, g2, e1, e2⟩
      have HZ : Hid (∀ X' : PT, X'.prs.Perm ((q, x) :: L.prs) → (X'.tr.sz + R.tr.sz) + 1 < 4611686018427387904) := fun X' e2 => by
        have := (pl_perm e2).length_eq
        rw [PT.pl_length, List.length_cons, PT.pl_length] at this
        omega
      have HF : Hid (∀ (w2 w3 : World) (v : Nat) (r : Ending) (X' : PT) (N1 : List Nd), Fin w w2 fb nb cap fr mv c e N N1 X' → X'.tr = L.tr.ins x → X'.prs.Perm ((q, x) :: L.prs) → BalP (w2.setCell ⟨nb, p * 8 + 3, none⟩ (.int .i64 v)) fb nb cap fr mv c e (N1.set p { ndOf L s R with l := v }) p X' s R r w3 → PutP w fb nb cap fr mv c e N q x (.node p L s R) r w3) := fun w2 w3 v r X' N1 F e1 e2 B => by
        obtain ⟨T', N', rfl, F2, t1, t2⟩ := B
        refine ⟨T', N', rfl, ⟨F2.ar, (Same.setCell F.same ⟨nb, p * 8 + 3, none⟩ (.inr rfl) _).trans' F2.same, F2.lay, ?_⟩, by rw [t1, e1]; exact (ins_less hsl).symm, ?_⟩
        · have ht : T'.pl = X'.pl ++ p :: R.pl := by simp [PT.pl, t2]
          exact ((F.ch.mono (fun z h5 => by rw [ht]; simp [h5])).trans (Ch.set N1 (by rw [ht]; simp) _)).trans F2.ch
        · rw [t2]
          show (X'.prs ++ (p, s) :: R.prs).Perm ((q, x) :: (L.prs ++ (p, s) :: R.prs))
          exact e2.append_right _
      rw [show (ndOf L s R).s = s from rfl, hsl] at HS
      simp only [sd_true] at HS
      obtain ⟨⟨f0, -, -, -⟩, k0, k1, k2⟩ := HC.out w (Same.refl _ w)
      have EC : Hid (∀ W : World, W.cell? ⟨nb, p * 8 + 3, none⟩ = some (.int .i64 ((ndOf L s R).l : Nat)) → W.cell? ⟨nb, p * 8 + 3, none⟩ = some (.int .i64 (L.root : Nat))) := fun W hW => hW
      clear h hT h0 hq hd hx hz hd2 hqT hg hs hxl hqn hpL hpR dL dR dLR hqp hqL hqR q0 hsl ihl ihr
      show Calls Try.prog 29 #[.pointer (some ⟨fb, 0, none⟩), .int .i64 (p : Int), .int .i64 q] w _
      go_enter Try.func29, Try.ntmps29
      go_wp2_with fail
      refine Calls.mono (HS.out _ (Same.refl _ w)) ?_
      rintro r w1 ⟨rfl, kk⟩
      have KK : Hid (Kept w w1) := kk
      clear f0 k0 k1 k2
      obtain ⟨⟨f0, c3, c4, zf⟩, -⟩ := HC.out w1 kk
      have c9 := EC.out _ c3
      clear kk c3 c4 HC HS
      generalize L.root = rr at *
      go_wp2_with fail
      go_region_with ((go_at_call 29; refine Calls.mono (HR.out _ (by (repeat (first | exact KK.out | apply Same.drew | apply Same.drewN)); done)) ?_; rintro r w2 ⟨v, rfl, ⟨g0, g3, g4, gz⟩, LK⟩; have LK' : Hid (LinkL w w2 fb nb cap fr mv c e N p s R (ndOf L s R) (fun X' => X'.tr = L.tr.ins x ∧ X'.prs.Perm ((q, x) :: L.prs)) v) := LK; clear LK))
      all_goals
        obtain ⟨X', N1, hv, F, P1, G1, e1, e2⟩ := LK'.out
        have HB2 : Hid _ := HB.out _ _ _ _ _ (Ar.put F.ar P1 (j := 3) (v := .int .i64 v) (by decide) rfl) G1 (HZ.out X' e2)
        have HF2 : Hid _ := fun r w3 => HF.out w2 w3 v r X' N1 F e1 e2
        clear hv F P1 G1 e1 e2
        go_wp2_with fail
        refine Calls.mono HB2.out ?_
        rintro r w3 ⟨T', N', rfl, B⟩
        have HB3 : Hid _ := HF2.out _ _ ⟨T', N', rfl, B⟩
        clear B
        generalize T'.root = tr' at HB3 ⊢
        go_wp2_with fail
        go_ret
        exact HB3.out
end Go.Proofs.Ytaiaahcblohknaa
