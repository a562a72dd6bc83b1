/- What is proved: lift turns a tree so that the node on one side of its root is the new root; the forest lies in memory. -/
import Derived.Test.YtaiaahcblohknaaYRfr
namespace Go.Proofs.Ytaiaahcblohknaa
open Go.RowKit

/-- What a call on the list of nodes leaves: the tree T, nothing but T's nodes turned. -/
structure Fin (w w' : World) (fb nb cap fr : Nat) (mv : Value) (c e : Int) (N N' : List Nd) (T : PT) : Prop where
  ar : Ar w' fb nb cap fr mv c e N'
  same : Same (fun k => k = nb) w w'
  lay : Lay N' T
  ch : Ch T.pl N N'
theorem hts {N : List Nd} {p : Nat} {L : PT} {s : Sp} {R : PT} {n : Nd} (h : Hg N p L s R n) (hz : L.tr.sz + R.tr.sz < 4611686018427387904) : ∃ x y, N[L.root]? = some x ∧ N[R.root]? = some y ∧ x.h < 4611686018427387904 ∧ y.h < 4611686018427387904 := by
  obtain ⟨x, ex, tx⟩ := h.ll.tells h.zero
  obtain ⟨y, ey, ty⟩ := h.lr.tells h.zero
  have h1 := Tr.ht_le_sz L.tr
  have h2 := Tr.ht_le_sz R.tr
  exact ⟨x, y, ex, ey, by rw [tx.h]; omega, by rw [ty.h]; omega⟩
/-- A node that hangs is worked out. -/
theorem refresh_hg {w : World} {fb nb cap fr : Nat} {mv : Value} {c e : Int} {N : List Nd} (h : Ar w fb nb cap fr mv c e N) {p : Nat} {L : PT} {s : Sp} {R : PT} {n : Nd} (hg : Hg N p L s R n) (hz : L.tr.sz + R.tr.sz < 4611686018427387904) :
    Calls Try.prog 47 #[.pointer (some ⟨fb, 0, none⟩), .int .i64 p] w fun r w' => r = .returned (.tuple #[]) ∧ ∃ N', Fin w w' fb nb cap fr mv c e N N' (.node p L s R) ∧ Ch [p] N N' := by
  obtain ⟨x, y, ex, ey, hx, hy⟩ := hts hg hz
  refine (refresh14 h p n x y hg.at_ (by rw [hg.l_]; exact ex) (by rw [hg.r_]; exact ey) ⟨hx, hy⟩).mono ?_
  rintro r w' ⟨rfl, a, k⟩
  exact ⟨rfl, _, ⟨a, k, hg.done ex ey, Ch.set N (by rw [PT.pl_node]; simp) _⟩, Ch.set N (by simp) _⟩
set_option maxRecDepth 100000 in
set_option maxHeartbeats 1600000 in
theorem liftR14 {w : World} {fb nb cap fr : Nat} {mv : Value} {c e : Int} {N : List Nd} (h : Ar w fb nb cap fr mv c e N) {p u : Nat} {a b R : PT} {s x : Sp} {n : Nd} (hg : Hg N p (.node u a x b) s R n) (hz : a.tr.sz + b.tr.sz + R.tr.sz + 1 < 4611686018427387904) :
    Calls Try.prog 46 #[.pointer (some ⟨fb, 0, none⟩), .int .i64 p, .int .i64 0] w fun r w' => r = .returned (.int .i64 u) ∧ ∃ N', Fin w w' fb nb cap fr mv c e N N' (PT.node u a x (.node p b s R)) := by
  obtain ⟨hg1, hg2⟩ := hg.liftR
  have hu : N[u]? = some (ndOf a x b) := hg.ll.2.1
  have hnu : n.l = u := hg.l_
  have hpu : ¬ p = u := fun e => hg.parts.1 (by rw [PT.pl_node, e]; simp)
  have hup : ¬ u = p := fun e => hpu e.symm
  have HA : Hid _ := h
  have HP : Hid _ := hg.at_
  have HU : Hid _ := hu
  have HR1 : Hid (∀ W1, Ar W1 fb nb cap fr mv c e _ → _) := fun W1 hA => refresh_hg hA hg1 (by omega)
  have HR2 : Hid (∀ w1 N1, Ar w1 fb nb cap fr mv c e N1 → Lay N1 (PT.node p b s R) → Ch [p] _ N1 → _) := fun w1 N1 hA hL hC => refresh_hg hA (hg2 N1 hC hL) (by show a.tr.sz + (Tr.node b.tr s R.tr).sz < _; rw [Tr.sz_node]; omega)
  obtain ⟨⟨f0, -⟩, -⟩ := h.cells
  obtain ⟨⟨-, -, -, n3, n4, -, -, -⟩, lp⟩ := h.node hg.at_
  obtain ⟨⟨-, -, -, u3, u4, -, -, -⟩, lu⟩ := h.node hu
  rw [hnu] at n3
  have zf := fun o => h.nodes.frozen o
  have l1 : (p : Int) < (N.length : Int) := by omega
  have l2 : (u : Int) < (N.length : Int) := by omega
  have eu3 : (ndOf a x b).l = a.root := rfl
  have eu4 : (ndOf a x b).r = b.root := rfl
  rw [eu3] at u3
  rw [eu4] at u4
  have q1 := h.put (i := p) (j := 3) (y := { n with l := b.root }) hg.at_ (by decide) (v := .int .i64 b.root) rfl
  have s1 : Same (fun k => k = nb) w (w.setCell ⟨nb, p * 8 + 3, none⟩ (.int .i64 b.root)) := Same.setCell (S := fun k => k = nb) (Same.refl _ w) ⟨nb, p * 8 + 3, none⟩ (.inr rfl) _
  have hC : Hid (∀ N1 N2, Ch [p] ((N.set p { n with l := b.root }).set u { ndOf a x b with r := p }) N1 → Ch (PT.pl (PT.node u a x (.node p b s R))) N1 N2 → Ch (PT.pl (PT.node u a x (.node p b s R))) N N2) := fun N1 N2 h1 h2 => by
    have hp9 : p ∈ PT.pl (PT.node u a x (.node p b s R)) := by simp [PT.pl_node]
    have hu9 : u ∈ PT.pl (PT.node u a x (.node p b s R)) := by simp [PT.pl_node]
    exact (((Ch.set N hp9 _).trans (Ch.set _ hu9 _)).trans (h1.mono (by simpa using hp9))).trans h2
  clear h hg hg1 hg2 hu hnu hz eu3 eu4 lp lu
  go_enter Try.func46, Try.ntmps46
  go_upto_region 2 with fail
  go_region
  all_goals
    go_upto_region 3 with fail
    have hA1 := Ar.drew q1
    have hS1 := Same.drew s1
    clear q1 s1 n3 n4 u3 u4 zf f0
    generalize World.drew (w.setCell ⟨nb, p * 8 + 3, none⟩ (.int .i64 b.root)) = W1 at hA1 hS1 ⊢
    have hu1 : (N.set p { n with l := b.root })[u]? = some (ndOf a x b) := (set_there hup _).trans HU.out
    obtain ⟨⟨f0, -⟩, -⟩ := hA1.cells
    obtain ⟨⟨-, -, -, u3, u4, -, -, -⟩, lu⟩ := hA1.node hu1
    have zf := fun o => hA1.nodes.frozen o
    have q2 := hA1.put (i := u) (j := 4) (y := { ndOf a x b with r := p }) hu1 (by decide) (v := .int .i64 p) rfl
    have S2 : Hid (Same (fun k => k = nb) w (W1.setCell ⟨nb, u * 8 + 4, none⟩ (.int .i64 p))) := Same.setCell hS1 ⟨nb, u * 8 + 4, none⟩ (.inr rfl) _
    have Q2 : Hid _ := q2
    rw [List.length_set] at f0
    clear q2 hA1 hu1 hS1 lu
    go_wp2_with fail
    refine Calls.mono (HR1.out _ Q2.out) ?_
    rintro r w2 ⟨rfl, N1, F1, C1⟩
    have F1' : Hid (Fin _ w2 fb nb cap fr mv c e _ N1 _) := F1
    have C1' : Hid (Ch [p] _ N1) := C1
    clear F1 C1
    go_wp2_with fail
    refine Calls.mono (HR2.out _ _ F1'.out.ar F1'.out.lay C1'.out) ?_
    rintro r w3 ⟨rfl, N2, F2, -⟩
    have F2' : Hid (Fin w2 w3 fb nb cap fr mv c e N1 N2 _) := F2
    clear F2
    go_wp2_with fail
    go_ret
    exact ⟨rfl, N2, F2'.out.ar, (Same.trans' S2.out F1'.out.same).trans' F2'.out.same, F2'.out.lay, hC.out _ _ C1'.out F2'.out.ch⟩
set_option maxRecDepth 100000 in
set_option maxHeartbeats 1600000 in
theorem liftL14 {w : World} {fb nb cap fr : Nat} {mv : Value} {c e : Int} {N : List Nd} (h : Ar w fb nb cap fr mv c e N) {p u : Nat} {a b L : PT} {s x : Sp} {n : Nd} (hg : Hg N p L s (.node u a x b) n) (hz : a.tr.sz + b.tr.sz + L.tr.sz + 1 < 4611686018427387904) :
    Calls Try.prog 46 #[.pointer (some ⟨fb, 0, none⟩), .int .i64 p, .int .i64 1] w fun r w' => r = .returned (.int .i64 u) ∧ ∃ N', Fin w w' fb nb cap fr mv c e N N' (PT.node u (.node p L s a) x b) := by
  obtain ⟨hg1, hg2⟩ := hg.liftL
  have hu : N[u]? = some (ndOf a x b) := hg.lr.2.1
  have hnu : n.r = u := hg.r_
  have hpu : ¬ p = u := fun e => hg.parts.2.1 (by rw [PT.pl_node, e]; simp)
  have hup : ¬ u = p := fun e => hpu e.symm
  have HA : Hid _ := h
  have HP : Hid _ := hg.at_
  have HU : Hid _ := hu
  have HR1 : Hid (∀ W1, Ar W1 fb nb cap fr mv c e _ → _) := fun W1 hA => refresh_hg hA hg1 (by omega)
  have HR2 : Hid (∀ w1 N1, Ar w1 fb nb cap fr mv c e N1 → Lay N1 (PT.node p L s a) → Ch [p] _ N1 → _) := fun w1 N1 hA hL hC => refresh_hg hA (hg2 N1 hC hL) (by show (Tr.node L.tr s a.tr).sz + b.tr.sz < _; rw [Tr.sz_node]; omega)
  obtain ⟨⟨f0, -⟩, -⟩ := h.cells
  obtain ⟨⟨-, -, -, n3, n4, -, -, -⟩, lp⟩ := h.node hg.at_
  obtain ⟨⟨-, -, -, u3, u4, -, -, -⟩, lu⟩ := h.node hu
  rw [hnu] at n4
  have zf := fun o => h.nodes.frozen o
  have l1 : (p : Int) < (N.length : Int) := by omega
  have l2 : (u : Int) < (N.length : Int) := by omega
  have eu3 : (ndOf a x b).l = a.root := rfl
  have eu4 : (ndOf a x b).r = b.root := rfl
  rw [eu3] at u3
  rw [eu4] at u4
  have q1 := h.put (i := p) (j := 4) (y := { n with r := a.root }) hg.at_ (by decide) (v := .int .i64 a.root) rfl
  have s1 : Same (fun k => k = nb) w (w.setCell ⟨nb, p * 8 + 4, none⟩ (.int .i64 a.root)) := Same.setCell (S := fun k => k = nb) (Same.refl _ w) ⟨nb, p * 8 + 4, none⟩ (.inr rfl) _
  have hC : Hid (∀ N1 N2, Ch [p] ((N.set p { n with r := a.root }).set u { ndOf a x b with l := p }) N1 → Ch (PT.pl (PT.node u (.node p L s a) x b)) N1 N2 → Ch (PT.pl (PT.node u (.node p L s a) x b)) N N2) := fun N1 N2 h1 h2 => by
    have hp9 : p ∈ PT.pl (PT.node u (.node p L s a) x b) := by simp [PT.pl_node]
    have hu9 : u ∈ PT.pl (PT.node u (.node p L s a) x b) := by simp [PT.pl_node]
    exact (((Ch.set N hp9 _).trans (Ch.set _ hu9 _)).trans (h1.mono (by simpa using hp9))).trans h2
  clear h hg hg1 hg2 hu hnu hz eu3 eu4 lp lu
  go_enter Try.func46, Try.ntmps46
  go_upto_region 2 with fail
  go_region
  all_goals
    go_upto_region 3 with fail
    have hA1 := Ar.drew q1
    have hS1 := Same.drew s1
    clear q1 s1 n3 n4 u3 u4 zf f0
    generalize World.drew (w.setCell ⟨nb, p * 8 + 4, none⟩ (.int .i64 a.root)) = W1 at hA1 hS1 ⊢
    have hu1 : (N.set p { n with r := a.root })[u]? = some (ndOf a x b) := (set_there hup _).trans HU.out
    obtain ⟨⟨f0, -⟩, -⟩ := hA1.cells
    obtain ⟨⟨-, -, -, u3, u4, -, -, -⟩, lu⟩ := hA1.node hu1
    have zf := fun o => hA1.nodes.frozen o
    have q2 := hA1.put (i := u) (j := 3) (y := { ndOf a x b with l := p }) hu1 (by decide) (v := .int .i64 p) rfl
    have S2 : Hid (Same (fun k => k = nb) w (W1.setCell ⟨nb, u * 8 + 3, none⟩ (.int .i64 p))) := Same.setCell hS1 ⟨nb, u * 8 + 3, none⟩ (.inr rfl) _
    have Q2 : Hid _ := q2
    rw [List.length_set] at f0
    clear q2 hA1 hu1 hS1 lu
    go_wp2_with fail
    refine Calls.mono (HR1.out _ Q2.out) ?_
    rintro r w2 ⟨rfl, N1, F1, C1⟩
    have F1' : Hid (Fin _ w2 fb nb cap fr mv c e _ N1 _) := F1
    have C1' : Hid (Ch [p] _ N1) := C1
    clear F1 C1
    go_wp2_with fail
    refine Calls.mono (HR2.out _ _ F1'.out.ar F1'.out.lay C1'.out) ?_
    rintro r w3 ⟨rfl, N2, F2, -⟩
    have F2' : Hid (Fin w2 w3 fb nb cap fr mv c e N1 N2 _) := F2
    clear F2
    go_wp2_with fail
    go_ret
    exact ⟨rfl, N2, F2'.out.ar, (Same.trans' S2.out F1'.out.same).trans' F2'.out.same, F2'.out.lay, hC.out _ _ C1'.out F2'.out.ch⟩
end Go.Proofs.Ytaiaahcblohknaa
