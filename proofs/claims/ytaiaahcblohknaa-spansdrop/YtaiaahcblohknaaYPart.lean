/- What is proved: parted takes the least node out of a tree, unroot its root, take a span that it has; the forest lies in memory. -/
import Derived.Test.YtaiaahcblohknaaYPut
import Derived.Test.YtaiaahcblohknaaYRel
namespace Go.Proofs.Ytaiaahcblohknaa
open Go.RowKit

/-- What parted answers and leaves. -/
structure PartR (w w' : World) (fb nb cap fr : Nat) (mv : Value) (c e : Int) (N : List Nd) (T : PT) (q v : Nat) (m : Sp) (R' : PT) (N' : List Nd) (n' : Nd) : Prop where
  v_ : R'.root = v
  ar : Ar w' fb nb cap fr mv c e N'
  same : Same (fun k => k = nb) w w'
  lay : Lay N' R'
  ch : Ch T.pl N N'
  pop : T.tr.popL = some (m, R'.tr)
  prs : T.prs = (q, m) :: R'.prs
  nd : N'[q]? = some n'
  ns : n'.s = m
def PartP (w : World) (fb nb cap fr : Nat) (mv : Value) (c e : Int) (N : List Nd) (T : PT) (r : Ending) (w' : World) : Prop :=
  ∃ (q v : Nat) (m : Sp) (R' : PT) (N' : List Nd) (n' : Nd), r = .returned (.tuple #[.int .i64 q, .int .i64 v]) ∧ PartR w w' fb nb cap fr mv c e N T q v m R' N' n'
abbrev prO (a b : Nat) : Obj := .cells #[.int .i64 a, .int .i64 b] 72 (0, 0)
theorem pr_cells {w : World} {g a b : Nat} (h : w.heap[g]? = some (prO a b)) : w.cell? ⟨g, 0, none⟩ = some (.int .i64 a) ∧ w.cell? ⟨g, 1, none⟩ = some (.int .i64 b) := ⟨(cell_of h 0).trans rfl, (cell_of h 1).trans rfl⟩
theorem PartR.from_ {w W w' : World} {fb nb cap fr : Nat} {mv : Value} {c e : Int} {N : List Nd} {T : PT} {q v : Nat} {m : Sp} {R' : PT} {N' : List Nd} {n' : Nd} (k : Kept w W) (h : PartR W w' fb nb cap fr mv c e N T q v m R' N' n') : PartR w w' fb nb cap fr mv c e N T q v m R' N' n' := { h with same := (Kept.to k _).trans' h.same }
set_option maxRecDepth 100000 in
set_option maxHeartbeats 3200000 in
theorem parted14 (fb nb cap fr : Nat) (mv : Value) (c e : Int) (T : PT) : ∀ (w : World) (N : List Nd), T ≠ .nil → Ar w fb nb cap fr mv c e N → Lay N T → N[0]? = some nd0 → T.pl.Nodup → T.tr.sz < 4611686018427387904 →
    Calls Try.prog 49 #[.pointer (some ⟨fb, 0, none⟩), .int .i64 (T.root : Nat)] w (PartP w fb nb cap fr mv c e N T) := by
  induction T with
  | nil => intro _ _ hn; exact absurd rfl hn
  | node p L s R ihl ihr =>
    intro w N _ h hT h0 hd hz
    clear ihr
    have hg := hT.hg hd h0
    have hs : (PT.node p L s R).tr.sz = L.tr.sz + R.tr.sz + 1 := Tr.sz_node _ _ _
    obtain ⟨hpL, hpR, dL, dR, dLR⟩ := hg.parts
    have l1 : (p : Int) < (N.length : Int) := by have := (h.node hg.at_).2; omega
    obtain ⟨f0, c3, c4, -⟩ := h.lnk hg.at_ rfl
    have c3' : w.cell? ⟨nb, p * 8 + 3, none⟩ = some (.int .i64 (L.root : Nat)) := c3
    have c4' : w.cell? ⟨nb, p * 8 + 4, none⟩ = some (.int .i64 (R.root : Nat)) := c4
    have K0 : Hid _ := (Same.refl (fun _ => False) w).alloc (prO L.root R.root)
    have HG : Hid _ := heap_new w (prO L.root R.root)
    have hlb := h.cells.2.1
    have hln := h.cells.2.2
    show Calls Try.prog 49 #[.pointer (some ⟨fb, 0, none⟩), .int .i64 (p : Int)] w _
    by_cases hL : L = .nil
    · subst hL
      have HE : Hid (∀ w', Kept w w' → PartP w fb nb cap fr mv c e N (.node p .nil s R) (.returned (.tuple #[.int .i64 p, .int .i64 (R.root : Nat)])) w') := fun w' k =>
        ⟨p, R.root, s, R, N, _, rfl, rfl, h.on k, Kept.to k _, hg.lr, Ch.refl _ _, rfl, rfl, hg.at_, rfl⟩
      clear h hT h0 hd hz hg hs hpL hpR dL dR dLR ihl c3 c4
      have er : (PT.nil.root : Nat) = 0 := rfl
      rw [er] at *
      generalize R.root = rr at *
      go_enter Try.func49, Try.ntmps49
      go_upto_region 2 with fail
      generalize w.alloc (.cells #[.int .i64 ((0 : Nat) : Int), .int .i64 rr] 72 (0, 0)) = W at K0 HG ⊢
      generalize w.heap.size = g at HG hlb hln ⊢
      obtain ⟨b0, b1⟩ := pr_cells HG.out
      go_wp2_with fail
      go_quiet (fail)
      go_wp2_with fail
      go_ret2
      exact HE.out _ (Same.drewN K0.out _)
    · have hr0 : L.root ≠ 0 := fun e => hL (root_zero hg.ll e)
      have HR : Hid (∀ W, Kept w W → Calls Try.prog 49 #[.pointer (some ⟨fb, 0, none⟩), .int .i64 (L.root : Nat)] W (fun r w2 => ∃ q v : Nat, r = .returned (.tuple #[.int .i64 q, .int .i64 v]) ∧ Lnk w2 fb nb cap N.length p (ndOf L s R) ∧ Hid (∃ m L' N1 n', PartR w w2 fb nb cap fr mv c e N L q v m L' N1 n' ∧ N1[p]? = some (ndOf L s R) ∧ Hg (N1.set p { ndOf L s R with l := v }) p L' s R { ndOf L s R with l := v }))) := fun W k => by
        refine (ihl W N hL (h.on k) hg.ll h0 dL (by omega)).mono ?_
        rintro r w2 ⟨q, v, m, L', N1, n', rfl, F⟩
        have hpl : L.pl = q :: L'.pl := by simp [PT.pl, F.prs]
        obtain ⟨g1, g2⟩ := hg.relinkL F.ch F.lay hpL hg.ll.zero_out (fun z hz e => dLR z e hz) (by
          have h9 := hg.nd
          rw [hpl] at h9
          exact (List.nodup_cons.1 h9).2)
        rw [F.v_] at g2
        exact ⟨q, v, rfl, F.ar.lnk g1 F.ch.len, m, L', N1, n', F.from_ k, g1, g2⟩
      have HB : Hid (∀ W N2 L' n2, Ar W fb nb cap fr mv c e N2 → Hg N2 p L' s R n2 → L'.tr.sz + R.tr.sz + 1 < 4611686018427387904 → _) := fun W N2 L' n2 hA9 hg9 hz9 => balance14 hA9 hg9 hz9
      have HZ : Hid (∀ q m L', L.prs = (q, m) :: PT.prs L' → L'.tr.sz + R.tr.sz + 1 < 4611686018427387904) := fun q m L' e => by
        have e1 : L.pl.length = L'.pl.length + 1 := by simp [PT.pl, e]
        rw [PT.pl_length, PT.pl_length] at e1
        omega
      have HF : Hid (∀ (w2 w3 : World) (q v : Nat) m L' N1 n' (v' : Nat) T' N', PartR w w2 fb nb cap fr mv c e N L q v m L' N1 n' → Fin (w2.setCell ⟨nb, p * 8 + 3, none⟩ (.int .i64 v)) w3 fb nb cap fr mv c e (N1.set p { ndOf L s R with l := v }) N' T' → T'.tr = Tr.fix L'.tr s R.tr → T'.prs = L'.prs ++ (p, s) :: R.prs → T'.root = v' → PartP w fb nb cap fr mv c e N (.node p L s R) (.returned (.tuple #[.int .i64 q, .int .i64 v'])) w3) := fun w2 w3 q v m L' N1 n' v' T' N' F F2 t1 t2 hv' => by
        have hpl : L.pl = q :: L'.pl := by simp [PT.pl, F.prs]
        have htl : T'.pl = L'.pl ++ p :: R.pl := by simp [PT.pl, t2]
        have hq : q ∉ T'.pl := by
          have h9 := hg.nd
          rw [hpl] at h9
          rw [htl]
          exact (List.nodup_cons.1 h9).1
        have hqp : q ≠ p := fun e => hq (by rw [htl, e]; simp)
        refine ⟨q, v', m, T', N', n', rfl, hv', F2.ar, (Same.setCell F.same ⟨nb, p * 8 + 3, none⟩ (.inr rfl) _).trans' F2.same, F2.lay, ?_, ?_, ?_, ?_, F.ns⟩
        · have hm : ∀ z, z ∈ L.pl → z ∈ (PT.node p L s R).pl := fun z hz => by rw [PT.pl_node]; simp [hz]
          refine ((F.ch.mono hm).trans (Ch.set N1 (by rw [PT.pl_node]; simp) _)).trans (F2.ch.mono fun z hz => ?_)
          rw [htl] at hz
          rw [PT.pl_node, hpl]
          simp only [List.mem_append, List.mem_cons] at hz ⊢
          rcases hz with hz | hz | hz <;> simp [hz]
        · show (Tr.node L.tr s R.tr).popL = _
          rw [t1]
          show (match L.tr.popL with | none => some (s, R.tr) | some (m, l') => some (m, Tr.fix l' s R.tr)) = _
          rw [F.pop]
        · show L.prs ++ (p, s) :: R.prs = _
          rw [t2, F.prs]
          rfl
        · rw [F2.ch.get q hq, set_there hqp]
          exact F.nd
      clear h hT h0 hd hz hg hs hpL hpR dL dR dLR ihl c3 c4 hL
      have hr1 : ¬ ((L.root : Int) = 0) := by omega
      clear hr0
      generalize R.root = rr at *
      generalize L.root = lr at *
      go_enter Try.func49, Try.ntmps49
      go_upto_region 2 with fail
      generalize w.alloc (.cells #[.int .i64 lr, .int .i64 rr] 72 (0, 0)) = W at K0 HG ⊢
      generalize w.heap.size = g at HG hlb hln ⊢
      obtain ⟨b0, b1⟩ := pr_cells HG.out
      clear f0 c3' c4'
      go_wp2_with fail
      refine Calls.mono (HR.out _ K0.out) ?_
      rintro r w2 ⟨q, v, rfl, ⟨g0, g3, g4, gz⟩, LK⟩
      obtain ⟨m, L', N1, n', F, P1, G1⟩ := LK.out
      have HB2 : Hid _ := HB.out _ _ _ _ (Ar.put F.ar P1 (j := 3) (v := .int .i64 v) (by decide) rfl) G1 (HZ.out q m L' F.prs)
      have HF2 : Hid _ := fun w3 v' T' N' => HF.out w2 w3 q v m L' N1 n' v' T' N' F
      clear F P1 G1 LK b0 b1
      go_wp2_with fail
      refine Calls.mono HB2.out ?_
      rintro r w3 ⟨T', N', rfl, F2, t1, t2⟩
      have HB3 : Hid _ := HF2.out w3 _ T' N' F2 t1 t2 rfl
      clear F2 t1 t2
      generalize T'.root = tr' at HB3 ⊢
      go_wp2_with fail
      go_ret2
      exact HB3.out
end Go.Proofs.Ytaiaahcblohknaa
