/- What is proved: a source that waited comes in and plays its matches from its leaf upwards; the tree is one that New made. -/
import Derived.Test.YtolaeiagfnhllaaTTree
namespace Go.Proofs.Ytolaeiagfnhllaa
open Go.RowKit

/-- A source as a value. -/
def srcV (s : Sr) : Value := .agg #[.int .i64 s.code, .int .i64 s.row.kind, .int .i64 s.row.time, .int .i64 s.row.seq, .int .i64 s.row.index, .int .i64 s.row.frm, .int .i64 s.row.til, .string s.row.body]
/-- A source written over. -/
def putS (w : World) (g o : Nat) (s : Sr) : World := (((((((w.setCell ⟨g, o, none⟩ (.int .i64 s.code)).setCell ⟨g, o + 1, none⟩ (.int .i64 s.row.kind)).setCell ⟨g, o + 2, none⟩ (.int .i64 s.row.time)).setCell ⟨g, o + 3, none⟩ (.int .i64 s.row.seq)).setCell ⟨g, o + 4, none⟩ (.int .i64 s.row.index)).setCell ⟨g, o + 5, none⟩ (.int .i64 s.row.frm)).setCell ⟨g, o + 6, none⟩ (.int .i64 s.row.til)).setCell ⟨g, o + 7, none⟩ (.string s.row.body)
theorem putS_same (w : World) (g o : Nat) (s : Sr) : Same (fun k => k = g) w (putS w g o s) :=
  ((((((((Same.refl (fun k => k = g) w).setCell ⟨g, o, none⟩ (.inr rfl) _).setCell ⟨g, o + 1, none⟩ (.inr rfl) _).setCell ⟨g, o + 2, none⟩ (.inr rfl) _).setCell ⟨g, o + 3, none⟩ (.inr rfl) _).setCell ⟨g, o + 4, none⟩ (.inr rfl) _).setCell ⟨g, o + 5, none⟩ (.inr rfl) _).setCell ⟨g, o + 6, none⟩ (.inr rfl) _).setCell ⟨g, o + 7, none⟩ (.inr rfl) _
theorem putS_at {w : World} {g : Nat} {S : List Sr} (h : w.heap[g]? = some (.cells (srcs S).toArray 77 (0, 0))) {i : Nat} (hi : i < S.length) (s : Sr) : (putS w g (i * 8) s).heap[g]? = some (.cells (srcs (S.set i s)).toArray 77 (0, 0)) := by
  unfold putS
  rw [setCell_at (setCell_at (setCell_at (setCell_at (setCell_at (setCell_at (setCell_at (setCell_at h _ _) _ _) _ _) _ _) _ _) _ _) _ _) _ _, ← srcs_set S i hi s]
  simp
/-- The blocks of a tree. -/
abbrev Ft (b gs gn : Nat) : Nat → Prop := fun k => k = b ∨ k = gs ∨ k = gn
theorem Tr.put {w : World} {b gs gn : Nat} {order : Int} {S : List Sr} {nd : List Int} (h : Tr w b gs gn order S nd) {i : Nat} (hi : i < S.length) (s : Sr) {n : Int} (hn : n = ((wts (S.set i s) : Nat) : Int)) :
    Tr ((putS w gs (i * 8) s).setCell ⟨b, 3, none⟩ (.int .i64 n)) b gs gn order (S.set i s) nd ∧ Same (Ft b gs gn) w ((putS w gs (i * 8) s).setCell ⟨b, 3, none⟩ (.int .i64 n)) := by
  obtain ⟨n1, n2, n3⟩ := h.ne
  have s1 := putS_same w gs (i * 8) s
  have s2 : Same (fun k => k = b) (putS w gs (i * 8) s) ((putS w gs (i * 8) s).setCell ⟨b, 3, none⟩ (.int .i64 n)) := (Same.refl (fun k => k = b) _).setCell ⟨b, 3, none⟩ (.inr rfl) _
  have ob := (s1.block b (lt_of_heap h.obj) n1).trans h.obj
  have hg := putS_at h.src hi s
  refine ⟨⟨?_, (s2.block gs (lt_of_heap hg) (Ne.symm n1)).trans hg, ?_, by rw [List.length_set]; exact h.len, by rw [List.length_set]; exact h.k0, by rw [List.length_set]; exact h.k1⟩, (s1.mono fun k _ e => .inr (.inl e)).trans s2 fun k _ e => .inl e⟩
  · rw [List.length_set, setCell_at ob, hn]
    rfl
  · have e1 := (s1.block gn (lt_of_heap h.nod) (Ne.symm n3)).trans h.nod
    exact (s2.block gn (lt_of_heap e1) (Ne.symm n2)).trans e1
theorem Tr.setN {w : World} {b gs gn : Nat} {order : Int} {S : List Sr} {nd : List Int} (h : Tr w b gs gn order S nd) (n : Nat) (x : Int) :
    Tr (w.setCell ⟨gn, n, none⟩ (.int .i64 x)) b gs gn order S (nd.set n x) ∧ Same (Ft b gs gn) w (w.setCell ⟨gn, n, none⟩ (.int .i64 x)) := by
  obtain ⟨n1, n2, n3⟩ := h.ne
  have s2 : Same (fun k => k = gn) w (w.setCell ⟨gn, n, none⟩ (.int .i64 x)) := (Same.refl (fun k => k = gn) _).setCell ⟨gn, n, none⟩ (.inr rfl) _
  refine ⟨⟨(s2.block b (lt_of_heap h.obj) n2).trans h.obj, (s2.block gs (lt_of_heap h.src) n3).trans h.src, ?_, by rw [List.length_set]; exact h.len, h.k0, h.k1⟩, s2.mono fun k _ e => .inr (.inr e)⟩
  rw [setCell_at h.nod, inz_set]
  simp
theorem Tr.nodF {w : World} {b gs gn : Nat} {order : Int} {S : List Sr} {nd : List Int} (h : Tr w b gs gn order S nd) (i : Nat) : w.frozen? ⟨gn, i, none⟩ = false ∧ gn < w.heap.size := ⟨frozen_of h.nod _, lt_of_heap h.nod⟩
set_option maxRecDepth 100000 in
set_option maxHeartbeats 1600000 in
theorem enter11 {w : World} {b gs gn : Nat} {order : Int} {S : List Sr} {nd : List Int} (h : Tr w b gs gn order S nd) (ht : ∃ win, Trn order S nd win) {i : Nat} (hi : i < S.length) (hw : (S.getD i .wait).wt = true) {s : Sr} (hs : s.wt = false) :
    Calls Try.prog 32 #[.pointer (some ⟨b, 0, none⟩), .int .i64 i, srcV s] w fun e w' => e = .returned (.tuple #[]) ∧ ∃ nd', Tr w' b gs gn order (S.set i s) nd' ∧ (∃ win, Trn order (S.set i s) nd' win) ∧ Same (Ft b gs gn) w w' := by
  obtain ⟨win, ht⟩ := ht
  have PE : Hid _ := ht.enter hi hw hs
  have hk1 := h.k1
  have hwt := wts_set hi s
  rw [hw, hs, if_pos rfl, if_neg (by decide)] at hwt
  have hwl := wts_le S
  have hwn : ((wts S : Nat) : Int) - 1 = ((wts (S.set i s) : Nat) : Int) := by omega
  obtain ⟨n, en⟩ : ∃ n, n = S.length := ⟨_, rfl⟩
  obtain ⟨p0, p1, p2, p3, p4, p5, p6, p7⟩ := h.src_at hi rfl
  generalize (S.getD i .wait).code = oc at p0
  generalize (S.getD i .wait).row = orw at p1 p2 p3 p4 p5 p6 p7
  have HP : Hid (Tr ((putS w gs (i * 8) s).setCell ⟨b, 3, none⟩ (.int .i64 (((wts S : Nat) : Int) - 1))) b gs gn order (S.set i s) nd ∧ Same (Ft b gs gn) w ((putS w gs (i * 8) s).setCell ⟨b, 3, none⟩ (.int .i64 (((wts S : Nat) : Int) - 1)))) := h.put hi s hwn
  have HC : Hid (∀ W, Kept w W → (W.cell? ⟨b, 1, none⟩ = some (.slice (some ⟨gs, 0, none⟩) n n) ∧ W.cell? ⟨b, 2, none⟩ = some (.slice (some ⟨gn, 0, none⟩) n n) ∧ W.cell? ⟨b, 3, none⟩ = some (.int .i64 ((wts S : Nat) : Int))) ∧ (∀ o, W.frozen? ⟨gs, o, none⟩ = false) ∧ W.frozen? ⟨b, 3, none⟩ = false ∧ b < W.heap.size ∧ gs < W.heap.size) := fun W k => by
    have h' := h.on k
    obtain ⟨⟨c0, c1, c2, c3⟩, f3, hb⟩ := h'.cells
    rw [en]
    exact ⟨⟨c1, c2, c3⟩, fun o => frozen_of h'.src o, f3, hb, lt_of_heap h'.src⟩
  have HNE : Hid _ := h.ne
  obtain ⟨n1, n2, n3⟩ := h.ne
  have hi2 : (i : Int) < (n : Int) := by omega
  have hn64 : (n : Int) ≤ 64 := by omega
  have hws : ((wts S : Nat) : Int) ≤ 64 := by omega
  have hnl : Hid (n = (S.set i s).length) := by show n = _; rw [List.length_set]; exact en
  obtain ⟨⟨c1, c2, c3⟩, fz, f3, hb, hgs⟩ := HC.out w (Same.refl _ w)
  generalize wts S = ws at *
  have hSL : S.length = n := en.symm
  clear h ht hw hwt hwl hwn en hk1 HC
  unfold srcV putS at *
  generalize hscd : s.code = sc at *
  generalize hsrw : s.row = sr at *
  obtain ⟨kind, time, seq, index, frm, til, body⟩ := sr
  simp only at *
  generalize S.set i s = S' at *
  have hq : Int.tdiv ((n : Int) + (i : Int)) 2 = (((n + i) / 2 : Nat) : Int) := by
    rw [Int.tdiv_eq_ediv_of_nonneg (by omega)]
    omega
  have hsl : Hid (S.length = n) := hSL
  rw [hsl.out] at PE
  clear hSL hs hscd hsrw
  go_enter Try.func32, Try.ntmps32
  go_wp2_with fail
  go_region
  all_goals (go_wp2_with fail)
  all_goals
    obtain ⟨t0, s0⟩ := HP.out
    have T0 : Hid (Tr _ b gs gn order S' nd ∧ Same (Ft b gs gn) w _) := ⟨t0.on (((Same.refl _ _).alloc (.cells #[.int .i64 sc, .int .i64 kind, .int .i64 time, .int .i64 seq, .int .i64 index, .int .i64 frm, .int .i64 til, .string body] 77)).drew), (s0.alloc (.cells #[.int .i64 sc, .int .i64 kind, .int .i64 time, .int .i64 seq, .int .i64 index, .int .i64 frm, .int .i64 til, .string body] 77)).drew⟩
    clear t0 s0 HP p0 p1 p2 p3 p4 p5 p6 p7 c1 c2 c3 f3 fz hb hgs
    go_loopw [6, 7] (fun cl i wr => ∃ (c x m : Nat) (win : Nat → Option Nat) (nd' : List Int), cl = .int .i64 x ∧ i = .int .i64 (m : Int) ∧ m = c / 2 ∧ Pend order S' nd' win c x ∧ Tr wr b gs gn order S' nd' ∧ Same (Ft b gs gn) w wr) (fun _ i _ => (intOf i).toNat)
    case atStart => exact ⟨n + i, i, (n + i) / 2, _, nd, rfl, by first | rfl | simp, rfl, PE.out, T0.out.1, T0.out.2⟩
    case round =>
      clear T0 PE
      obtain ⟨c, x, m, win', nd', rfl, rfl, em, pe, tr, ks⟩ := hrel
      have TR : Hid _ := tr
      have KS : Hid _ := ks
      have PE : Hid _ := pe
      obtain ⟨⟨c0, c1, c2, c3⟩, -, hb⟩ := tr.cells
      rw [← hnl.out] at c1 c2
      have hc1 := pe.c1
      rw [← hnl.out] at hc1
      have hm1 : m < n := by omega
      have hcn := tr.nod_at (i := m) (by rw [← hnl.out]; exact hm1)
      have hc0 := tr.nod_at (i := 0) (by rw [← hnl.out]; omega)
      have hfn := (tr.nodF m).1
      have hf0 := (tr.nodF 0).1
      have hgn := (tr.nodF 0).2
      have hm2 : (m : Int) < (n : Int) := by omega
      have hux := pe.und pe.c0 pe.c1 pe.cw
      by_cases h0 : 0 < m
      · have d0 : decide ((0 : Int) < (m : Int)) = true := decide_eq_true (by omega)
        have d0' : (0 : Int) < (m : Int) := by omega
        have hhf := (pe.half (by rw [← em]; exact h0)).2
        rw [← em] at hhf
        cases hsb : win' (sib c) with
        | none =>
          rw [hsb] at hhf
          simp only at hhf
          rw [hhf] at hcn
          have R : Hid _ := tr.setN m (x : Int)
          have ST : Hid _ := pe.stay (by rw [← em]; exact h0) hsb
          rw [← em] at ST
          clear pe tr ks hhf em
          go_wp2_with fail
          refine bodyPost_ret (results_none rfl _ _ _) rfl ?_
          exact ⟨rfl, _, R.out.1, ⟨_, ST.out⟩, KS.out.trans' R.out.2⟩
        | some y =>
          rw [hsb] at hhf
          simp only at hhf
          rw [hhf] at hcn
          have hs1 := (sib_ne c (by omega)).2.1
          have huy := pe.und (n := sib c) (by omega) (by rw [← hnl.out]; omega) hsb
          have dm : ((y : Int) == -1) = false := by simp
          have HB : Hid _ := beats11 tr huy.1 hux.1 huy.2 hux.2
          have hq2 : Int.tdiv (m : Int) 2 = ((m / 2 : Nat) : Int) := by
            rw [Int.tdiv_eq_ediv_of_nonneg (by omega)]
            omega
          cases hbt : bt order S' y x with
          | true =>
            rw [hbt] at HB
            have PL : Hid _ := pe.lose (by rw [← em]; exact h0) hsb hbt
            rw [← em] at PL
            clear pe tr ks hhf hux huy hs1 em
            go_wp2_with fail
            refine Calls.mono HB.out ?_
            rintro e w1 ⟨rfl, k1⟩
            have t1 := TR.out.on k1
            obtain ⟨⟨e0, e1, e2, e3⟩, -, eb⟩ := t1.cells
            rw [← hnl.out] at e1 e2
            have hcn1 := t1.nod_at (i := m) (by rw [← hnl.out]; exact hm1)
            have hfn1 := (t1.nodF m).1
            have hgn1 := (t1.nodF 0).2
            have R : Hid _ := t1.setN m (x : Int)
            have K1 : Hid _ := KS.out.trans' (k1.to _)
            clear t1 k1 HB
            go_wp2_with fail
            go_roundw
            case rel => exact ⟨m, y, m / 2, _, _, rfl, by first | rfl | simp, rfl, PL.out, R.out.1, K1.out.trans' R.out.2⟩
            case measure => simp only [intOf]; omega
          | false =>
            rw [hbt] at HB
            have PL : Hid _ := pe.on (by rw [← em]; exact h0) hsb hbt
            rw [← em] at PL
            clear pe tr ks hhf hux huy hs1 em
            go_wp2_with fail
            refine Calls.mono HB.out ?_
            rintro e w1 ⟨rfl, k1⟩
            have R : Hid _ := TR.out.on k1
            have K1 : Hid _ := KS.out.trans' (k1.to _)
            clear k1 HB
            go_wp2_with fail
            go_roundw
            case rel => exact ⟨m, x, m / 2, _, _, rfl, by first | rfl | simp, rfl, PL.out, R.out, K1.out⟩
            case measure => simp only [intOf]; omega
      · obtain rfl : m = 0 := by omega
        have R : Hid _ := tr.setN 0 (x : Int)
        have ST : Hid _ := pe.done em.symm
        clear pe tr ks em
        go_wp2_with fail
        go_end0
        exact ⟨rfl, _, R.out.1, ⟨_, ST.out⟩, KS.out.trans' R.out.2⟩
end Go.Proofs.Ytolaeiagfnhllaa
