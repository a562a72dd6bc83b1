/- What is proved: has tells whether a tree has a span; soonest gives one that ends no later than any other there; the forest lies in memory. -/
import Derived.Test.YtaiaahcblohknaaYTkA
namespace Go.Proofs.Ytaiaahcblohknaa
open Go.RowKit

/-- How high a tree is, by its place. -/
def hAt (N : List Nd) (v : Value) : Nat := ((N[(intOf v).toNat]?).map Nd.h).getD 0
theorem hAt_lay {N : List Nd} (h0 : N[0]? = some nd0) {T : PT} (h : Lay N T) : hAt N (.int .i64 (T.root : Nat)) = T.tr.ht := by
  obtain ⟨n, e, t⟩ := h.tells h0
  unfold hAt
  rw [show (intOf (.int .i64 (T.root : Nat))).toNat = T.root by simp [intOf], e]
  simpa using t.h
theorem ht_child (l : Tr) (s : Sp) (r : Tr) : l.ht < (Tr.node l s r).ht ∧ r.ht < (Tr.node l s r).ht := by
  rcases Tr.ht_node l s r with ⟨e, k⟩ | ⟨e, k⟩ <;> omega
theorem has_here (l : Tr) (s : Sp) (r : Tr) : (Tr.node l s r).has s = true := by
  show (if sl s s = true then _ else if sl s s = true then _ else true) = _
  rw [if_neg (by rw [sl_irrefl]; decide), if_neg (by rw [sl_irrefl]; decide)]
theorem has_less {l r : Tr} {s x : Sp} (h : sl x s = true) : (Tr.node l s r).has x = l.has x := by
  show (if sl x s = true then _ else if sl s x = true then _ else true) = _
  rw [if_pos h]
theorem has_more {l r : Tr} {s x : Sp} (h : sl x s = false) (k : ¬ x = s) : (Tr.node l s r).has x = r.has x := by
  show (if sl x s = true then _ else if sl s x = true then _ else true) = _
  rw [if_neg (by rw [h]; decide)]
  cases hc : sl s x
  · exact absurd (sl_eq h hc) k
  · rw [if_pos rfl]
set_option maxRecDepth 100000 in
set_option maxHeartbeats 3200000 in
theorem has14 {w : World} {fb nb cap fr : Nat} {mv : Value} {c e : Int} {N : List Nd} (h : Ar w fb nb cap fr mv c e N) {T : PT} (hT : Lay N T) (h0 : N[0]? = some nd0) (x : Sp) :
    Calls Try.prog 28 #[.pointer (some ⟨fb, 0, none⟩), .int .i64 (T.root : Nat), spV x] w fun r w' => r = .returned (.bool (T.tr.has x)) ∧ Kept w w' := by
  have HA : Hid _ := h
  have HT : Hid _ := hT
  have H0 : Hid _ := h0
  have hlb := h.cells.2.1
  have hln := h.cells.2.2
  have HEX : Hid _ := fun s => neq_sp s x
  have HSX : Hid (∀ W p n, Kept w W → N[p]? = some n → _) := fun W p n k hp => side14 (h.on k) p n hp x
  have K0 : Hid _ := (Same.refl (fun _ => False) w).alloc (spO x)
  have HG : Hid _ := heap_new w (spO x)
  have HCL : Hid (∀ W p n, Kept w W → N[p]? = some n → Lnk W fb nb cap N.length p n ∧ W.cell? ⟨nb, p * 8, none⟩ = some (.int .i64 n.s.f) ∧ W.cell? ⟨nb, p * 8 + 1, none⟩ = some (.int .i64 n.s.t) ∧ W.cell? ⟨nb, p * 8 + 2, none⟩ = some (.int .i64 n.s.i)) := fun W p n k hp => ⟨(h.on k).lnk hp rfl, (((h.on k).node hp).1).span⟩
  have HLT : Hid (∀ (p : Nat) (n : Nd), N[p]? = some n → (p : Int) < (N.length : Int)) := fun p n hp => by have := (h.node hp).2; omega
  clear h hT h0
  generalize hb : T.tr.has x = b
  have HB : Hid _ := hb
  clear hb
  generalize hr : T.root = tr at *
  have HR : Hid (∃ S, Lay N S ∧ (tr = S.root) ∧ S.tr.has x = b) := ⟨T, HT.out, hr.symm, HB.out⟩
  clear hr HT HB
  obtain ⟨xf, xt, xi⟩ := x
  unfold spV
  simp only at HG K0 ⊢
  go_enter Try.func28, Try.ntmps28
  go_wp2_with fail
  generalize w.alloc (spO ⟨xf, xt, xi⟩) = W at K0 HG ⊢
  generalize w.heap.size = g at HG hlb hln ⊢
  go_loopw [1] (fun v wr => (∃ S, Lay N S ∧ v = .int .i64 (S.root : Nat) ∧ S.tr.has ⟨xf, xt, xi⟩ = b) ∧ Kept W wr) (fun v _ => hAt N v)
  case atStart =>
    obtain ⟨S, s1, s2, s3⟩ := HR.out
    exact ⟨⟨S, s1, by rw [s2], s3⟩, Same.refl _ _⟩
  case round =>
    obtain ⟨⟨S, hS, rfl, hb⟩, kk⟩ := hrel
    have KK : Hid (Kept W wr) := kk
    have HS : Hid _ := hS
    have HB : Hid _ := hb
    obtain ⟨b0, b1, b2⟩ := sp_cells ((kk.block g (lt_of_heap HG.out) (fun e => e)).trans HG.out)
    simp only at b0 b1 b2
    clear kk hS hb
    cases S with
    | nil =>
      have er : ((PT.nil.root : Nat) : Int) = 0 := rfl
      rw [er]
      go_wp2_with fail
      go_quiet (fail)
      go_wp2_with fail
      go_ret
      exact ⟨by rw [← show _ = b from HB.out]; rfl, Same.drewN (Same.trans' K0.out KK.out) _⟩
    | node p l s r =>
      have er : (PT.node p l s r).root = p := rfl
      have hp := HS.out.2.1
      have hpz : ¬ ((p : Int) = 0) := by have := HS.out.1; omega
      have hpz2 : ((p : Int) != 0) = true := by simpa using hpz
      have l1 := HLT.out _ _ hp
      obtain ⟨⟨f0, c3, c4, -⟩, y0, y1, y2⟩ := HCL.out wr _ _ (Same.trans' K0.out KK.out) hp
      have c3' : wr.cell? ⟨nb, p * 8 + 3, none⟩ = some (.int .i64 (l.root : Nat)) := c3
      have c4' : wr.cell? ⟨nb, p * 8 + 4, none⟩ = some (.int .i64 (r.root : Nat)) := c4
      have y0' : wr.cell? ⟨nb, p * 8, none⟩ = some (.int .i64 s.f) := y0
      have y1' : wr.cell? ⟨nb, p * 8 + 1, none⟩ = some (.int .i64 s.t) := y1
      have y2' : wr.cell? ⟨nb, p * 8 + 2, none⟩ = some (.int .i64 s.i) := y2
      clear c3 c4 y0 y1 y2
      have EQ := HEX.out s
      have HP : Hid _ := hp
      rw [er]
      clear hp er
      by_cases hxs : s = ⟨xf, xt, xi⟩
      · have HE : Hid (true = b) := by
          show true = b
          rw [← show _ = b from HB.out, hxs]
          exact (has_here _ _ _).symm
        rw [decide_eq_true hxs] at EQ
        simp only [Bool.not_true] at EQ
        clear hxs
        go_wp2_with fail
        go_quiet (fail)
        go_wp2_with fail
        go_ret
        exact ⟨by rw [← show true = b from HE.out]; simp, Same.drewN (Same.trans' K0.out KK.out) _⟩
      · rw [decide_eq_false hxs] at EQ
        simp only [Bool.not_false] at EQ
        have HXS : Hid _ := hxs
        clear hxs
        go_wp2_with fail
        go_quiet (fail)
        rename Nat => nn
        clear EQ
        have hk1 : Kept W (wr.drewN nn) := Same.drewN KK.out _
        have HC2 : Hid (∀ W1, Kept (wr.drewN nn) W1 → Kept (wr.drewN nn) W1 ∧ W1.cell? ⟨g, 0, none⟩ = some (.int .i64 xf) ∧ W1.cell? ⟨g, 1, none⟩ = some (.int .i64 xt) ∧ W1.cell? ⟨g, 2, none⟩ = some (.int .i64 xi) ∧ W1.cell? ⟨fb, 0, none⟩ = some (.slice (some ⟨nb, 0, none⟩) N.length cap) ∧ W1.cell? ⟨nb, p * 8 + 3, none⟩ = some (.int .i64 (l.root : Nat)) ∧ W1.cell? ⟨nb, p * 8 + 4, none⟩ = some (.int .i64 (r.root : Nat))) := fun W1 k1 => by
          have k2 := Same.trans' hk1 k1
          obtain ⟨q0, q1, q2⟩ := sp_cells ((k2.block g (lt_of_heap HG.out) (fun e => e)).trans HG.out)
          obtain ⟨⟨z0, z3, z4, -⟩, -⟩ := HCL.out W1 _ _ (Same.trans' K0.out k2) HP.out
          exact ⟨k1, q0, q1, q2, z0, z3, z4⟩
        have HS2 : Hid (∀ W1, Kept (wr.drewN nn) W1 → Calls Try.prog 39 #[.pointer (some ⟨fb, 0, none⟩), .int .i64 p, .agg #[.int .i64 xf, .int .i64 xt, .int .i64 xi]] W1 fun r' w' => r' = .returned (.int .i64 (sd (sl ⟨xf, xt, xi⟩ s))) ∧ Kept (wr.drewN nn) w') := fun W1 k1 => (HSX.out W1 p _ (Same.trans' K0.out (Same.trans' hk1 k1)) HP.out).mono fun r' w' h9 => ⟨h9.1, Same.trans' k1 h9.2⟩
        have HK1 : Hid _ := hk1
        clear b0 b1 b2 f0 c3' c4' y0' y1' y2' hk1
        generalize wr.drewN nn = X at HC2 HS2 HK1 ⊢
        obtain ⟨-, b0, b1, b2, f0, c3, c4⟩ := HC2.out X (Same.refl _ X)
        go_wp2_with fail
        cases hsl : sl ⟨xf, xt, xi⟩ s
        all_goals
          rw [hsl] at HS2
          simp only [sd_false, sd_true] at HS2
          have HSL : Hid _ := hsl
          clear hsl
          generalize hrr : r.root = rr at HC2 c4 ⊢
          generalize hll : l.root = lr at HC2 c3 ⊢
          have HRR : Hid _ := hrr
          have HLL : Hid _ := hll
          clear hrr hll
          go_region_held3 (fun w' => Kept X w' ∧ w'.cell? ⟨g, 0, none⟩ = some (.int .i64 xf) ∧ w'.cell? ⟨g, 1, none⟩ = some (.int .i64 xt) ∧ w'.cell? ⟨g, 2, none⟩ = some (.int .i64 xi) ∧ w'.cell? ⟨fb, 0, none⟩ = some (.slice (some ⟨nb, 0, none⟩) N.length cap) ∧ w'.cell? ⟨nb, p * 8 + 3, none⟩ = some (.int .i64 lr) ∧ w'.cell? ⟨nb, p * 8 + 4, none⟩ = some (.int .i64 rr))
            (exact HC2.out _ (by (repeat (first | assumption | exact Same.refl _ _ | apply Same.alloc | apply Same.drew | apply Same.drewN)); done))
            ((go_at_call 39; refine Calls.mono (HS2.out _ (by (repeat (first | assumption | exact Same.refl _ _ | apply Same.alloc | apply Same.drew | apply Same.drewN)); done)) ?_; rintro r' w1 ⟨rfl, k1⟩))
        all_goals
          go_wp2_with fail
          go_roundw
        all_goals try (case rel =>
          first
          | exact ⟨⟨r, HS.out.2.2.2, by rw [show r.root = _ from HRR.out], by rw [← show _ = b from HB.out]; exact (has_more HSL.out (fun e => HXS.out e.symm)).symm⟩, Same.trans' HK1.out (by (repeat (first | assumption | exact Same.refl _ _ | apply Same.alloc | apply Same.drew | apply Same.drewN)); done)⟩
          | exact ⟨⟨l, HS.out.2.2.1, by rw [show l.root = _ from HLL.out], by rw [← show _ = b from HB.out]; exact (has_less HSL.out).symm⟩, Same.trans' HK1.out (by (repeat (first | assumption | exact Same.refl _ _ | apply Same.alloc | apply Same.drew | apply Same.drewN)); done)⟩)
        all_goals (case measure =>
          have hc := ht_child l.tr s r.tr
          have h1 := hAt_lay H0.out HS.out
          have h2 := hAt_lay H0.out HS.out.2.2.1
          have h3 := hAt_lay H0.out HS.out.2.2.2
          rw [show r.root = _ from HRR.out] at h3
          rw [show l.root = _ from HLL.out] at h2
          rw [show (PT.node p l s r).root = p from rfl] at h1
          rw [show (PT.node p l s r).tr.ht = (Tr.node l.tr s r.tr).ht from rfl] at h1
          first
          | (rw [h1, h3]; exact hc.2)
          | (rw [h1, h2]; exact hc.1))
end Go.Proofs.Ytaiaahcblohknaa
