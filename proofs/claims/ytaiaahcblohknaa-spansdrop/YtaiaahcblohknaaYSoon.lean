/- What is proved: soonest gives a span of a tree that ends no later than any other there; the forest lies in memory. -/
import Derived.Test.YtaiaahcblohknaaYHas
namespace Go.Proofs.Ytaiaahcblohknaa
open Go.RowKit

theorem results_c {fn : Func} {a t : Nat} {P : Program} {w : World} {tmps : Array Value} {ad : Addr} {v : Value} (h : fn.results = #[.cell a t]) (ha : tmps.getD a undef = .pointer (some ad)) (hv : (loadVar t ad).run P w = .ok v w) : (results fn tmps).run P w = .ok v w := by
  have ha' : tmps[a]?.getD undef = .pointer (some ad) := by simpa using ha
  simp [results, h, ha', asAddr, hv]
theorem loadVar_sp {w : World} {b : Nat} {x : Sp} (h : w.heap[b]? = some (spO x)) : (loadVar 31 ⟨b, 0, none⟩).run Try.prog w = .ok (spV x) w := by
  obtain ⟨c0, c1, c2⟩ := sp_cells h
  clear h
  unfold spV
  go_simp
theorem put3 {W : World} {g : Nat} {p q r : Value} {ty : TypeId} (h : W.heap[g]? = some (.cells #[p, q, r] ty (0, 0))) (a b c : Value) :
    (((W.setCell ⟨g, 0, none⟩ a).setCell ⟨g, 1, none⟩ b).setCell ⟨g, 2, none⟩ c).heap[g]? = some (.cells #[a, b, c] ty (0, 0)) := by
  have h4 := setCell_at (setCell_at (setCell_at h 0 a) 1 b) 2 c
  simpa using h4
theorem put3_same {S : Nat → Prop} {w W : World} (k : Same S w W) {g : Nat} (hg : w.heap.size ≤ g ∨ S g) (a b c : Value) : Same S w (((W.setCell ⟨g, 0, none⟩ a).setCell ⟨g, 1, none⟩ b).setCell ⟨g, 2, none⟩ c) :=
  Same.setCell (Same.setCell (Same.setCell k ⟨g, 0, none⟩ hg a) ⟨g, 1, none⟩ hg b) ⟨g, 2, none⟩ hg c
set_option maxRecDepth 100000 in
set_option maxHeartbeats 3200000 in
theorem soonest14 {w : World} {fb nb cap fr : Nat} {mv : Value} {c e : Int} {N : List Nd} (h : Ar w fb nb cap fr mv c e N) {T : PT} (hT : Lay N T) (hn : T ≠ .nil) (h0 : N[0]? = some nd0) (hm : T.tr.mn < 9223372036854775807) :
    Calls Try.prog 41 #[.pointer (some ⟨fb, 0, none⟩), .int .i64 (T.root : Nat)] w fun r w' => ∃ x, r = .returned (spV x) ∧ x ∈ T.tr.list ∧ x.t = T.tr.mn ∧ Kept w w' := by
  have H0 : Hid _ := h0
  have hlb := h.cells.2.1
  have hln := h.cells.2.2
  have K0 : Hid _ := (Same.refl (fun _ => False) w).alloc (spO ⟨0, 0, 0⟩)
  have HG : Hid _ := heap_new w (spO ⟨0, 0, 0⟩)
  have HCL : Hid (∀ W (p : Nat) n, Kept w W → N[p]? = some n → NdAt W nb p n ∧ W.cell? ⟨fb, 0, none⟩ = some (.slice (some ⟨nb, 0, none⟩) N.length cap) ∧ (p : Int) < (N.length : Int)) := fun W p n k hp => ⟨((h.on k).node hp).1, ((h.on k).cells.1).1, by have := (h.node hp).2; omega⟩
  obtain ⟨nT, eT, tT⟩ := hT.tells h0
  have HR : Hid (∃ S, Lay N S ∧ (T.root = S.root) ∧ S ≠ .nil ∧ S.tr.mn = T.tr.mn ∧ ∀ x ∈ S.tr.list, x ∈ T.tr.list) := ⟨T, hT, rfl, hn, rfl, fun _ h => h⟩
  have ET : Hid _ := eT
  have TT : Hid (nT.fi = T.tr.mn) := tT.fi
  clear h hT hn h0 eT tT
  generalize T.root = tr at *
  generalize hmn : T.tr.mn = mn at *
  generalize T.tr.list = LL at *
  clear hmn
  have HM : Hid _ := hm
  clear hm
  go_enter Try.func41, Try.ntmps41
  go_upto_region 1 with fail
  generalize w.alloc (.cells #[.int .i64 0, .int .i64 0, .int .i64 0] 31 (0, 0)) = W at K0 HG ⊢
  generalize hgg : w.heap.size = g at HG hlb hln ⊢
  have HGG : Hid _ := hgg
  clear hgg
  obtain ⟨⟨-, -, -, -, -, -, t6, -⟩, f0, lt⟩ := HCL.out W _ _ K0.out ET.out
  rw [show nT.fi = mn from TT.out] at t6
  go_wp2_with fail
  clear t6 f0
  go_loopw [1] (fun v wr => (∃ S, Lay N S ∧ v = .int .i64 (S.root : Nat) ∧ S ≠ .nil ∧ S.tr.mn = mn ∧ ∀ x ∈ S.tr.list, x ∈ LL) ∧ Kept W wr) (fun v _ => hAt N v)
  case atStart =>
    obtain ⟨S, s1, s2, s3, s4, s5⟩ := HR.out
    exact ⟨⟨S, s1, by rw [s2], s3, s4, s5⟩, Same.refl _ _⟩
  case round =>
    obtain ⟨⟨S, hS, rfl, hne, hmn, hsub⟩, kk⟩ := hrel
    have KK : Hid (Kept W wr) := kk
    have HS : Hid _ := hS
    have HMN : Hid _ := hmn
    have HSUB : Hid _ := hsub
    clear kk hS hmn hsub
    cases S with
    | nil => exact absurd rfl hne
    | node p l s r =>
      clear hne
      have er : (PT.node p l s r).root = p := rfl
      have hp := HS.out.2.1
      have HP : Hid _ := hp
      obtain ⟨⟨c0, c1, c2, c3, c4, -, -, -⟩, f0, l1⟩ := HCL.out wr _ _ (Same.trans' K0.out KK.out) hp
      have c0' : wr.cell? ⟨nb, p * 8, none⟩ = some (.int .i64 s.f) := c0
      have c1' : wr.cell? ⟨nb, p * 8 + 1, none⟩ = some (.int .i64 s.t) := c1
      have c2' : wr.cell? ⟨nb, p * 8 + 2, none⟩ = some (.int .i64 s.i) := c2
      have c3' : wr.cell? ⟨nb, p * 8 + 3, none⟩ = some (.int .i64 (l.root : Nat)) := c3
      have c4' : wr.cell? ⟨nb, p * 8 + 4, none⟩ = some (.int .i64 (r.root : Nat)) := c4
      clear c0 c1 c2 c3 c4 hp
      rw [er]
      have hmin : min s.t (min l.tr.mn r.tr.mn) = mn := HMN.out
      by_cases hst : s.t = mn
      · have HST : Hid _ := hst
        have hq : (s.t != mn) = false := by simp [hst]
        rw [hst] at c1'
        clear hmin hst hq er
        obtain ⟨b0, b1, b2⟩ := sp_cells ((KK.out.block g (lt_of_heap HG.out) (fun e => e)).trans HG.out)
        have bg := (KK.out.block g (lt_of_heap HG.out) (fun e => e)).trans HG.out
        have BG : Hid _ := bg
        have zg := fun o => frozen_of bg o
        clear bg
        go_wp2_with fail
        have HL : Hid (s ∈ LL) := HSUB.out s (by simp [PT.tr, Tr.list])
        refine bodyPost_ret (results_c (a := 4) (t := 31) rfl rfl (loadVar_sp (x := ⟨s.f, mn, s.i⟩) (put3 BG.out _ _ _))) rfl ?_
        refine ⟨s, ?_, HL.out, HST.out, put3_same (Same.trans' K0.out KK.out) (.inl (by rw [show w.heap.size = g from HGG.out]; exact Nat.le_refl _)) _ _ _⟩
        rw [← show s.t = mn from HST.out]
      · have hst2 : (s.t != mn) = true := by simpa using hst
        have hst3 : ¬ s.t = mn := hst
        obtain ⟨nl, el, tl⟩ := HS.out.2.2.1.tells H0.out
        obtain ⟨⟨-, -, -, -, -, -, d6, -⟩, -, l2⟩ := HCL.out wr _ _ (Same.trans' K0.out KK.out) el
        rw [tl.fi] at d6
        clear el tl nl er
        have hmm := HM.out
        have z9 : PT.nil.tr.mn = 9223372036854775807 := rfl
        by_cases hlm : l.tr.mn = mn
        · have hln0 : l ≠ .nil := fun e => by rw [e, z9] at hlm; omega
          rw [hlm] at d6
          have HX : Hid (Lay N l ∧ l ≠ .nil ∧ l.tr.mn = mn ∧ (∀ x ∈ l.tr.list, x ∈ LL) ∧ l.tr.ht < (PT.node p l s r).tr.ht) := ⟨HS.out.2.2.1, hln0, hlm, fun x hx => HSUB.out x (by simp [PT.tr, Tr.list, hx]), (ht_child _ _ _).1⟩
          clear hmin hlm hln0 hmm z9 hst
          generalize hll : l.root = lr at *
          have HLL : Hid _ := hll
          clear hll
          go_wp2_with fail
          go_quiet (fail)
          go_wp2_with fail
          go_roundw
          case rel => exact ⟨⟨l, HX.out.1, by rw [show l.root = _ from HLL.out], HX.out.2.1, HX.out.2.2.1, HX.out.2.2.2.1⟩, Same.drewN KK.out _⟩
          case measure =>
            have h1 := hAt_lay H0.out HS.out
            have h2 := hAt_lay H0.out HX.out.1
            rw [show l.root = _ from HLL.out] at h2
            rw [show (PT.node p l s r).root = p from rfl] at h1
            rw [h1, h2]
            exact HX.out.2.2.2.2
        · have hrm : r.tr.mn = mn := by omega
          have hrn0 : r ≠ .nil := fun e => by rw [e, z9] at hrm; omega
          have hl3 : (l.tr.mn != mn) = true := by simpa using hlm
          have HX : Hid (Lay N r ∧ r ≠ .nil ∧ r.tr.mn = mn ∧ (∀ x ∈ r.tr.list, x ∈ LL) ∧ r.tr.ht < (PT.node p l s r).tr.ht) := ⟨HS.out.2.2.2, hrn0, hrm, fun x hx => HSUB.out x (by simp [PT.tr, Tr.list, hx]), (ht_child _ _ _).2⟩
          clear hmin hrm hrn0 hmm z9 hst
          generalize l.tr.mn = lm at *
          generalize hll : r.root = rr at *
          have HLL : Hid _ := hll
          clear hll
          generalize l.root = lr at *
          go_wp2_with fail
          go_quiet (fail)
          go_wp2_with fail
          go_roundw
          case rel => exact ⟨⟨r, HX.out.1, by rw [show r.root = _ from HLL.out], HX.out.2.1, HX.out.2.2.1, HX.out.2.2.2.1⟩, Same.drewN KK.out _⟩
          case measure =>
            have h1 := hAt_lay H0.out HS.out
            have h2 := hAt_lay H0.out HX.out.1
            rw [show r.root = _ from HLL.out] at h2
            rw [show (PT.node p l s r).root = p from rfl] at h1
            rw [h1, h2]
            exact HX.out.2.2.2.2
end Go.Proofs.Ytaiaahcblohknaa
