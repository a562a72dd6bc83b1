/- What is proved: the law GraphOrder; the list lies in memory, and the library's table as its text lays it. -/
import Derived.Test.YtbhihmkgimdjpaaDoorGhIn
import Derived.Test.YtbhihmkgimdjpaaDoorGhBu
import Derived.Test.YtbhihmkgimdjpaaDoorGhOp
import Derived.Deep.RegionHeld3
namespace Go.Proofs.YtbhihmkgimdjpaaDoor
open Go.RowKit

/-- The places of the nodes, from one on, when j of them have been put down. -/
def Plc (q : List Nat) (j : Nat) (pl : List Int) : Prop := ∀ (x : Nat) z, pl[x]? = some z → (∀ i, i < j → q[i]? = some x → z = (i : Int) + 1) ∧ ((∀ i, i < j → q[i]? ≠ some x) → z = 0)
theorem Plc.start (q : List Nat) (p : Nat) : Plc q 0 (List.replicate p 0) := fun x z h => by
  have := List.eq_of_mem_replicate (List.mem_of_getElem? h)
  exact ⟨fun i hi => by omega, fun _ => this⟩
theorem Plc.step {q : List Nat} {j x : Nat} {pl : List Int} (h : Plc q j pl) (hn : q.Nodup) (hx : q[j]? = some x) : Plc q (j + 1) (pl.set x ((j : Int) + 1)) := fun y z hz => by
  rw [List.getElem?_set] at hz
  by_cases e : x = y
  · subst e
    rw [if_pos rfl] at hz
    split at hz
    · cases hz
      exact ⟨fun i _ hi => by rw [get_inj hn hi hx], fun hno => absurd hx (hno j (by omega))⟩
    · cases hz
  · rw [if_neg e] at hz
    obtain ⟨h1, h2⟩ := h y z hz
    refine ⟨fun i hi hq => ?_, fun hno => h2 fun i hi => hno i (by omega)⟩
    by_cases e2 : i = j
    · subst e2
      rw [hx] at hq
      cases hq
      exact absurd rfl e
    · exact h1 i (by omega) hq
set_option maxRecDepth 100000 in
set_option maxHeartbeats 6400000 in
theorem order_law (w : World) (n : Int) (a : Option Addr) (cap : Nat) (l : List Eg) (m : Int) (hA : ArgE w a l) (hT : TabG w) : Calls Tryd.prog 6 #[.int .i64 n, .slice a l.length cap, .int .i64 m] w fun r w' => r = .returned (.bool true) ∧ Kept w w' := by
  have HT : Hid (TabG w) := hT
  have HAN : Hid _ := anchor19 hT
  have HA : Hid (ArgE w a l) := hA
  clear hT hA
  by_cases hbad : n < 1 ∨ 60 < n ∨ 600 < l.length
  · have HB : Hid (n < 1 ∨ 60 < n ∨ 600 < l.length) := hbad
    obtain ⟨L, eL⟩ : ∃ L, L = l.length := ⟨_, rfl⟩
    rw [← eL] at hbad ⊢
    clear eL
    by_cases h1 : n < 1
    · have d1 : decide (n < 1) = true := decide_eq_true h1
      clear hbad
      go_enter Tryd.func6, Tryd.ntmps6
      go_wp2_with fail
      refine Calls.mono HAN.out ?_
      rintro r w1 ⟨rfl, k1⟩
      have K1 : Hid (Kept w w1) := k1
      go_wp2_with fail
      go_ret
      exact ⟨rfl, K1.out⟩
    · have d1 : decide (n < 1) = false := decide_eq_false h1
      by_cases h2 : n > 60
      · have d2 : decide (n > 60) = true := decide_eq_true h2
        clear hbad
        go_enter Tryd.func6, Tryd.ntmps6
        go_wp2_with fail
        refine Calls.mono HAN.out ?_
        rintro r w1 ⟨rfl, k1⟩
        have K1 : Hid (Kept w w1) := k1
        go_wp2_with fail
        go_ret
        exact ⟨rfl, K1.out⟩
      · have d2 : decide (n > 60) = false := decide_eq_false h2
        have h3 : (L : Int) > 600 := by omega
        have d3 : decide ((L : Int) > 600) = true := decide_eq_true h3
        clear hbad
        go_enter Tryd.func6, Tryd.ntmps6
        go_wp2_with fail
        refine Calls.mono HAN.out ?_
        rintro r w1 ⟨rfl, k1⟩
        have K1 : Hid (Kept w w1) := k1
        go_wp2_with fail
        go_ret
        exact ⟨rfl, K1.out⟩
  · obtain ⟨p, rfl⟩ : ∃ p : Nat, n = p := ⟨n.toNat, by omega⟩
    have h1 : ¬ (p : Int) < 1 := by omega
    have h2 : ¬ (p : Int) > 60 := by omega
    have h3 : ¬ ((l.length : Nat) : Int) > 600 := by omega
    have d1 : decide ((p : Int) < 1) = false := decide_eq_false h1
    have d2 : decide ((p : Int) > 60) = false := decide_eq_false h2
    have d3 : decide (((l.length : Nat) : Int) > 600) = false := decide_eq_false h3
    have HB : Hid (∀ W, Kept w W → _) := fun W k => build19 (n := p) (by omega) W a cap l (HA.out.at_.on k) HA.out.ok (by omega)
    have hpn : p ≤ 60 := by omega
    obtain ⟨E, eE⟩ : ∃ E, E = bld p [] l := ⟨_, rfl⟩
    simp only [← eE] at HB
    generalize l.length = L at *
    clear hbad eE
    go_enter Tryd.func6, Tryd.ntmps6
    go_wp2_with fail
    refine Calls.mono HAN.out ?_
    rintro r w1 ⟨rfl, k1⟩
    have K1 : Hid (Kept w w1) := k1
    have HB1 : Hid _ := HB.out w1 k1
    clear k1 HB HAN
    go_wp2_with fail
    refine Calls.mono HB1.out ?_
    rintro r w2 ⟨⟨gb, rfl, hg⟩, k2⟩
    have HG : Hid (Gb w1.heap.size w2 gb p E ∧ Kept w w2) := ⟨hg, K1.out.trans' k2⟩
    have HO : Hid _ := order19 hg.g m
    clear hg k2 HB1
    go_wp2_with fail
    refine Calls.mono HO.out ?_
    rintro r w3 ⟨⟨q, hod, hres⟩, k3⟩
    have K3 : Hid (Kept w w3 ∧ Gb w1.heap.size w3 gb p E) := ⟨HG.out.2.trans' k3, HG.out.1.on k3⟩
    have HOD : Hid (Od p (jda E m) q) := hod
    have HJ : Hid (∀ a b, jda E m a b = true → b < p) := fun a b hab => by
      obtain ⟨e, he, h1, h2, h3⟩ := jda_iff.1 hab
      have := HG.out.1.g.fit e he
      have := this.fn
      omega
    obtain ⟨lv, ok0, rfl, hcase⟩ : ∃ lv ok0, r = .returned (.tuple #[lv, .bool ok0]) ∧ ((ok0 = true ∧ q.length = p ∧ OwnI w2.heap.size w3 lv (qL q)) ∨ (ok0 = false ∧ lv = .slice none 0 0 ∧ q.length < p ∧ FrR p (jda E m) (inq q) none)) := by
      rcases hres with ⟨e1, v, rfl, o⟩ | ⟨e1, e2, rfl⟩
      · exact ⟨v, true, rfl, .inl ⟨rfl, e1, o⟩⟩
      · exact ⟨_, false, rfl, .inr ⟨rfl, rfl, e1, e2⟩⟩
    have HCS : Hid _ := hcase
    have HPN : Hid (p ≤ 60) := hpn
    clear hod hres hcase k3 HO hpn
    go_wp2_with fail
    go_loopw [10, 11] (fun s10 s11 wr => ∃ (j : Nat) (c : Bool), s10 = .bool c ∧ s11 = .int .i64 (j : Int) ∧ j ≤ p ∧ (c = true ↔ ∃ x, x < j ∧ Way (adj E m) x x) ∧ Kept w3 wr) (fun _ i _ => p - (intOf i).toNat)
    case atStart => exact ⟨0, false, rfl, rfl, Nat.zero_le _, by simp, Same.refl _ _⟩
    case round =>
      obtain ⟨j, c, rfl, rfl, hj, hc, kl⟩ := hrel
      rename World => WL
      have HC : Hid (c = true ↔ ∃ x, x < j ∧ Way (adj E m) x x) := hc
      have HK : Hid (Kept w3 WL) := kl
      by_cases hlt : j < p
      · have c1 : (j : Int) < (p : Int) := by omega
        have c2 : (j : Int) ≤ 60 := by have := HPN.out; omega
        have HRE : Hid _ := reach19 (K3.out.2.g.on kl) (HT.out.on (K3.out.1.trans' kl)) (j : Int) (j : Int) m
        have HJP : Hid (j < p) := hlt
        clear hlt hc kl
        cases c with
        | true =>
          go_wp2_with fail
          exact ⟨⟨j + 1, true, rfl, rfl, HJP.out, ⟨fun _ => by obtain ⟨x, h1, h2⟩ := HC.out.1 rfl; exact ⟨x, by omega, h2⟩, fun _ => rfl⟩, HK.out⟩, by simp only [intOf]; have := HJP.out; omega⟩
        | false =>
          go_wp2_with (go_at_call 15; refine Calls.mono HRE.out ?_; rintro r w5 ⟨⟨v, rfl, hv⟩, k5⟩)
          exact ⟨⟨j + 1, v, rfl, rfl, HJP.out, ⟨fun h9 => ⟨j, by omega, by simpa using (hv.1 h9).2.2⟩, fun ⟨x, h1, h2⟩ => by
            by_cases e : x = j
            · subst e
              exact hv.2 ⟨nd_iff.2 ⟨by omega, by have := HJP.out; omega⟩, nd_iff.2 ⟨by omega, by have := HJP.out; omega⟩, by simpa using h2⟩
            · exact absurd (HC.out.2 ⟨x, by omega, h2⟩) (by simp)⟩, HK.out.trans' k5⟩, by simp only [intOf]; have := HJP.out; omega⟩
      · obtain rfl : p = j := by omega
        have c1 : ¬ (p : Int) < (p : Int) := by omega
        rcases HCS.out with ⟨rfl, hql, ho⟩ | ⟨rfl, rfl, hql, hfr⟩
        · obtain rfl : c = false := by
            cases c with
            | false => rfl
            | true =>
              obtain ⟨x, h1, h2⟩ := HC.out.1 rfl
              exact absurd (way_jda.2 h2) (HOD.out.free (HOD.out.all hql h1))
          obtain ⟨qa, qc, ev, hqc, hq0, hqa⟩ := ho.shape
          obtain ⟨gq, eqa⟩ : ∃ gq, qa = some ⟨gq, 0, none⟩ := by
            cases qa with
            | none => have := (hq0 rfl).1; have h9 := qL_len q; rw [this] at h9; simp at h9; omega
            | some ad => obtain ⟨gq, e, -⟩ := hqa ad rfl; exact ⟨gq, by rw [e]⟩
          rw [eqa, qL_len, hql] at ev
          subst ev
          have HQ : Hid (q.length = p ∧ OwnI w2.heap.size w3 (.slice (some ⟨gq, 0, none⟩) p qc) (qL q)) := ⟨hql, ho⟩
          have hm := make_is WL p (by have := HPN.out; omega)
          have hp60 := HPN.out
          clear hc kl hql ho hqc hq0 hqa eqa HCS hlt
          go_wp2_with fail
          obtain ⟨P, eP⟩ : ∃ P, P = WL.heap.size := ⟨_, rfl⟩
          rw [← eP]
          have HP0 : Hid (OwnI P (WL.alloc (.cells (madeCells #[.int .i64 0] p) 3)) (.slice (some ⟨P, 0, none⟩) p p) (List.replicate p 0) ∧ Kept w3 (WL.alloc (.cells (madeCells #[.int .i64 0] p) 3)) ∧ w3.heap.size ≤ P) := ⟨by rw [eP]; exact own_made1 ekI (0 : Int) (.int .i64 0) rfl WL p (by unfold maxLen; omega), HK.out.alloc _, by rw [eP]; exact HK.out.size⟩
          generalize WL.alloc (.cells (madeCells #[.int .i64 0] p) 3) = W5 at HP0 ⊢
          clear hm eP HC
          go_loopw [66] (fun s66 wr => ∃ (j : Nat) (pl : List Int), s66 = .int .i64 (j : Int) ∧ j ≤ p ∧ OwnI P wr (.slice (some ⟨P, 0, none⟩) p p) pl ∧ pl.length = p ∧ Plc q j pl ∧ Kept w3 wr) (fun i _ => p - (intOf i).toNat)
          case atStart => exact ⟨0, _, rfl, Nat.zero_le _, HP0.out.1, by simp, Plc.start q p, HP0.out.2.1⟩
          case round =>
            obtain ⟨j, pl, rfl, hj, op, hpl, hplc, kp⟩ := hrel
            rename World => WP
            have HPP : Hid (OwnI P WP (.slice (some ⟨P, 0, none⟩) p p) pl ∧ pl.length = p ∧ Plc q j pl ∧ Kept w3 WP) := ⟨op, hpl, hplc, kp⟩
            by_cases hlt : j < p
            · have c2 : (j : Int) < (p : Int) := by omega
              have c3 : (j : Int) ≤ 60 := by omega
              obtain ⟨x, hx⟩ : ∃ x, q[j]? = some x := ⟨_, List.getElem?_eq_getElem (by rw [HQ.out.1]; exact hlt)⟩
              have hxp : x < p := (HOD.out j x hx).1
              have HX : Hid (q[j]? = some x ∧ x < p ∧ j < p) := ⟨hx, hxp, hlt⟩
              have a0 := ((HQ.out.2.on kp).cell1 ekI (qL_at hx) rfl).1
              obtain ⟨z, hz⟩ : ∃ z, pl[x]? = some z := ⟨_, List.getElem?_eq_getElem (by rw [hpl]; exact hxp)⟩
              obtain rfl : z = 0 := (hplc x z hz).2 fun i hi hq => by have := get_inj HOD.out.nodup hq hx; omega
              obtain ⟨b0, b1, b2⟩ := op.cell1 ekI hz rfl
              obtain ⟨o2, s2⟩ := op.set1 ekI (j := x) (by rw [hpl]; exact hxp) ((j : Int) + 1) rfl
              have HNX : Hid (OwnI P (WP.setCell ⟨P, x, none⟩ (.int .i64 ((j : Int) + 1))) (.slice (some ⟨P, 0, none⟩) p p) (pl.set x ((j : Int) + 1)) ∧ (pl.set x ((j : Int) + 1)).length = p ∧ Plc q (j + 1) (pl.set x ((j : Int) + 1)) ∧ Kept w3 (WP.setCell ⟨P, x, none⟩ (.int .i64 ((j : Int) + 1)))) := ⟨o2, by rw [List.length_set]; exact hpl, hplc.step HOD.out.nodup hx, kp.trans s2 (fun i hi e => by have e : i = P := e; have := HP0.out.2.2; omega)⟩
              have x1 : (x : Int) < (p : Int) := by omega
              have x2 : ¬ (x : Int) < 0 := by omega
              have x3 : ¬ (x : Int) ≥ (p : Int) := by omega
              clear op hpl hplc kp hx hz o2 s2 hxp hlt b2
              go_wp2_with fail
              exact ⟨⟨j + 1, _, rfl, HX.out.2.2, HNX.out.1, HNX.out.2.1, HNX.out.2.2.1, HNX.out.2.2.2⟩, by simp only [intOf]; have := HX.out; omega⟩
            · obtain rfl : p = j := by omega
              have c2 : ¬ (p : Int) < (p : Int) := by omega
              have HED : Hid _ := edges19 (K3.out.2.g.on kp)
              clear op hpl hplc kp hlt
              go_wp2_with fail
              refine Calls.mono HED.out ?_
              rintro r w6 ⟨v6, rfl, o6, k6⟩
              obtain ⟨al, c6, rfl, -⟩ := o6.shape
              have hsl : (srt ltE E).length ≤ 65536 := by rw [srt_len]; exact HG.out.1.g.len
              obtain ⟨gl, egl⟩ : ∃ gl, gl = (srt ltE E).length := ⟨_, rfl⟩
              rw [← egl] at o6 hsl ⊢
              have HGL : Hid (gl = (srt ltE E).length) := egl
              have HL0 : Hid (OwnE w.heap.size w6 (.slice al gl c6) (srt ltE E) ∧ OwnI P w6 (.slice (some ⟨P, 0, none⟩) p p) pl ∧ Kept w3 w6) := ⟨o6.base (by have := K3.out.1.size; have := HPP.out.2.2.2.size; omega), HPP.out.1.on k6, HPP.out.2.2.2.trans' k6⟩
              clear o6 k6 egl HED
              go_wp2_with fail
              go_loopw [94] (fun i wr => ∃ j : Nat, i = .int .i64 (j : Int) ∧ j ≤ gl ∧ OwnE w.heap.size wr (.slice al gl c6) (srt ltE E) ∧ OwnI P wr (.slice (some ⟨P, 0, none⟩) p p) pl ∧ Kept w3 wr) (fun i _ => gl - (intOf i).toNat)
              case atStart => exact ⟨0, rfl, Nat.zero_le _, HL0.out.1, HL0.out.2.1, HL0.out.2.2⟩
              case round =>
                obtain ⟨j, rfl, hj, oe, op, kw⟩ := hrel
                rename World => WE
                have HST : Hid (OwnE w.heap.size WE (.slice al gl c6) (srt ltE E) ∧ OwnI P WE (.slice (some ⟨P, 0, none⟩) p p) pl ∧ Kept w3 WE) := ⟨oe, op, kw⟩
                by_cases hlt : j < gl
                · have d3 : (j : Int) < (gl : Int) := by omega
                  have d4 : (j : Int) ≤ 65536 := by omega
                  obtain ⟨x, hx⟩ : ∃ x, (srt ltE E)[j]? = some x := ⟨_, List.getElem?_eq_getElem (by rw [← show gl = _ from HGL.out]; exact hlt)⟩
                  obtain ⟨bb, off, rfl, hb, hc⟩ := oe.at ekE j x hx
                  have p0 : WE.cell? ⟨bb, off + j * 3, none⟩ = some (.int .i64 x.f) := hc 0 _ rfl
                  have p1 : WE.cell? ⟨bb, off + j * 3 + 1, none⟩ = some (.int .i64 x.t) := hc 1 _ rfl
                  have p2 : WE.cell? ⟨bb, off + j * 3 + 2, none⟩ = some (.int .i64 x.l) := hc 2 _ rfl
                  have hxE := (srt_perm ltE E).mem_iff.1 (List.mem_of_getElem? hx)
                  have hfx := HG.out.1.g.fit x hxE
                  obtain ⟨f, ef⟩ : ∃ f : Nat, x.f = f := ⟨x.f.toNat, by have := hfx.f0; omega⟩
                  obtain ⟨t, et⟩ : ∃ t : Nat, x.t = t := ⟨x.t.toNat, by have := hfx.t0; omega⟩
                  have hfp : f < p := by have := hfx.fn; omega
                  have htp : t < p := by have := hfx.tn; omega
                  obtain ⟨zf, hzf⟩ : ∃ z, pl[f]? = some z := ⟨_, List.getElem?_eq_getElem (by rw [HPP.out.2.1]; exact hfp)⟩
                  obtain ⟨zt, hzt⟩ : ∃ z, pl[t]? = some z := ⟨_, List.getElem?_eq_getElem (by rw [HPP.out.2.1]; exact htp)⟩
                  have hlt2 : inM x.l m = true → zf < zt := fun hin => by
                    have hj2 : jda E m t f = true := jda_iff.2 ⟨x, hxE, et, ef, hin⟩
                    obtain ⟨i, hi, e⟩ := List.mem_iff_getElem.1 (HOD.out.all HQ.out.1 htp)
                    have e2 : q[i]? = some t := by rw [List.getElem?_eq_getElem hi, e]
                    obtain ⟨i2, hi2, e3⟩ := HOD.out.ahead e2 hj2
                    have hq9 := HQ.out.1
                    have r1 := (HPP.out.2.2.1 t zt hzt).1 i (by omega) e2
                    have r2 := (HPP.out.2.2.1 f zf hzf).1 i2 (by omega) e3
                    omega
                  have hL := in19 x.l m hfx.l1 hfx.l8
                  obtain ⟨xf, xt, xl⟩ := x
                  simp only at ef et p0 p1 p2 hlt2 hL
                  subst ef et
                  have ka : Kept WE (WE.alloc (egO ⟨(f : Int), (t : Int), xl⟩)) := (Same.refl _ WE).alloc _
                  have hbx : (WE.alloc (egO ⟨(f : Int), (t : Int), xl⟩)).heap[WE.heap.size]? = some (egO ⟨(f : Int), (t : Int), xl⟩) := heap_new WE _
                  obtain ⟨eb, eeb⟩ : ∃ eb, eb = WE.heap.size := ⟨_, rfl⟩
                  rw [← eeb] at hbx
                  have HIN : Hid (∀ W, _) := hL
                  have HCX : Hid (∀ W, Grw (WE.alloc (egO ⟨(f : Int), (t : Int), xl⟩)) W → Grw (WE.alloc (egO ⟨(f : Int), (t : Int), xl⟩)) W ∧ W.cell? ⟨eb, 0, none⟩ = some (.int .i64 f) ∧ W.cell? ⟨eb, 1, none⟩ = some (.int .i64 t) ∧ W.cell? ⟨eb, 2, none⟩ = some (.int .i64 xl) ∧ W.cell? ⟨P, f, none⟩ = some (.int .i64 zf) ∧ W.cell? ⟨P, t, none⟩ = some (.int .i64 zt)) := fun W kw2 => by
                    have hb2 := (kw2.kept.block eb (lt_of_heap hbx) (fun e => e)).trans hbx
                    have op2 := (HST.out.2.1.on ka).on kw2.kept
                    exact ⟨kw2, (cell_of hb2 0).trans rfl, (cell_of hb2 1).trans rfl, (cell_of hb2 2).trans rfl, (op2.cell1 ekI hzf rfl).1, (op2.cell1 ekI hzt rfl).1⟩
                  have HXX : Hid (j < gl ∧ (inM xl m = true → zf < zt) ∧ Kept WE (WE.alloc (egO ⟨(f : Int), (t : Int), xl⟩))) := ⟨hlt, hlt2, ka⟩
                  have f1 : (f : Int) < (p : Int) := by omega
                  have f2 : (t : Int) < (p : Int) := by omega
                  clear oe op kw hc hx hxE hfx hfp htp hzf hzt hlt2 hL ka hbx hlt HL0 HP0
                  go_upto_region 29 with fail
                  rw [← eeb]
                  generalize WE.alloc (egO ⟨(f : Int), (t : Int), xl⟩) = W8 at HCX HXX ⊢
                  obtain ⟨-, q0, q1, q2, q3, q4⟩ := HCX.out W8 (Grw.refl _)
                  clear eeb p0 p1 p2 hb
                  cases hin : inM xl m with
                  | true =>
                    rw [hin] at HIN
                    have hz : ¬ zf ≥ zt := by have := HXX.out.2.1 hin; omega
                    clear hin
                    go_region_held3 (fun W => Grw W8 W ∧ W.cell? ⟨eb, 0, none⟩ = some (.int .i64 f) ∧ W.cell? ⟨eb, 1, none⟩ = some (.int .i64 t) ∧ W.cell? ⟨eb, 2, none⟩ = some (.int .i64 xl) ∧ W.cell? ⟨P, f, none⟩ = some (.int .i64 zf) ∧ W.cell? ⟨P, t, none⟩ = some (.int .i64 zt))
                      (exact HCX.out _ (by (repeat (first | exact Grw.refl _ | assumption | (refine Grw.trans ?_ (by assumption)) | apply Grw.alloc | apply Grw.drew | apply Grw.drewN)); done))
                      (first
                      | (go_at_call 20; refine Calls.mono (HIN.out _) ?_; rintro r w9 ⟨rfl, g9⟩))
                    have HK9 : Hid (Grw W8 w9) := (by (repeat (first | exact Grw.refl _ | assumption | (refine Grw.trans ?_ (by assumption)) | apply Grw.alloc | apply Grw.drew | apply Grw.drewN)); done)
                    go_wp2_with fail
                    have k9 := HXX.out.2.2.trans' HK9.out.kept
                    exact ⟨⟨j + 1, rfl, HXX.out.1, HST.out.1.on k9, HST.out.2.1.on k9, HST.out.2.2.trans' k9⟩, by simp only [intOf]; have := HXX.out.1; omega⟩
                  | false =>
                    rw [hin] at HIN
                    clear hin
                    refine wp_region_held_drew (S := (fun W => Grw W8 W ∧ W.cell? ⟨eb, 0, none⟩ = some (.int .i64 f) ∧ W.cell? ⟨eb, 1, none⟩ = some (.int .i64 t) ∧ W.cell? ⟨eb, 2, none⟩ = some (.int .i64 xl) ∧ W.cell? ⟨P, f, none⟩ = some (.int .i64 zf) ∧ W.cell? ⟨P, t, none⟩ = some (.int .i64 zt))) (by kernel_rfl) (HCX.out _ (by (repeat (first | exact Grw.refl _ | assumption | (refine Grw.trans ?_ (by assumption)) | apply Grw.alloc | apply Grw.drew | apply Grw.drewN)); done)) (fun hHeld => ?_)
                    refine wpAnyH_take (i := 0) (oi := { dst := some 98, op := Op.fieldAddr 33 (Operand.tmp 16) 2, type := 0, pos := "law.go:240", after := #[], guard := none }) (v := .pointer (some ⟨eb, 2, none⟩)) rfl (by kernel_rfl) (by kernel_rfl) (by kernel_rfl) (fun _ _ _ h => h) (Or.inl ⟨by rfl, ?_⟩) hHeld ?_
                    · intro w hSw; (try dsimp only at hSw); go_simp; try with_reducible rfl
                    try simp only [Act.put, List.setIfInBounds_toArray, List.set_cons_zero, List.set_cons_succ]
                    refine wpAnyH_take (i := 1) (oi := { dst := some 99, op := Op.load 3 (Operand.tmp 98), type := 3, pos := "law.go:240", after := #[{ on := 0, ground := Ground.data }], guard := none }) (v := .int .i64 xl) rfl (by kernel_rfl) (by kernel_rfl) (by kernel_rfl) (fun _ _ _ h => h) (Or.inl ⟨by rfl, ?_⟩) hHeld ?_
                    · intro w hSw; (try dsimp only at hSw); go_simp; try with_reducible rfl
                    try simp only [Act.put, List.setIfInBounds_toArray, List.set_cons_zero, List.set_cons_succ]
                    refine wpAnyH_take (i := 2) (oi := { dst := some 100, op := Op.move (Operand.tmp 2), type := 3, pos := "law.go:240", after := #[], guard := none }) (v := .int .i64 m) rfl (by kernel_rfl) (by kernel_rfl) (by kernel_rfl) (fun _ _ _ h => h) (Or.inl ⟨by rfl, ?_⟩) hHeld ?_
                    · intro w hSw; (try dsimp only at hSw); go_simp; try with_reducible rfl
                    try simp only [Act.put, List.setIfInBounds_toArray, List.set_cons_zero, List.set_cons_succ]
                    refine wpAnyH_ready (rs := [3]) (by kernel_rfl) (by simp) ?_
                    refine AllReadyH.cons (o := { dst := some 101, op := Op.call { callee := Callee.value (Operand.func 20), args := #[Operand.tmp 99, Operand.tmp 100], argTypes := #[3, 3] }, type := 4, pos := "law.go:240", after := #[{ on := 1, ground := Ground.data }, { on := 2, ground := Ground.data }], guard := none }) rfl (fun K hK => ?_) AllReadyH.nil
                    go_simp
                    go_at_call 20
                    refine Calls.mono (HIN.out _) ?_
                    rintro r w9 ⟨rfl, g9⟩
                    go_wp2_with fail
                    refine hK.out _ _ (HCX.out _ (by (repeat (first | exact Grw.refl _ | assumption | (refine Grw.trans ?_ (by assumption)) | apply Grw.alloc | apply Grw.drew | apply Grw.drewN)); done)) (fun hHeld => ?_)
                    clear hK K
                    try simp only [Act.put, List.setIfInBounds_toArray, List.set_cons_zero, List.set_cons_succ]
                    refine wpAnyH_take (i := 4) (oi := { dst := some 102, op := Op.move (Operand.tmp 101), type := 4, pos := "law.go:240", after := #[{ on := 3, ground := Ground.data }, { on := 3, ground := Ground.chain }], guard := none }) (v := .bool false) rfl (by kernel_rfl) (by kernel_rfl) (by kernel_rfl) (fun _ _ _ h => h) (Or.inl ⟨by rfl, ?_⟩) hHeld ?_
                    · intro w hSw; (try dsimp only at hSw); go_simp; try with_reducible rfl
                    try simp only [Act.put, List.setIfInBounds_toArray, List.set_cons_zero, List.set_cons_succ]
                    refine wpAnyH_take (i := 5) (oi := { dst := some 103, op := Op.move (Operand.tmp 12), type := 41, pos := "law.go:240", after := #[{ on := 4, ground := Ground.guard }], guard := some (4, true) }) (v := undef) rfl (by kernel_rfl) (by kernel_rfl) (by kernel_rfl) (fun _ _ _ h => h) (Or.inr ⟨by rfl, rfl⟩) hHeld ?_
                    try simp only [Act.put, List.setIfInBounds_toArray, List.set_cons_zero, List.set_cons_succ]
                    refine wpAnyH_take (i := 6) (oi := { dst := some 104, op := Op.fieldAddr 33 (Operand.tmp 16) 0, type := 0, pos := "law.go:240", after := #[{ on := 4, ground := Ground.guard }], guard := some (4, true) }) (v := undef) rfl (by kernel_rfl) (by kernel_rfl) (by kernel_rfl) (fun _ _ _ h => h) (Or.inr ⟨by rfl, rfl⟩) hHeld ?_
                    try simp only [Act.put, List.setIfInBounds_toArray, List.set_cons_zero, List.set_cons_succ]
                    refine wpAnyH_take (i := 7) (oi := { dst := some 105, op := Op.load 3 (Operand.tmp 104), type := 3, pos := "law.go:240", after := #[{ on := 6, ground := Ground.data }, { on := 4, ground := Ground.guard }], guard := some (4, true) }) (v := undef) rfl (by kernel_rfl) (by kernel_rfl) (by kernel_rfl) (fun _ _ _ h => h) (Or.inr ⟨by rfl, rfl⟩) hHeld ?_
                    try simp only [Act.put, List.setIfInBounds_toArray, List.set_cons_zero, List.set_cons_succ]
                    refine wpAnyH_take (i := 8) (oi := { dst := some 106, op := Op.indexAddr 41 (Operand.tmp 103) (Operand.tmp 105), type := 0, pos := "law.go:240", after := #[{ on := 5, ground := Ground.data }, { on := 7, ground := Ground.data }, { on := 4, ground := Ground.guard }], guard := some (4, true) }) (v := undef) rfl (by kernel_rfl) (by kernel_rfl) (by kernel_rfl) (fun _ _ _ h => h) (Or.inr ⟨by rfl, rfl⟩) hHeld ?_
                    try simp only [Act.put, List.setIfInBounds_toArray, List.set_cons_zero, List.set_cons_succ]
                    refine wpAnyH_take (i := 9) (oi := { dst := some 107, op := Op.load 3 (Operand.tmp 106), type := 3, pos := "law.go:240", after := #[{ on := 8, ground := Ground.data }, { on := 4, ground := Ground.guard }], guard := some (4, true) }) (v := undef) rfl (by kernel_rfl) (by kernel_rfl) (by kernel_rfl) (fun _ _ _ h => h) (Or.inr ⟨by rfl, rfl⟩) hHeld ?_
                    try simp only [Act.put, List.setIfInBounds_toArray, List.set_cons_zero, List.set_cons_succ]
                    refine wpAnyH_take (i := 10) (oi := { dst := some 108, op := Op.move (Operand.tmp 12), type := 41, pos := "law.go:240", after := #[{ on := 4, ground := Ground.guard }], guard := some (4, true) }) (v := undef) rfl (by kernel_rfl) (by kernel_rfl) (by kernel_rfl) (fun _ _ _ h => h) (Or.inr ⟨by rfl, rfl⟩) hHeld ?_
                    try simp only [Act.put, List.setIfInBounds_toArray, List.set_cons_zero, List.set_cons_succ]
                    refine wpAnyH_take (i := 11) (oi := { dst := some 109, op := Op.fieldAddr 33 (Operand.tmp 16) 1, type := 0, pos := "law.go:240", after := #[{ on := 4, ground := Ground.guard }], guard := some (4, true) }) (v := undef) rfl (by kernel_rfl) (by kernel_rfl) (by kernel_rfl) (fun _ _ _ h => h) (Or.inr ⟨by rfl, rfl⟩) hHeld ?_
                    try simp only [Act.put, List.setIfInBounds_toArray, List.set_cons_zero, List.set_cons_succ]
                    refine wpAnyH_take (i := 12) (oi := { dst := some 110, op := Op.load 3 (Operand.tmp 109), type := 3, pos := "law.go:240", after := #[{ on := 11, ground := Ground.data }, { on := 4, ground := Ground.guard }], guard := some (4, true) }) (v := undef) rfl (by kernel_rfl) (by kernel_rfl) (by kernel_rfl) (fun _ _ _ h => h) (Or.inr ⟨by rfl, rfl⟩) hHeld ?_
                    try simp only [Act.put, List.setIfInBounds_toArray, List.set_cons_zero, List.set_cons_succ]
                    refine wpAnyH_take (i := 13) (oi := { dst := some 111, op := Op.indexAddr 41 (Operand.tmp 108) (Operand.tmp 110), type := 0, pos := "law.go:240", after := #[{ on := 10, ground := Ground.data }, { on := 12, ground := Ground.data }, { on := 4, ground := Ground.guard }], guard := some (4, true) }) (v := undef) rfl (by kernel_rfl) (by kernel_rfl) (by kernel_rfl) (fun _ _ _ h => h) (Or.inr ⟨by rfl, rfl⟩) hHeld ?_
                    try simp only [Act.put, List.setIfInBounds_toArray, List.set_cons_zero, List.set_cons_succ]
                    refine wpAnyH_take (i := 14) (oi := { dst := some 112, op := Op.load 3 (Operand.tmp 111), type := 3, pos := "law.go:240", after := #[{ on := 13, ground := Ground.data }, { on := 4, ground := Ground.guard }], guard := some (4, true) }) (v := undef) rfl (by kernel_rfl) (by kernel_rfl) (by kernel_rfl) (fun _ _ _ h => h) (Or.inr ⟨by rfl, rfl⟩) hHeld ?_
                    try simp only [Act.put, List.setIfInBounds_toArray, List.set_cons_zero, List.set_cons_succ]
                    refine wpAnyH_take (i := 15) (oi := { dst := some 113, op := Op.binOp BinOp.geq 3 (Operand.tmp 107) (Operand.tmp 112) 3, type := 4, pos := "law.go:240", after := #[{ on := 9, ground := Ground.data }, { on := 14, ground := Ground.data }, { on := 4, ground := Ground.guard }], guard := some (4, true) }) (v := undef) rfl (by kernel_rfl) (by kernel_rfl) (by kernel_rfl) (fun _ _ _ h => h) (Or.inr ⟨by rfl, rfl⟩) hHeld ?_
                    try simp only [Act.put, List.setIfInBounds_toArray, List.set_cons_zero, List.set_cons_succ]
                    refine wpAnyH_take (i := 16) (oi := { dst := some 114, op := Op.pick (Operand.tmp 102) (Operand.tmp 113) (Operand.const (Value.bool false)), type := 4, pos := "law.go:240", after := #[{ on := 4, ground := Ground.data }, { on := 15, ground := Ground.data }], guard := none }) (v := .bool false) rfl (by kernel_rfl) (by kernel_rfl) (by kernel_rfl) (fun _ _ _ h => h) (Or.inl ⟨by rfl, ?_⟩) hHeld ?_
                    · intro w hSw; (try dsimp only at hSw); go_simp; try with_reducible rfl
                    try simp only [Act.put, List.setIfInBounds_toArray, List.set_cons_zero, List.set_cons_succ]
                    refine wpAnyH_done (by kernel_rfl) ?_ _
                    have HK9 : Hid (Grw W8 w9) := (by (repeat (first | exact Grw.refl _ | assumption | (refine Grw.trans ?_ (by assumption)) | apply Grw.alloc | apply Grw.drew | apply Grw.drewN)); done)
                    go_wp2_with fail
                    have k9 := HXX.out.2.2.trans' HK9.out.kept
                    exact ⟨⟨j + 1, rfl, HXX.out.1, HST.out.1.on k9, HST.out.2.1.on k9, HST.out.2.2.trans' k9⟩, by simp only [intOf]; have := HXX.out.1; omega⟩
                · obtain rfl : gl = j := by omega
                  have d3 : ¬ (gl : Int) < (gl : Int) := by omega
                  clear oe op kw hlt
                  go_wp2_with fail
                  go_ret
                  exact ⟨rfl, K3.out.1.trans' HST.out.2.2⟩
        · obtain rfl : c = true := by
            obtain ⟨x, h1, h2⟩ := HOD.out.stuck HJ.out hql hfr
            exact HC.out.2 ⟨x, h1, way_jda.1 h2⟩
          clear hc kl hql hfr HCS hlt
          go_wp2_with fail
          go_ret
          exact ⟨rfl, K3.out.1.trans' HK.out⟩
end Go.Proofs.YtbhihmkgimdjpaaDoor
