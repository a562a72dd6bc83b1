/- What is proved: Write of a writer: the bytes one by one; the writer, its device and its space lie in memory, and the writer's numbers fit one another. -/
import Derived.Test.YtpjkmficpedmcaaSMore
namespace Go.Proofs.Ytpjkmficpedmcaa
open Go.RowKit

section
variable {o : Nat → Nat} {t : Nat} {w : World} {p : Pl} {sp wb : Nat} {s : WrS}
/-- The bytes of a slice lie in memory that a writer's call doesn't turn. -/
structure Src8 (o : Nat → Nat) (t : Nat) (w : World) (a : Option Addr) (c : Nat) (l : List Int) : Prop where
  by_ : BytesAt w a l
  tag : ∀ k, InB a l.length k → ¬ Wt t (o k)
  cap : l.length ≤ c
  nil : a = none → l.length = 0 ∧ c = 0
  spot : ∀ ad, a = some ad → ad.spot = none
theorem Src8.on {o' : Nat → Nat} {w' : World} {a : Option Addr} {c : Nat} {l : List Int} (h : Src8 o t w a c l) (hs : Step (Wt t) o w o' w') : Src8 o' t w' a c l :=
  ⟨h.by_.kept hs.same fun k hk => h.tag k hk, fun k hk => by rw [hs.tag k (h.by_.lt hk)]; exact h.tag k hk, h.cap, h.nil, h.spot⟩
/-- While bytes are written: l0 are done, what is left lies at v. -/
def WrL (o : Nat → Nat) (t : Nat) (w : World) (p : Pl) (sp wb : Nat) (s0 : WrS) (l : List Int) (v : Value) (wr' : World) : Prop :=
  ∃ (l0 r : List Int) (s : WrS) (ow : Nat → Nat) (bv gv : Value) (a : Option Addr) (c : Nat), l = l0 ++ r ∧ v = .slice a r.length c ∧ Src8 ow t wr' a c r ∧ wr l0 s0 = (0, s) ∧ WI s ∧ s.sz = s0.sz + l0.length ∧ s.m.B = s0.m.B ∧ s.m.k ≤ s0.m.k + 2 * l0.length ∧ Step (Wt t) o w ow wr' ∧ WrT ow t wr' p sp wb s false bv gv
def WriteP (o : Nat → Nat) (t : Nat) (w : World) (p : Pl) (sp wb : Nat) (s0 : WrS) (l : List Int) (x : Ending) (w' : World) : Prop :=
  x = .returned (.int .i64 (wr l s0).1) ∧ Leaves o t w p sp wb (wr l s0).2 false w' ∧ ((wr l s0).1 = 0 → WI (wr l s0).2 ∧ (wr l s0).2.sz = s0.sz + l.length ∧ (wr l s0).2.m.B = s0.m.B ∧ (wr l s0).2.m.k ≤ s0.m.k + 2 * l.length)

/-- What a chunk makes of the bytes. -/
theorem wr_chunk {l l0 r : List Int} {s0 s1 s2 : WrS} {q : Nat} (el : l = l0 ++ r) (hwr : wr l0 s0 = (0, s1)) (eb : s1.begin = (0, s2)) (hbi : s2.bg.length < s2.m.B) (hp : 0 < r.length) (hq : q = min r.length (s2.m.B - s2.bg.length)) :
    wr (l0 ++ r.take q) s0 = s2.more (r.take q) ∧ (∀ e s3, s2.more (r.take q) = (e, s3) → e ≠ 0 → wr l s0 = (e, s3)) := by
  have hq0 : 0 < q := by omega
  have h1 : wr (l0 ++ r.take q) s0 = s2.more (r.take q) := by
    rw [wr_app l0 _ s0 s1 hwr]
    have htl : (r.take q).length = q := by rw [List.length_take]; omega
    cases hc : r.take q with
    | nil => rw [hc] at htl; simp at htl; omega
    | cons x l' =>
      have := wr_more l' x s1 (by rw [eb]) (by rw [eb, ← hc, htl]; show s2.bg.length + q ≤ s2.m.B; omega)
      rw [this, eb]
  refine ⟨h1, fun e s3 hm he => ?_⟩
  have e2 : l = (l0 ++ r.take q) ++ r.drop q := by rw [List.append_assoc, List.take_append_drop, el]
  rw [e2]
  exact wr_err _ _ _ _ _ (h1.trans hm) he
theorem WrL.next {l l0 r : List Int} {s0 s1 s2 s3 : WrS} {q : Nat} {ow : Nat → Nat} {W : World} {a' : Option Addr} {c' : Nat} {bv gv : Value} (el : l = l0 ++ r) (hwr : wr l0 s0 = (0, s1)) (eb : s1.begin = (0, s2)) (hbi : BI s2) (hp : 0 < r.length) (hq : q = min r.length (s2.m.B - s2.bg.length))
    (hm : s2.more (r.take q) = (0, s3)) (hst : Step (Wt t) o w ow W) (hsrc : Src8 ow t W a' c' (r.drop q)) (h : WrT ow t W p sp wb s3 false bv gv) (es : s2.sz = s1.sz) (em : s2.m = s1.m) (h1 : s1.sz = s0.sz + l0.length) (h2 : s1.m.B = s0.m.B) (h3 : s1.m.k ≤ s0.m.k + 2 * l0.length) :
    WrL o t w p sp wb s0 l (.slice a' (r.length - q) c') W := by
  have htl : (r.take q).length = q := by rw [List.length_take]; omega
  have hlt := hbi.lt
  have hmo := hbi.more (l := r.take q) (by rw [List.length_append, htl]; omega) (by rw [hm])
  rw [hm, htl] at hmo
  obtain ⟨m1, m2, m3, m4⟩ := hmo
  simp only at m1 m2 m3 m4
  refine ⟨l0 ++ r.take q, r.drop q, s3, ow, bv, gv, a', c', by rw [List.append_assoc, List.take_append_drop, el], by rw [List.length_drop], hsrc, (wr_chunk el hwr eb hlt hp hq).1.trans hm, m1 (by omega), ?_, ?_, ?_, hst, h⟩
  · rw [m2, es, h1, List.length_append, htl]; omega
  · rw [m3, em, h2]
  · rw [em] at m4
    rw [List.length_append, htl]; omega

set_option maxRecDepth 100000 in
set_option maxHeartbeats 3200000 in
theorem write_ok8 {bv gv : Value} (h : WrT o t w p sp wb s false bv gv) (ht : Tg t) (hi : WI s) (a : Option Addr) (c : Nat) (l : List Int) (hl : Src8 o t w a c l) (hk : s.m.k + 2 * l.length + 10 < 4611686018427387904) (hz : s.sz + l.length ≤ 549755813888) :
    Calls Try.prog 8 #[.pointer (some ⟨wb, 0, none⟩), .slice a l.length c] w (WriteP o t w p sp wb s l) := by
  have HR : Hid _ := refuse_any h.wtr
  rw [show refu s.br false = 0 by rw [hi.br]; rfl] at HR
  have HST : Hid (WrL o t w p sp wb s l (.slice a l.length c) w) := ⟨[], l, s, o, bv, gv, a, c, rfl, rfl, hl, rfl, hi, rfl, rfl, Nat.le_refl _, Step.refl _ _ _, h⟩
  have hB : s.m.B ≤ 1024 := h.dv.dv.good.b2
  clear h hi hl
  go_enter Try.func8, Try.ntmps8
  go_wp2_with fail
  refine Calls.mono HR.out ?_
  rintro x w0 ⟨rfl, rfl⟩
  go_wp2_with fail
  go_loopw [1] (fun v wr' => WrL o t w0 p sp wb s l v wr') (fun v _ => slen v)
  case atStart => exact HST.out
  case round =>
    obtain ⟨l0, r, s1, ow, bv1, gv1, a1, c1, el, rfl, hsr, hwr, hi1, hsz1, hB1, hk1, hst, hw1⟩ := hrel
    have hln : l.length = l0.length + r.length := by rw [el, List.length_append]
    by_cases hr : r = []
    · subst hr
      have e0 : l0 = l := by rw [el]; simp
      have HF : Hid (WriteP o t w0 p sp wb s l (.returned (.int .i64 0)) wr) := by
        unfold WriteP
        rw [e0] at hwr hsz1 hk1
        rw [hwr]
        exact ⟨rfl, ⟨ow, bv1, gv1, hst, hw1⟩, fun _ => ⟨hi1, hsz1, hB1, hk1⟩⟩
      clear HST HR hsr hwr hi1 hst hw1
      go_wp2_with fail
      go_ret
      exact HF.out
    · have hp : 0 < r.length := List.length_pos_iff.2 hr
      have hb1 : Bl s1.bl := ⟨hi1.mem, by have := hi1.len; omega⟩
      have HB := begin_any hw1 ht hb1
      have hbi := fun h0 => hi1.begin (s := s1) h0
      obtain ⟨e1, s2, eb⟩ : ∃ e1 s2, s1.begin = (e1, s2) := ⟨_, _, rfl⟩
      rw [eb] at HB hbi
      obtain ⟨N, eN⟩ : ∃ N, N = r.length := ⟨_, rfl⟩
      have hN : 0 < N := by omega
      have hN' : decide ((N : Int) > 0) = true := by simpa using hN
      rw [← eN]
      by_cases he : e1 = 0
      · subst he
        obtain ⟨hb2, em, es, eg⟩ := hbi rfl
        simp only at HB hb2 em es eg
        have HB' : Hid _ := HB
        have HA : Hid _ := And.intro el (And.intro hsr (And.intro hwr (And.intro hst (And.intro eb hi1))))
        have HBI : Hid _ := hb2
        have EN : Hid _ := eN
        clear HB hw1 hsr hwr hst eb hi1 HST HR hb1 el hr hp eN
        go_wp2_with fail
        refine Calls.mono HB'.out ?_
        rintro x w2 ⟨rfl, o2, bv2, gv2, st2, h2⟩
        obtain ⟨R, eR⟩ : ∃ R, R = s2.m.B - s2.bg.length := ⟨_, rfl⟩
        have hRB : s2.bg.length < s2.m.B := hb2.lt
        have hB2 : s2.m.B = s.m.B := by rw [em, hB1]
        obtain ⟨q, eq⟩ : ∃ q, q = min N R := ⟨_, rfl⟩
        have HRM : Hid _ := room_any h2.dv.dv h2.wtr (Nat.le_of_lt hRB)
        rw [← eR] at HRM
        have H2 : Hid _ := And.intro st2 h2
        have HEQ : Hid _ := And.intro eR (And.intro eq (And.intro em (And.intro es (And.intro eg hB2))))
        clear st2 h2 hb2 eR em es eg hB2 hRB hbi
        go_upto_region 8 with fail
        go_cut [7] (fun s7 wx => s7 = .int .i64 (q : Int) ∧ Kept w2 wx)
        case first =>
          rcases Nat.lt_or_ge R N with hc | hc
          · have hc' : (R : Int) < (N : Int) := by omega
            obtain rfl : q = R := by omega
            clear eq
            go_wp2_with fail
            refine Calls.mono HRM.out ?_
            rintro x w3 ⟨rfl, k3⟩
            have K3 : Hid _ := k3
            clear k3
            go_wp2_with fail
            go_meet
            exact ⟨rfl, K3.out⟩
          · have hc' : ¬ ((R : Int) < (N : Int)) := by omega
            obtain rfl : q = N := by omega
            clear eq
            go_wp2_with fail
            refine Calls.mono HRM.out ?_
            rintro x w3 ⟨rfl, k3⟩
            have K3 : Hid _ := k3
            clear k3
            go_wp2_with fail
            go_meet
            exact ⟨rfl, K3.out⟩
        case rest =>
          obtain ⟨rfl, k3⟩ := hcut
          obtain ⟨st2, h2⟩ := H2.out
          obtain ⟨eR, eq', em, es, eg, hB2⟩ := HEQ.out
          obtain ⟨el, hsr, hwr, hst, eb, hi1⟩ := HA.out
          have hbi := HBI.out
          have eN := EN.out
          have h3 := h2.kept k3
          have st3 : Step (Wt t) ow wr o2 wc := st2.trans (Step.kept k3)
          have src3 := hsr.on st3
          have hlt2 := hbi.lt
          have hqN : q ≤ r.length := by omega
          have hqc : q ≤ c1 := by have := src3.cap; omega
          obtain ⟨ga, gc, egv, -⟩ := BytesAt.of_row h3.wtr.grow
          have hgr : wc.ownsRow 0 5 1 (.slice ga s2.bg.length gc) s2.bg.length (byt s2.bg) := by rw [← egv]; exact h3.wtr.grow
          have hl3 := lt_of_heap h3.wtr.obj
          have y3 : wc.cell? ⟨wb, 3, none⟩ = some (.slice ga s2.bg.length gc) := by rw [← egv]; exact (cell_of h3.wtr.obj 3).trans rfl
          have htl : (r.take q).length = q := by rw [List.length_take]; omega
          have HCUT1 := fun W => cut_to (oa := a1) (n := N) (c := c1) (by rw [eN]; exact src3.cap) (by rw [eN]; exact src3.nil) q (by omega) W
          obtain ⟨a', hcut2, b1, b2, b3, b4⟩ := cut_from src3.by_ src3.cap src3.nil src3.spot q hqN
          rw [← eN] at hcut2 b2 b4
          have HBB : Hid _ := And.intro b1 (And.intro b2 (And.intro b3 b4))
          have HAPP : Hid (∀ ty, ∃ v' w', (Builtin.append_ #[22, 22] ty #[.slice ga s2.bg.length gc, .slice a1 q c1]).run Try.prog wc.drew = .ok v' w' ∧ AppB 0 (.slice ga s2.bg.length gc) wc.drew (s2.bg ++ r.take q) v' w') := fun ty => by
            have k4 : Kept wc wc.drew := (Same.refl _ wc).drew
            have := app_bytes (w := wc.drew) (base := 0) (c := c1) (own_kept hgr k4 (fun _ _ h => h)) ((take_at src3.by_ q).kept k4 (fun _ _ h => h)) (fun e => by rw [htl]; have := src3.nil e; omega) (by rw [htl]; omega) (Nat.zero_le _) ty
            rw [htl] at this
            exact this
          have HOB : Hid (∀ v3 w3, AppB 0 (.slice ga s2.bg.length gc) wc.drew (s2.bg ++ r.take q) v3 w3 → _) := fun v3 w3 (hap : AppB 0 (.slice ga s2.bg.length gc) wc.drew (s2.bg ++ r.take q) v3 w3) => more_done h3 ht ((Same.refl _ wc).drew) (by rw [egv]; exact hap)
          have H3 : Hid _ := And.intro st3 (And.intro src3 (And.intro egv htl))
          clear h2 st2 h3 st3 src3 egv hgr el hsr hwr hst eb hi1 hbi eR em es eg hB2 eN k3 b1 b2 b3 b4 htl eq' eq hqN hlt2
          go_upto_region 9 with fail
          go_cut [7] (fun s7 wx => s7 = .int .i64 (q : Int) ∧ ∃ v3 w3, AppB 0 (.slice ga s2.bg.length gc) wc.drew (s2.bg ++ r.take q) v3 w3 ∧ wx = w3.setCell ⟨wb, 3, none⟩ v3)
          case first =>
            go_region_law ((refine step_app rfl (.tmp 31) (.tmp 34) 22 rfl (.slice ga s2.bg.length gc) (.slice a1 q c1) rfl rfl _ HAPP.out ?_); rintro v3 w3 hap; obtain ⟨va, vc, rfl, -⟩ := BytesAt.of_row hap.1; have ho3 := (HOB.out _ _ hap).1; have hl4 := lt_of_heap ho3; have z3 : w3.cell? ⟨wb, 3, none⟩ = some gv2 := (cell_of ho3 3).trans rfl; have f3 := frozen_of ho3 3; have HAP : Hid _ := hap; clear hap ho3)
            all_goals
              go_wp2_with fail
              go_meet
              exact ⟨rfl, _, w3, HAP.out, by rw [List.length_append, List.length_take]⟩
          case rest =>
            obtain ⟨rfl, v3, w3, hap, rfl⟩ := hcut
            obtain ⟨st3, src3, egv, htl⟩ := H3.out
            obtain ⟨b1, b2, b3, b4⟩ := HBB.out
            obtain ⟨eR, eq', em, es, eg, hB2⟩ := HEQ.out
            obtain ⟨el, hsr, hwr, hst, eb, hi1⟩ := HA.out
            have hbi := HBI.out
            have eN := EN.out
            obtain ⟨ho3, o5, st5, h5⟩ := HOB.out _ _ hap
            rw [htl] at st5 h5
            have hlt2 := hbi.lt
            have hl5 := lt_of_heap ho3
            have z4 : w3.cell? ⟨wb, 4, none⟩ = some (.int .i64 s2.sz) := (cell_of ho3 4).trans rfl
            have f4 := frozen_of ho3 4
            have hov : s2.sz + q ≤ 549755813888 := by omega
            have hbl5 : (s2.plus (r.take q)).bg.length = s2.bg.length + q := by show (s2.bg ++ r.take q).length = _; rw [List.length_append, htl]
            have HRM2 := room_any h5.dv.dv h5.wtr (by show _ ≤ s2.m.B; rw [hbl5]; omega)
            rw [hbl5] at HRM2
            have hmd := more_def s2 (r.take q)
            rw [List.length_append, htl] at hmd
            have hsrcE : ∀ (o6 : Nat → Nat) (w6 : World), Step (Wt t) o5 ((w3.setCell ⟨wb, 3, none⟩ v3).setCell ⟨wb, 4, none⟩ (.int .i64 ((s2.sz : Int) + (q : Int)))) o6 w6 → Step (Wt t) o w0 o6 w6 ∧ Src8 o6 t w6 a' (c1 - q) (r.drop q) := fun o6 w6 st6 => by
              have stt := (st3.trans st5).trans st6
              have st56 := st5.trans st6
              refine ⟨hst.trans stt, ⟨b1.kept st56.same fun k hk => ?_, fun k hk => ?_, ?_, ?_, b3⟩⟩
              · rw [List.length_drop, ← eN] at hk
                exact src3.tag k (by rw [← eN]; exact b4 k hk)
              · rw [List.length_drop, ← eN] at hk
                have hk' : InB a1 r.length k := by rw [← eN]; exact b4 k hk
                rw [st56.tag k (src3.by_.lt hk')]
                exact src3.tag k hk'
              · rw [List.length_drop]
                have := src3.cap
                omega
              · intro e
                rw [List.length_drop, ← eN]
                exact b2 e
            have HS : Hid _ := hsrcE
            have H5 : Hid _ := And.intro h5 hmd
            have HRM2' : Hid _ := HRM2
            have HAR : Hid (0 < r.length ∧ q = min r.length (s2.m.B - s2.bg.length)) := ⟨by omega, by rw [← eN, ← eR]; exact eq'⟩
            clear hap h5 st5 st3 src3 egv htl b1 b2 b3 b4 el hsr hwr hst eb hi1 hbi eN hmd hsrcE HRM2 eR eq' em es eg ho3
            obtain ⟨R2, eR2⟩ : ∃ R2, R2 = (s2.plus (r.take q)).m.B - (s2.bg.length + q) := ⟨_, rfl⟩
            rw [← eR2] at HRM2'
            have eR2' : R2 = s2.m.B - (s2.bg.length + q) := eR2
            by_cases hf : s2.bg.length + q = s2.m.B
            · obtain rfl : R2 = 0 := by omega
              clear eR2 eR2'
              go_wp2_with fail
              refine Calls.mono HRM2'.out ?_
              rintro x w6 ⟨rfl, k6⟩
              obtain ⟨h5, hmd⟩ := H5.out
              obtain ⟨eR, eq', em, es, eg, hB2⟩ := HEQ.out
              have hbi := HBI.out
              have h6 := h5.kept k6
              have HFL := flush_any h6 ht ⟨hbi.mem, by have := hbi.len; show s2.bl.length < _; omega⟩ hbi.ne (by show s2.m.k + 1 < _; rw [em]; omega)
              rw [if_pos hf] at hmd
              obtain ⟨e3, s3, ef⟩ : ∃ e3 s3, (s2.plus (r.take q)).flush = (e3, s3) := ⟨_, _, rfl⟩
              rw [ef] at HFL hmd
              simp only at HFL
              have HFL' : Hid _ := HFL
              have H6 : Hid _ := And.intro k6 hmd
              clear HFL h6 h5 hmd k6 ef eR eq' em es eg hB2 hbi
              by_cases h3 : e3 = 0
              · subst h3
                go_wp2_with fail
                refine Calls.mono HFL'.out ?_
                rintro x w7 ⟨rfl, o7, bv7, gv7, st7, h7⟩
                have H7 : Hid _ := And.intro st7 h7
                clear st7 h7
                go_wp2_with fail
                go_roundw
                case rel =>
                  obtain ⟨st7, h7⟩ := H7.out
                  obtain ⟨k6, hmd⟩ := H6.out
                  obtain ⟨eR, eq', em, es, eg, hB2⟩ := HEQ.out
                  obtain ⟨el, hsr, hwr, hst, eb, hi1⟩ := HA.out
                  obtain ⟨q1, q2⟩ := HS.out o7 w7 ((Step.kept k6).trans st7)
                  rw [EN.out]
                  exact WrL.next el hwr eb HBI.out HAR.out.1 HAR.out.2 hmd q1 q2 h7 es em hsz1 hB1 hk1
                case measure =>
                  have := HAR.out
                  have := EN.out
                  have := HBI.out.lt
                  simp only [slen]
                  omega
              · have h3' : (e3 != 0) = true := by simpa using h3
                have H3E : Hid _ := h3
                clear h3
                go_wp2_with fail
                refine Calls.mono HFL'.out ?_
                rintro x w7 ⟨rfl, hlv⟩
                have H7 : Hid _ := hlv
                clear hlv
                go_wp2_with fail
                go_ret
                obtain ⟨o7, bv7, gv7, st7, h7⟩ := H7.out
                obtain ⟨k6, hmd⟩ := H6.out
                obtain ⟨el, hsr, hwr, hst, eb, hi1⟩ := HA.out
                obtain ⟨q1, q2⟩ := HS.out o7 w7 ((Step.kept k6).trans st7)
                have hw := (wr_chunk el hwr eb HBI.out.lt HAR.out.1 HAR.out.2).2 e3 s3 hmd H3E.out
                unfold WriteP
                rw [hw]
                exact ⟨rfl, ⟨o7, bv7, gv7, q1, h7⟩, fun e => absurd e H3E.out⟩
            · have hR2 : 0 < R2 := by have := HAR.out.2; have := HBI.out.lt; omega
              have hR2' : ((R2 : Int) == 0) = false := by simp; omega
              have hR2n : ¬ ((R2 : Int) = 0) := by omega
              have HF : Hid _ := hf
              clear eR2 eR2' hf
              go_wp2_with fail
              refine Calls.mono HRM2'.out ?_
              rintro x w6 ⟨rfl, k6⟩
              have H6 : Hid _ := k6
              clear k6
              go_wp2_with fail
              go_roundw
              case rel =>
                obtain ⟨h5, hmd⟩ := H5.out
                rw [if_neg HF.out] at hmd
                obtain ⟨eR, eq', em, es, eg, hB2⟩ := HEQ.out
                obtain ⟨el, hsr, hwr, hst, eb, hi1⟩ := HA.out
                obtain ⟨q1, q2⟩ := HS.out o5 w6 (Step.kept H6.out)
                rw [EN.out]
                exact WrL.next el hwr eb HBI.out HAR.out.1 HAR.out.2 hmd q1 q2 (h5.kept H6.out) es em hsz1 hB1 hk1
              case measure =>
                have := HAR.out
                have := EN.out
                have := HBI.out.lt
                simp only [slen]
                omega
      · have he' : (e1 != 0) = true := by simpa using he
        have HB' : Hid _ := HB
        have HA : Hid _ := And.intro el (And.intro hwr (And.intro hst eb))
        have HE : Hid _ := And.intro he hr
        clear HB hw1 hsr hwr hst eb hi1 HST HR hb1 el hr hp he hbi eN
        go_wp2_with fail
        refine Calls.mono HB'.out ?_
        rintro x w2 ⟨rfl, hlv⟩
        have H2 : Hid _ := hlv
        clear hlv
        go_wp2_with fail
        go_ret
        obtain ⟨el, hwr, hst, eb⟩ := HA.out
        have hw : Go.Proofs.Ytpjkmficpedmcaa.wr l s = (e1, s2) := by
          rw [el, wr_app l0 r s s1 hwr]
          cases hr : r with
          | nil => exact absurd hr HE.out.2
          | cons x r' =>
            rw [Go.Proofs.Ytpjkmficpedmcaa.wr, eb, if_pos (by exact HE.out.1)]
        unfold WriteP
        rw [hw]
        exact ⟨rfl, Leaves.after hst H2.out, fun e => absurd e HE.out.1⟩
end
end Go.Proofs.Ytpjkmficpedmcaa
