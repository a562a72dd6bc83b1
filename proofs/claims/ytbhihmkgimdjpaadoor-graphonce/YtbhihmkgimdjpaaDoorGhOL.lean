/- What is proved: the law GraphOnce; the list lies in memory, and the library's table as its text lays it. -/
import Derived.Test.YtbhihmkgimdjpaaDoorGhOn
import Derived.Test.YtbhihmkgimdjpaaDoorGhOp
namespace Go.Proofs.YtbhihmkgimdjpaaDoor
open Go.RowKit

def onE : Option Eg → Eg
  | some e => e
  | none => ⟨0, 0, 0⟩
def onB : Option Eg → Bool
  | some _ => true
  | none => false
theorem onV_eq (o : Option Eg) : onV o = .tuple #[egV (onE o), .bool (onB o)] := by cases o <;> rfl
theorem no_next {E : List Eg} {m lb : Int} {j : Nat} {x : Eg} (h : ∀ i x, i < j → (srt ltE E)[i]? = some x → clo E m lb x = false) (hx : (srt ltE E)[j]? = some x) (hc : clo E m lb x = false) : ∀ i x, i < j + 1 → (srt ltE E)[i]? = some x → clo E m lb x = false := fun i y hi hy => by
  by_cases e : i = j
  · subst e
    rw [hx] at hy
    cases hy
    exact hc
  · exact h i y (by omega) hy
theorem keptS {w w' : World} (h : Same (fun k => w.heap.size ≤ k) w w') : Kept w w' := h.mono fun _ hi e => absurd hi (Nat.not_lt.2 e)
set_option maxRecDepth 100000 in
set_option maxHeartbeats 6400000 in
theorem once_law (w : World) (n : Int) (a : Option Addr) (cap : Nat) (l : List Eg) (m lb : Int) (hA : ArgE w a l) (hT : TabG w) : Calls Tryd.prog 7 #[.int .i64 n, .slice a l.length cap, .int .i64 m, .int .i64 lb] w fun r w' => r = .returned (.bool true) ∧ Kept w w' := by
  have HT : Hid (TabG w) := hT
  have HAN : Hid _ := anchor19 hT
  have HA : Hid (ArgE w a l) := hA
  clear hT hA
  by_cases hbad : n < 1 ∨ 60 < n ∨ 600 < l.length
  · have HB : Hid (n < 1 ∨ 60 < n ∨ 600 < l.length) := hbad
    obtain ⟨L, eL⟩ : ∃ L, L = l.length := ⟨_, rfl⟩
    rw [← eL] at hbad ⊢
    clear eL
    by_cases h1 : n < 1
    · have d1 : decide (n < 1) = true := decide_eq_true h1
      clear hbad
      go_enter Tryd.func7, Tryd.ntmps7
      go_wp2_with fail
      refine Calls.mono HAN.out ?_
      rintro r w1 ⟨rfl, k1⟩
      have K1 : Hid (Kept w w1) := k1
      go_wp2_with fail
      go_ret
      exact ⟨rfl, K1.out⟩
    · have d1 : decide (n < 1) = false := decide_eq_false h1
      by_cases h2 : n > 60
      · have d2 : decide (n > 60) = true := decide_eq_true h2
        clear hbad
        go_enter Tryd.func7, Tryd.ntmps7
        go_wp2_with fail
        refine Calls.mono HAN.out ?_
        rintro r w1 ⟨rfl, k1⟩
        have K1 : Hid (Kept w w1) := k1
        go_wp2_with fail
        go_ret
        exact ⟨rfl, K1.out⟩
      · have d2 : decide (n > 60) = false := decide_eq_false h2
        have h3 : (L : Int) > 600 := by omega
        have d3 : decide ((L : Int) > 600) = true := decide_eq_true h3
        clear hbad
        go_enter Tryd.func7, Tryd.ntmps7
        go_wp2_with fail
        refine Calls.mono HAN.out ?_
        rintro r w1 ⟨rfl, k1⟩
        have K1 : Hid (Kept w w1) := k1
        go_wp2_with fail
        go_ret
        exact ⟨rfl, K1.out⟩
  · obtain ⟨p, rfl⟩ : ∃ p : Nat, n = p := ⟨n.toNat, by omega⟩
    have h1 : ¬ (p : Int) < 1 := by omega
    have h2 : ¬ (p : Int) > 60 := by omega
    have h3 : ¬ ((l.length : Nat) : Int) > 600 := by omega
    have d1 : decide ((p : Int) < 1) = false := decide_eq_false h1
    have d2 : decide ((p : Int) > 60) = false := decide_eq_false h2
    have d3 : decide (((l.length : Nat) : Int) > 600) = false := decide_eq_false h3
    have HB : Hid (∀ W, Kept w W → _) := fun W k => build19 (n := p) (by omega) W a cap l (HA.out.at_.on k) HA.out.ok (by omega)
    have hpn : p ≤ 60 := by omega
    obtain ⟨E, eE⟩ : ∃ E, E = bld p [] l := ⟨_, rfl⟩
    simp only [← eE] at HB
    generalize l.length = L at *
    clear hbad eE
    go_enter Tryd.func7, Tryd.ntmps7
    go_wp2_with fail
    refine Calls.mono HAN.out ?_
    rintro r w1 ⟨rfl, k1⟩
    have K1 : Hid (Kept w w1) := k1
    have HB1 : Hid _ := HB.out w1 k1
    clear k1 HB HAN
    go_wp2_with fail
    refine Calls.mono HB1.out ?_
    rintro r w2 ⟨⟨gb, rfl, hg⟩, k2⟩
    have HG : Hid (Gb w1.heap.size w2 gb p E ∧ Kept w w2) := ⟨hg, K1.out.trans' k2⟩
    have HO : Hid _ := once19 hg.g (HT.out.on HG.out.2) m lb
    clear hg k2 HB1
    go_wp2_with fail
    refine Calls.mono HO.out ?_
    rintro r w3 ⟨rfl, s3⟩
    have K3 : Hid (Kept w w3 ∧ Kept w2 w3) := ⟨HG.out.2.trans' (keptS s3), keptS s3⟩
    rw [onV_eq]
    obtain ⟨e0, ee0⟩ : ∃ e0, e0 = onE (onceR E m lb) := ⟨_, rfl⟩
    obtain ⟨ok0, eok⟩ : ∃ ok0, ok0 = onB (onceR E m lb) := ⟨_, rfl⟩
    rw [← ee0, ← eok]
    have HRES : Hid (e0 = onE (onceR E m lb) ∧ ok0 = onB (onceR E m lb)) := ⟨ee0, eok⟩
    have HED : Hid (∀ W, Kept w3 W → _) := fun W k => edges19 (HG.out.1.g.on (K3.out.2.trans' k))
    have HBX : Hid ((w3.alloc (egO e0)).heap[w3.heap.size]? = some (egO e0)) := heap_new w3 _
    obtain ⟨x0, y0, l0⟩ := e0
    clear s3 HO ee0 eok
    go_wp2_with fail
    refine Calls.mono (HED.out _ ((Same.refl _ w3).alloc _)) ?_
    rintro r w4 ⟨v, rfl, o4, k4⟩
    obtain ⟨al, c4, rfl, -⟩ := o4.shape
    have hsl : (srt ltE E).length ≤ 65536 := by rw [srt_len]; exact HG.out.1.g.len
    obtain ⟨gl, egl⟩ : ∃ gl, gl = (srt ltE E).length := ⟨_, rfl⟩
    rw [← egl] at o4 hsl ⊢
    have HGL : Hid (gl = (srt ltE E).length) := egl
    obtain ⟨h3', eh3⟩ : ∃ h, h = w3.heap.size := ⟨_, rfl⟩
    have HL0 : Hid (w4.heap[h3']? = some (egO ⟨x0, y0, l0⟩) ∧ OwnE w.heap.size w4 (.slice al gl c4) (srt ltE E) ∧ Gb w1.heap.size w4 gb p E ∧ Kept w w4) := by
      have ka : Kept w3 (w3.alloc (egO ⟨x0, y0, l0⟩)) := (Same.refl _ w3).alloc _
      refine ⟨by rw [eh3]; exact (k4.block _ (lt_of_heap HBX.out) (fun e => e)).trans HBX.out, o4.base (by rw [World.size_alloc]; have := K3.out.1.size; omega), HG.out.1.on ((K3.out.2.trans' ka).trans' k4), (K3.out.1.trans' ka).trans' k4⟩
    rw [← eh3]
    clear o4 k4 egl HED HBX eh3
    go_wp2_with fail
    go_loopw [43] (fun i wr => ∃ j : Nat, i = .int .i64 (j : Int) ∧ j ≤ gl ∧ (wr.heap[h3']? = some (egO ⟨x0, y0, l0⟩) ∧ OwnE w.heap.size wr (.slice al gl c4) (srt ltE E) ∧ Gb w1.heap.size wr gb p E ∧ Kept w wr) ∧ ∀ i x, i < j → (srt ltE E)[i]? = some x → clo E m lb x = false) (fun i _ => gl - (intOf i).toNat)
    case atStart => exact ⟨0, rfl, Nat.zero_le _, HL0.out, fun i x hi => by omega⟩
    case round =>
      obtain ⟨j, rfl, hj, hst, hno⟩ := hrel
      rename World => WL
      have HST : Hid (WL.heap[h3']? = some (egO ⟨x0, y0, l0⟩) ∧ OwnE w.heap.size WL (.slice al gl c4) (srt ltE E) ∧ Gb w1.heap.size WL gb p E ∧ Kept w WL) := hst
      have HNO : Hid (∀ i x, i < j → (srt ltE E)[i]? = some x → clo E m lb x = false) := hno
      by_cases hlt : j < gl
      · have c1 : (j : Int) < (gl : Int) := by omega
        have c2 : (j : Int) ≤ 65536 := by omega
        obtain ⟨x, hx⟩ : ∃ x, (srt ltE E)[j]? = some x := ⟨_, List.getElem?_eq_getElem (by rw [← show gl = _ from HGL.out]; exact hlt)⟩
        obtain ⟨bb, off, rfl, hb, hc⟩ := hst.2.1.at ekE j x hx
        have p0 : WL.cell? ⟨bb, off + j * 3, none⟩ = some (.int .i64 x.f) := hc 0 _ rfl
        have p1 : WL.cell? ⟨bb, off + j * 3 + 1, none⟩ = some (.int .i64 x.t) := hc 1 _ rfl
        have p2 : WL.cell? ⟨bb, off + j * 3 + 2, none⟩ = some (.int .i64 x.l) := hc 2 _ rfl
        have ka : Kept WL (WL.alloc (egO x)) := (Same.refl _ WL).alloc _
        have hfx := HG.out.1.g.fit x ((srt_perm ltE E).mem_iff.1 (List.mem_of_getElem? hx))
        have HRE : Hid _ := reach19 (hst.2.2.1.g.on ka) (HT.out.on (hst.2.2.2.trans' ka)) x.t x.f m
        have HX : Hid ((srt ltE E)[j]? = some x ∧ j < gl ∧ EFit p x) := ⟨hx, hlt, hfx⟩
        obtain ⟨xf, xt, xl⟩ := x
        simp only at p0 p1 p2 HRE
        clear hst hno hc hx ka hfx
        have HKA : Hid (Kept WL (WL.alloc (egO ⟨xf, xt, xl⟩))) := (Same.refl _ WL).alloc _
        have HXB : Hid ((WL.alloc (egO ⟨xf, xt, xl⟩)).heap[WL.heap.size]? = some (egO ⟨xf, xt, xl⟩)) := heap_new WL _
        by_cases hl : xl = lb
        · obtain rfl : lb = xl := hl.symm
          have hl1 : (lb == lb) = true := by simp
          by_cases hft : xf = xt
          · subst hft
            have hf1 : (xf == xf) = true := by simp
            have hcl : clo E m lb ⟨xf, xf, lb⟩ = true := clo_iff.2 ⟨rfl, .inl rfl⟩
            have HFD : Hid (onceR E m lb = some ⟨xf, xf, lb⟩) := find_none_take HNO.out HX.out.1 hcl
            have hr1 := HRES.out.1
            have hr2 := HRES.out.2
            rw [HFD.out] at hr1 hr2
            simp only [onE, onB, Eg.mk.injEq] at hr1 hr2
            obtain ⟨rfl, rfl, rfl⟩ := hr1
            subst hr2
            have HE0 : Hid ((WL.alloc (egO ⟨y0, y0, l0⟩)).heap[h3']? = some (egO ⟨y0, y0, l0⟩)) := (HKA.out.block _ (lt_of_heap HST.out.1) (fun e => e)).trans HST.out.1
            clear hl HRE hlt hcl
            go_upto_region 14 with fail
            have hb3 := HXB.out
            have he3 := HE0.out
            have HS5 : Hid (Kept w (WL.alloc (egO ⟨y0, y0, l0⟩))) := HST.out.2.2.2.trans' HKA.out
            clear p0 p1 p2 HKA HL0
            generalize WL.alloc (egO ⟨y0, y0, l0⟩) = W5 at HXB HE0 HS5 hb3 he3 ⊢
            generalize WL.heap.size = eb at HXB hb3 ⊢
            have b0 := (cell_of hb3 0).trans (show (#[Value.int .i64 y0, .int .i64 y0, .int .i64 l0] : Array Value)[0]? = some (.int .i64 y0) from rfl)
            have b1 := (cell_of hb3 1).trans (show (#[Value.int .i64 y0, .int .i64 y0, .int .i64 l0] : Array Value)[1]? = some (.int .i64 y0) from rfl)
            have b2 := (cell_of hb3 2).trans (show (#[Value.int .i64 y0, .int .i64 y0, .int .i64 l0] : Array Value)[2]? = some (.int .i64 l0) from rfl)
            have e0 := (cell_of he3 0).trans (show (#[Value.int .i64 y0, .int .i64 y0, .int .i64 l0] : Array Value)[0]? = some (.int .i64 y0) from rfl)
            have e1 := (cell_of he3 1).trans (show (#[Value.int .i64 y0, .int .i64 y0, .int .i64 l0] : Array Value)[1]? = some (.int .i64 y0) from rfl)
            have e2 := (cell_of he3 2).trans (show (#[Value.int .i64 y0, .int .i64 y0, .int .i64 l0] : Array Value)[2]? = some (.int .i64 l0) from rfl)
            clear hb3 he3
            go_wp2_with fail
            go_ret
            exact ⟨rfl, HS5.out⟩
          · have hf1 : (xf == xt) = false := by simpa using hft
            go_wp2_with fail
            refine Calls.mono HRE.out ?_
            rintro r w5 ⟨⟨v, rfl, hv⟩, k5⟩
            have hcw : clo E m lb ⟨xf, xt, lb⟩ = v := by
              have fit := HX.out.2.2
              rw [Bool.eq_iff_iff, clo_iff, hv]
              constructor
              · rintro ⟨-, h | h⟩
                · exact absurd h.symm hft
                · exact ⟨nd_iff.2 ⟨fit.t0, fit.tn⟩, nd_iff.2 ⟨fit.f0, fit.fn⟩, h⟩
              · rintro ⟨-, -, h⟩
                exact ⟨rfl, .inr h⟩
            have HK5 : Hid (Kept WL w5) := HKA.out.trans' k5
            cases v with
            | false =>
              have HCL : Hid _ := hcw
              clear hcw hv k5 HRE hft hlt
              go_wp2_with fail
              have ka := HK5.out
              exact ⟨⟨j + 1, rfl, HX.out.2.1, ⟨(ka.block _ (lt_of_heap HST.out.1) (fun e => e)).trans HST.out.1, HST.out.2.1.on ka, HST.out.2.2.1.on ka, HST.out.2.2.2.trans' ka⟩, no_next HNO.out HX.out.1 HCL.out⟩, by simp only [intOf]; have := HX.out.2.1; omega⟩
            | true =>
              have HFD : Hid (onceR E m lb = some ⟨xf, xt, lb⟩) := find_none_take HNO.out HX.out.1 hcw
              have hr1 := HRES.out.1
              have hr2 := HRES.out.2
              rw [HFD.out] at hr1 hr2
              simp only [onE, onB, Eg.mk.injEq] at hr1 hr2
              obtain ⟨rfl, rfl, rfl⟩ := hr1
              subst hr2
              have he3 : w5.heap[h3']? = some (egO ⟨x0, y0, l0⟩) := (HK5.out.block _ (lt_of_heap HST.out.1) (fun e => e)).trans HST.out.1
              have hb3 : w5.heap[WL.heap.size]? = some (egO ⟨x0, y0, l0⟩) := (k5.block _ (lt_of_heap HXB.out) (fun e => e)).trans HXB.out
              have HS5 : Hid (Kept w w5) := HST.out.2.2.2.trans' HK5.out
              clear hcw hv k5 HRE hft hlt p0 p1 p2 HKA HL0
              generalize WL.heap.size = eb at HXB hb3 ⊢
              have b0 := (cell_of hb3 0).trans (show (#[Value.int .i64 x0, .int .i64 y0, .int .i64 l0] : Array Value)[0]? = some (.int .i64 x0) from rfl)
              have b1 := (cell_of hb3 1).trans (show (#[Value.int .i64 x0, .int .i64 y0, .int .i64 l0] : Array Value)[1]? = some (.int .i64 y0) from rfl)
              have b2 := (cell_of hb3 2).trans (show (#[Value.int .i64 x0, .int .i64 y0, .int .i64 l0] : Array Value)[2]? = some (.int .i64 l0) from rfl)
              have e0 := (cell_of he3 0).trans (show (#[Value.int .i64 x0, .int .i64 y0, .int .i64 l0] : Array Value)[0]? = some (.int .i64 x0) from rfl)
              have e1 := (cell_of he3 1).trans (show (#[Value.int .i64 x0, .int .i64 y0, .int .i64 l0] : Array Value)[1]? = some (.int .i64 y0) from rfl)
              have e2 := (cell_of he3 2).trans (show (#[Value.int .i64 x0, .int .i64 y0, .int .i64 l0] : Array Value)[2]? = some (.int .i64 l0) from rfl)
              clear hb3 he3
              go_wp2_with fail
              go_ret
              exact ⟨rfl, HS5.out⟩
        · have hl1 : (xl == lb) = false := by simpa using hl
          have hcl : clo E m lb ⟨xf, xt, xl⟩ = false := by
            cases h9 : clo E m lb ⟨xf, xt, xl⟩
            · rfl
            · exact absurd (clo_iff.1 h9).1 hl
          have HCL : Hid _ := hcl
          clear hcl HRE hlt
          go_wp2_with fail
          have ka := HKA.out
          exact ⟨⟨j + 1, rfl, HX.out.2.1, ⟨(ka.block _ (lt_of_heap HST.out.1) (fun e => e)).trans HST.out.1, HST.out.2.1.on ka, HST.out.2.2.1.on ka, HST.out.2.2.2.trans' ka⟩, no_next HNO.out HX.out.1 HCL.out⟩, by simp only [intOf]; have := HX.out.2.1; omega⟩
      · obtain rfl : gl = j := by omega
        have c1 : ¬ (gl : Int) < (gl : Int) := by omega
        have HFD : Hid (onceR E m lb = none) := find_none_all fun i x hi hx => HNO.out i x (by rw [HGL.out]; exact hi) hx
        have hr1 := HRES.out.1
        have hr2 := HRES.out.2
        rw [HFD.out] at hr1 hr2
        simp only [onE, onB, Eg.mk.injEq] at hr1 hr2
        obtain ⟨rfl, rfl, rfl⟩ := hr1
        subst hr2
        have he3 := hst.1
        have HS5 : Hid (Kept w WL) := hst.2.2.2
        have e0 := (cell_of he3 0).trans (show (#[Value.int .i64 0, .int .i64 0, .int .i64 0] : Array Value)[0]? = some (.int .i64 0) from rfl)
        have e1 := (cell_of he3 1).trans (show (#[Value.int .i64 0, .int .i64 0, .int .i64 0] : Array Value)[1]? = some (.int .i64 0) from rfl)
        have e2 := (cell_of he3 2).trans (show (#[Value.int .i64 0, .int .i64 0, .int .i64 0] : Array Value)[2]? = some (.int .i64 0) from rfl)
        clear hst hno he3
        go_wp2_with fail
        go_ret
        exact ⟨rfl, HS5.out⟩
end Go.Proofs.YtbhihmkgimdjpaaDoor
