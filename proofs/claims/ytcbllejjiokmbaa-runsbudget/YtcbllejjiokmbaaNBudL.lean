/- What is proved: the law RunsBudget answers true, for every budget and list of rows that lies in memory. -/
import Derived.Test.YtcbllejjiokmbaaNOpen
namespace Go.Proofs.Ytcbllejjiokmbaa
open Go.RowKit

/-- What stands in the law's loop. -/
structure Bg (w wr : World) (base b bud : Nat) (v : Value) (xs : List RwM) (pk : Nat) : Prop where
  bf : Bf base wr b 1 bud v xs pk
  le : szs xs ≤ pk
  top : pk ≤ bud
  same : Same (fun k => w.heap.size ≤ k) w wr
theorem Bf.step {w w1 w2 : World} {base b : Nat} {order : Int} {bud : Nat} {v : Value} {xs : List RwM} {pk : Nat} (h : Bf base w1 b order bud v xs pk) (hb : w.heap.size ≤ base) (k : Same (fun k => w.heap.size ≤ k) w w1) (k2 : Same (fun k => k = b ∨ v.ownBlock = some k) w1 w2) : Same (fun k => w.heap.size ≤ k) w w2 :=
  k.trans k2 fun i _ hi => by
    rcases hi with e | e
    · have := h.low; omega
    · have := (OwnR.block h.own e).1; omega
theorem size9_any (w : World) (r : RwM) : Calls Try.prog 12 #[rowV r] w fun e w' => e = .returned (.int .i64 ((if rightR r then (bytesR r).length else 0 : Nat) : Int)) ∧ Kept w w' := by
  by_cases h : rightR r
  · rw [if_pos h]; exact size9_ok w r h
  · rw [if_neg h]; exact size9_no w r h
set_option maxRecDepth 100000 in
set_option maxHeartbeats 4000000 in
theorem budget_law (budget : Int) (w : World) (a : Option Addr) (cap : Nat) (l : List RwM) (h : ArgR w a cap l) : Calls Try.prog 8 #[.int .i64 budget, .slice a l.length cap] w fun e w' => e = .returned (.bool true) ∧ Kept w w' := by
  have HA : Hid (∀ W, _) := anchor10_any
  have HR : Hid _ := h
  by_cases hb1 : budget < 1
  · have d1 : decide (budget < 1) = true := decide_eq_true hb1
    clear h
    go_enter Try.func8, Try.ntmps8
    go_wp2_with fail
    refine Calls.mono (HA.out _) ?_
    rintro e w1 ⟨rfl, k1⟩
    have K1 : Hid _ := k1
    clear k1
    go_wp2_with fail
    go_ret
    exact ⟨rfl, K1.out⟩
  have d1 : decide (budget < 1) = false := decide_eq_false hb1
  by_cases hb2 : 16777216 < budget
  · have d2 : decide (16777216 < budget) = true := decide_eq_true hb2
    clear h
    go_enter Try.func8, Try.ntmps8
    go_wp2_with fail
    refine Calls.mono (HA.out _) ?_
    rintro e w1 ⟨rfl, k1⟩
    have K1 : Hid _ := k1
    clear k1
    go_wp2_with fail
    go_ret
    exact ⟨rfl, K1.out⟩
  have d2 : decide (16777216 < budget) = false := decide_eq_false hb2
  obtain ⟨bud, rfl⟩ : ∃ bud : Nat, budget = (bud : Int) := ⟨budget.toNat, by omega⟩
  have HN : Hid (∀ W, _) := fun W => new10_ok (.inl rfl) (bud := bud) (by omega) (by omega) W
  have hbm : bud ≤ 16777216 := by omega
  obtain ⟨n, en⟩ : ∃ n, n = l.length := ⟨_, rfl⟩
  rw [← en]
  have EN : Hid _ := en
  have hn2 := h.len
  rw [← en] at hn2
  clear h en
  go_enter Try.func8, Try.ntmps8
  go_wp2_with fail
  refine Calls.mono (HA.out _) ?_
  rintro e w1 ⟨rfl, k1⟩
  have K1 : Hid _ := k1
  clear k1
  go_wp2_with fail
  refine Calls.mono (HN.out _) ?_
  rintro e w2 ⟨b, rfl, bf2, k2⟩
  have hbase : w.heap.size ≤ w1.heap.size := K1.out.size
  have BG : Hid (Bg w w2 w1.heap.size b bud (.slice none 0 0) [] 0) := ⟨bf2, Nat.le_refl _, Nat.zero_le _, Kept.to (Same.trans' K1.out k2) _⟩
  clear bf2 k2 HN HA
  generalize w1.heap.size = base at *
  go_wp2_with fail
  go_loopw [7, 8, 9, 35] (fun u7 u8 u9 i wr => ∃ (j : Nat) (v : Value) (xs : List RwM) (pk : Nat), j ≤ n ∧ i = .int .i64 j ∧ u7 = .int .i64 ((szs xs : Nat) : Int) ∧ u8 = .int .i64 (xs.length : Int) ∧ u9 = .int .i64 (pk : Int) ∧ Bg w wr base b bud v xs pk) (fun _ _ _ i _ => n - (intOf i).toNat)
  case atStart => exact ⟨0, _, [], 0, Nat.zero_le _, rfl, rfl, rfl, rfl, BG.out⟩
  case round =>
    clear BG
    obtain ⟨j, v, xs, pk, hj, rfl, rfl, rfl, rfl, bg⟩ := hrel
    have G : Hid _ := bg
    by_cases hlt : j < n
    · have c1 : decide ((j : Int) < (n : Int)) = true := decide_eq_true (by omega)
      have c1' : (j : Int) < (n : Int) := by omega
      obtain ⟨r, hr⟩ : ∃ r, l[j]? = some r := ⟨_, List.getElem?_eq_getElem (by rw [← EN.out]; exact hlt)⟩
      obtain ⟨g, off, ea, hg, x0, x1, x2, x3, x4, x5, x6⟩ := HR.out.rows.kept bg.same (fun k hk e => by have := HR.out.rows.lt hk; omega) j r hr
      subst ea
      have HBX : Hid _ := heap_new wr (.cells #[.int .i64 r.kind, .int .i64 r.time, .int .i64 r.seq, .int .i64 r.index, .int .i64 r.frm, .int .i64 r.til, .string r.body] 26)
      have KB : Hid (Kept wr (wr.alloc (.cells #[.int .i64 r.kind, .int .i64 r.time, .int .i64 r.seq, .int .i64 r.index, .int .i64 r.frm, .int .i64 r.til, .string r.body] 26))) := (Same.refl _ wr).alloc _
      have HS : Hid (∀ W, _) := fun W => size9_any W r
      have HAN : Hid (∀ W, Kept wr W → addC bud xs r ≠ 0 → _) := fun W k hc => add10_no (bg.bf.on k) r hc
      have HAO : Hid (∀ W, Kept wr W → rightR r → szs xs + (bytesR r).length ≤ bud → _) := fun W k h1 h2 => add10_ok (bg.bf.on k) h1 h2
      have HV : Hid (∀ W, _) := fun W => valid9_any r W
      have hsx : szs xs ≤ 16777216 := by have := bg.bf.fits; omega
      have hnx : xs.length ≤ 2396745 := bg.bf.len
      have hpk2 : pk ≤ 16777216 := by have := bg.top; omega
      have hle := bg.le
      have hfit := bg.bf.fits
      have hzr : rightR r → (bytesR r).length ≤ 561 := fun hr => (bytesR_len hr).2
      obtain ⟨z, ez⟩ : ∃ z, z = (bytesR r).length := ⟨_, rfl⟩
      rw [← ez] at HAO HS hzr
      obtain ⟨sx, esx⟩ : ∃ sx, sx = szs xs := ⟨_, rfl⟩
      obtain ⟨nx, enx⟩ : ∃ nx, nx = xs.length := ⟨_, rfl⟩
      rw [← esx] at HAO hsx hle hfit ⊢
      rw [← enx] at hnx ⊢
      have ESX : Hid _ := esx
      have ENX : Hid _ := enx
      have EZ : Hid _ := ez
      have i1 : (sx : Int) ≤ 16777216 := by omega
      have i2 : (nx : Int) ≤ 2396745 := by omega
      clear bg hr esx enx ez
      have HAC : Hid (addC bud xs r = if ¬ rightR r then 90 else if bud < z then 101 else if bud < sx + z then 102 else 0) := by
        show _ = _
        rw [EZ.out, ESX.out]; rfl
      by_cases hrt : rightR r
      · rw [if_pos hrt] at HS
        have i3 : (z : Int) ≤ 561 := by have := hzr hrt; omega
        rw [decide_eq_true hrt] at HV
        rw [if_neg (fun e => e hrt)] at HAC
        have HRT : Hid _ := hrt
        obtain ⟨kind, time, seq, index, frm, til, body⟩ := r
        unfold rowV at *
        simp only at *
        clear hzr
        by_cases hz : bud < z
        · skip
          have HADD : Hid (∀ W, Kept wr W → _) := fun W k => HAN.out W k (by rw [HAC.out, if_pos hz]; decide)
          rw [HAC.out, if_pos hz] at HADD
          clear HAN HAO HAC
          have u1 : decide ((z : Int) ≤ (bud : Int)) = false := decide_eq_false (by omega)
          have u1' : ¬ (z : Int) ≤ (bud : Int) := by omega
          have t1 : decide ((pk : Int) < (sx : Int)) = false := decide_eq_false (by omega)
          have t1' : ¬ pk < sx := by omega
          have t2 : decide ((bud : Int) < (sx : Int)) = false := decide_eq_false (by omega)
          have t2' : ¬ bud < sx := by omega
          go_wp2_with fail
          refine Calls.mono (HS.out _) ?_
          rintro e w3 ⟨rfl, k3⟩
          have K3 : Hid _ := KB.out.trans' k3
          have hb3 := (k3.block _ (lt_of_heap HBX.out) (fun e => e)).trans HBX.out
          have HB3 : Hid _ := hb3
          obtain ⟨⟨y0, y1, y2, y3, y4, y5, y6⟩, -⟩ := row_obj hb3
          clear k3 hb3 HBX KB x0 x1 x2 x3 x4 x5 x6
          go_wp2_with fail
          refine Calls.mono (HADD.out _ K3.out) ?_
          rintro e w4 ⟨rfl, k4⟩
          have K4 : Hid _ := K3.out.trans' k4
          have hb4 := (k4.block _ (lt_of_heap HB3.out) (fun e => e)).trans HB3.out
          clear y0 y1 y2 y3 y4 y5 y6 HB3 HADD K3
          obtain ⟨⟨y0, y1, y2, y3, y4, y5, y6⟩, -⟩ := row_obj hb4
          clear hb4 k4
          have BGX : Hid (Bg w w4 base b bud v xs pk) := ⟨G.out.bf.on K4.out, G.out.le, G.out.top, G.out.same.trans' (Kept.to K4.out _)⟩
          have E7 : Hid ((sx : Int) = ((szs xs : Nat) : Int)) := by show _ = _; rw [ESX.out]
          have E8 : Hid ((nx : Int) = (xs.length : Int)) := by show _ = _; rw [ENX.out]
          have E9 : Hid ((pk : Int) = (pk : Int)) := rfl
          clear y0 y1 y2 y3 y4 y5 y6 K4
          have HBY : Hid _ := bytes10 BGX.out.bf
          have HLE : Hid _ := len10 BGX.out.bf
          have HPK : Hid _ := peak10 BGX.out.bf
          rw [← E7.out] at HBY
          rw [← E8.out] at HLE
          rw [← E9.out] at HPK
          go_wp2_with fail
          refine Calls.mono HBY.out ?_
          rintro e w8 ⟨rfl, rfl⟩
          go_wp2_with fail
          refine Calls.mono HLE.out ?_
          rintro e w8 ⟨rfl, rfl⟩
          go_wp2_with fail
          refine Calls.mono HPK.out ?_
          rintro e w8 ⟨rfl, rfl⟩
          go_wp2_with fail
          go_roundw
          case rel => exact ⟨j + 1, _, _, _, hlt, by rw [Int.natCast_add]; rfl, congrArg (Value.int IntKind.i64) E7.out, congrArg (Value.int IntKind.i64) E8.out, (by first | exact congrArg (Value.int IntKind.i64) E9.out | rfl), BGX.out⟩
          case measure => simp only [intOf]; omega
        · by_cases hf : bud < sx + z
          · skip
            have HADD : Hid (∀ W, Kept wr W → _) := fun W k => HAN.out W k (by rw [HAC.out, if_neg hz, if_pos hf]; decide)
            rw [HAC.out, if_neg hz, if_pos hf] at HADD
            clear HAN HAO HAC
            have u1 : decide ((sx : Int) + (z : Int) ≤ (bud : Int)) = false := decide_eq_false (by omega)
            have u1' : ¬ (sx : Int) + (z : Int) ≤ (bud : Int) := by omega
            have u2 : decide ((bud : Int) < (z : Int)) = false := decide_eq_false (by omega)
            have u2' : ¬ (bud : Int) < (z : Int) := by omega
            have t1 : decide ((pk : Int) < 0) = false := decide_eq_false (by omega)
            have t1' : ¬ (pk : Int) < 0 := by omega
            have t2 : decide ((bud : Int) < 0) = false := decide_eq_false (by omega)
            have t2' : ¬ (bud : Int) < 0 := by omega
            go_wp2_with fail
            refine Calls.mono (HS.out _) ?_
            rintro e w3 ⟨rfl, k3⟩
            have K3 : Hid _ := KB.out.trans' k3
            have hb3 := (k3.block _ (lt_of_heap HBX.out) (fun e => e)).trans HBX.out
            have HB3 : Hid _ := hb3
            obtain ⟨⟨y0, y1, y2, y3, y4, y5, y6⟩, -⟩ := row_obj hb3
            clear k3 hb3 HBX KB x0 x1 x2 x3 x4 x5 x6
            go_wp2_with fail
            refine Calls.mono (HADD.out _ K3.out) ?_
            rintro e w4 ⟨rfl, k4⟩
            have K4 : Hid _ := K3.out.trans' k4
            have hb4 := (k4.block _ (lt_of_heap HB3.out) (fun e => e)).trans HB3.out
            clear y0 y1 y2 y3 y4 y5 y6 HB3 HADD K3
            obtain ⟨⟨y0, y1, y2, y3, y4, y5, y6⟩, -⟩ := row_obj hb4
            clear hb4 k4
            have HTK : Hid _ := take10 (G.out.bf.on K4.out)
            clear y0 y1 y2 y3 y4 y5 y6
            go_wp2_with fail
            refine Calls.mono HTK.out ?_
            rintro e w5 ⟨u, rfl, o5, bf5, s5⟩
            obtain ⟨ua, uc, rfl, -, -⟩ := OwnR.rows o5
            rw [srt_len, ← ENX.out]
            have BGX : Hid (Bg w w5 base b bud (.slice none 0 0) [] pk) := ⟨bf5, Nat.zero_le _, G.out.top, (G.out.bf.on K4.out).step hbase (G.out.same.trans' (Kept.to K4.out _)) (s5.mono fun i _ e => .inl e)⟩
            have E7 : Hid ((0 : Int) = ((szs [] : Nat) : Int)) := rfl
            have E8 : Hid ((0 : Int) = (([] : List RwM).length : Int)) := rfl
            have E9 : Hid ((pk : Int) = (pk : Int)) := rfl
            clear o5 bf5 s5 K4 HTK
            have HBY : Hid _ := bytes10 BGX.out.bf
            have HLE : Hid _ := len10 BGX.out.bf
            have HPK : Hid _ := peak10 BGX.out.bf
            rw [← E7.out] at HBY
            rw [← E8.out] at HLE
            rw [← E9.out] at HPK
            go_wp2_with fail
            refine Calls.mono HBY.out ?_
            rintro e w8 ⟨rfl, rfl⟩
            go_wp2_with fail
            refine Calls.mono HLE.out ?_
            rintro e w8 ⟨rfl, rfl⟩
            go_wp2_with fail
            refine Calls.mono HPK.out ?_
            rintro e w8 ⟨rfl, rfl⟩
            go_wp2_with fail
            go_roundw
            case rel => exact ⟨j + 1, _, _, _, hlt, by rw [Int.natCast_add]; rfl, congrArg (Value.int IntKind.i64) E7.out, congrArg (Value.int IntKind.i64) E8.out, (by first | exact congrArg (Value.int IntKind.i64) E9.out | rfl), BGX.out⟩
            case measure => simp only [intOf]; omega
          · skip
            have HADD : Hid (∀ W, Kept wr W → _) := fun W k => HAO.out W k HRT.out (by omega)
            clear HAN HAO HAC
            obtain ⟨pk', epk⟩ : ∃ pk', pk' = max pk (sx + z) := ⟨_, rfl⟩
            rw [← epk] at HADD
            have t2 : decide ((bud : Int) < (sx : Int) + (z : Int)) = false := decide_eq_false (by omega)
            have t2' : ¬ (bud : Int) < (sx : Int) + (z : Int) := by omega
            go_wp2_with fail
            refine Calls.mono (HS.out _) ?_
            rintro e w3 ⟨rfl, k3⟩
            have K3 : Hid _ := KB.out.trans' k3
            have hb3 := (k3.block _ (lt_of_heap HBX.out) (fun e => e)).trans HBX.out
            have HB3 : Hid _ := hb3
            obtain ⟨⟨y0, y1, y2, y3, y4, y5, y6⟩, -⟩ := row_obj hb3
            clear k3 hb3 HBX KB x0 x1 x2 x3 x4 x5 x6
            go_wp2_with fail
            refine Calls.mono (HADD.out _ K3.out) ?_
            rintro e w4 ⟨rfl, v4, bf4, s4, n4⟩
            have hz4 : szs (xs ++ [(⟨kind, time, seq, index, frm, til, body⟩ : RwM)]) = sx + z := by rw [szs_append, szs_one, ESX.out, EZ.out]
            have htop := G.out.top
            have BGX : Hid (Bg w w4 base b bud v4 (xs ++ [(⟨kind, time, seq, index, frm, til, body⟩ : RwM)]) pk') := ⟨bf4, by rw [hz4, epk]; exact Nat.le_max_right _ _, by rw [epk]; omega, (G.out.bf.on K3.out).step hbase (G.out.same.trans' (Kept.to K3.out _)) s4⟩
            have E7 : Hid ((sx : Int) + (z : Int) = ((szs (xs ++ [(⟨kind, time, seq, index, frm, til, body⟩ : RwM)]) : Nat) : Int)) := by show _ = _; rw [hz4, Int.natCast_add]
            have E8 : Hid ((nx : Int) + 1 = ((xs ++ [(⟨kind, time, seq, index, frm, til, body⟩ : RwM)]).length : Int)) := by show _ = _; rw [List.length_append, ENX.out]; rfl
            have EPK : Hid _ := epk
            clear bf4 s4 n4 K3 hz4 htop epk y0 y1 y2 y3 y4 y5 y6 HADD HB3
            by_cases hp : pk < sx + z
            · have t1 : decide ((pk : Int) < (sx : Int) + (z : Int)) = true := decide_eq_true (by omega)
              have t1' : (pk : Int) < (sx : Int) + (z : Int) := by omega
              have E9 : Hid ((sx : Int) + (z : Int) = (pk' : Int)) := by show _ = _; rw [EPK.out]; omega
              have HBY : Hid _ := bytes10 BGX.out.bf
              have HLE : Hid _ := len10 BGX.out.bf
              have HPK : Hid _ := peak10 BGX.out.bf
              rw [← E7.out] at HBY
              rw [← E8.out] at HLE
              rw [← E9.out] at HPK
              go_wp2_with fail
              refine Calls.mono HBY.out ?_
              rintro e w8 ⟨rfl, rfl⟩
              go_wp2_with fail
              refine Calls.mono HLE.out ?_
              rintro e w8 ⟨rfl, rfl⟩
              go_wp2_with fail
              refine Calls.mono HPK.out ?_
              rintro e w8 ⟨rfl, rfl⟩
              go_wp2_with fail
              go_roundw
              case rel => exact ⟨j + 1, _, _, _, hlt, by rw [Int.natCast_add]; rfl, congrArg (Value.int IntKind.i64) E7.out, congrArg (Value.int IntKind.i64) E8.out, (by first | exact congrArg (Value.int IntKind.i64) E9.out | rfl), BGX.out⟩
              case measure => simp only [intOf]; omega
            · have t1 : decide ((pk : Int) < (sx : Int) + (z : Int)) = false := decide_eq_false (by omega)
              have t1' : ¬ (pk : Int) < (sx : Int) + (z : Int) := by omega
              have E9 : Hid ((pk : Int) = (pk' : Int)) := by show _ = _; rw [EPK.out]; omega
              have HBY : Hid _ := bytes10 BGX.out.bf
              have HLE : Hid _ := len10 BGX.out.bf
              have HPK : Hid _ := peak10 BGX.out.bf
              rw [← E7.out] at HBY
              rw [← E8.out] at HLE
              rw [← E9.out] at HPK
              go_wp2_with fail
              refine Calls.mono HBY.out ?_
              rintro e w8 ⟨rfl, rfl⟩
              go_wp2_with fail
              refine Calls.mono HLE.out ?_
              rintro e w8 ⟨rfl, rfl⟩
              go_wp2_with fail
              refine Calls.mono HPK.out ?_
              rintro e w8 ⟨rfl, rfl⟩
              go_wp2_with fail
              go_roundw
              case rel => exact ⟨j + 1, _, _, _, hlt, by rw [Int.natCast_add]; rfl, congrArg (Value.int IntKind.i64) E7.out, congrArg (Value.int IntKind.i64) E8.out, (by first | exact congrArg (Value.int IntKind.i64) E9.out | rfl), BGX.out⟩
              case measure => simp only [intOf]; omega
      · rw [if_neg hrt] at HS
        rw [decide_eq_false hrt] at HV
        rw [if_pos hrt] at HAC
        have HAD := HAN.out
        rw [HAC.out] at HAD
        have HADD : Hid (∀ W, Kept wr W → _) := fun W k => HAD W k (by decide)
        obtain ⟨kind, time, seq, index, frm, til, body⟩ := r
        unfold rowV at *
        simp only at *
        clear hzr HAD HAN HAO hrt
        have t1 : decide ((pk : Int) < (sx : Int)) = false := decide_eq_false (by omega)
        have t1' : ¬ pk < sx := by omega
        have t2 : decide ((bud : Int) < (sx : Int)) = false := decide_eq_false (by omega)
        have t2' : ¬ bud < sx := by omega
        go_wp2_with fail
        refine Calls.mono (HS.out _) ?_
        rintro e w3 ⟨rfl, k3⟩
        have K3 : Hid _ := KB.out.trans' k3
        have hb3 := (k3.block _ (lt_of_heap HBX.out) (fun e => e)).trans HBX.out
        have HB3 : Hid _ := hb3
        obtain ⟨⟨y0, y1, y2, y3, y4, y5, y6⟩, -⟩ := row_obj hb3
        clear k3 hb3 HBX KB x0 x1 x2 x3 x4 x5 x6
        go_wp2_with fail
        refine Calls.mono (HADD.out _ K3.out) ?_
        rintro e w4 ⟨rfl, k4⟩
        have K4 : Hid _ := K3.out.trans' k4
        have hb4 := (k4.block _ (lt_of_heap HB3.out) (fun e => e)).trans HB3.out
        clear y0 y1 y2 y3 y4 y5 y6 HB3 HADD K3
        obtain ⟨⟨y0, y1, y2, y3, y4, y5, y6⟩, -⟩ := row_obj hb4
        clear hb4 k4
        go_wp2_with fail
        refine Calls.mono (HV.out _) ?_
        rintro e w5 ⟨rfl, k5⟩
        have BGX : Hid (Bg w w5 base b bud v xs pk) := ⟨G.out.bf.on (K4.out.trans' k5), G.out.le, G.out.top, G.out.same.trans' (Kept.to (K4.out.trans' k5) _)⟩
        have E7 : Hid ((sx : Int) = ((szs xs : Nat) : Int)) := by show _ = _; rw [ESX.out]
        have E8 : Hid ((nx : Int) = (xs.length : Int)) := by show _ = _; rw [ENX.out]
        have E9 : Hid ((pk : Int) = (pk : Int)) := rfl
        clear k5 y0 y1 y2 y3 y4 y5 y6 K4
        have HBY : Hid _ := bytes10 BGX.out.bf
        have HLE : Hid _ := len10 BGX.out.bf
        have HPK : Hid _ := peak10 BGX.out.bf
        rw [← E7.out] at HBY
        rw [← E8.out] at HLE
        rw [← E9.out] at HPK
        go_wp2_with fail
        refine Calls.mono HBY.out ?_
        rintro e w8 ⟨rfl, rfl⟩
        go_wp2_with fail
        refine Calls.mono HLE.out ?_
        rintro e w8 ⟨rfl, rfl⟩
        go_wp2_with fail
        refine Calls.mono HPK.out ?_
        rintro e w8 ⟨rfl, rfl⟩
        go_wp2_with fail
        go_roundw
        case rel => exact ⟨j + 1, _, _, _, hlt, by rw [Int.natCast_add]; rfl, congrArg (Value.int IntKind.i64) E7.out, congrArg (Value.int IntKind.i64) E8.out, (by first | exact congrArg (Value.int IntKind.i64) E9.out | rfl), BGX.out⟩
        case measure => simp only [intOf]; omega
    · obtain rfl : n = j := by omega
      have c1 : decide ((n : Int) < (n : Int)) = false := by simp
      clear bg
      go_wp2_with fail
      go_ret
      exact ⟨rfl, G.out.same.mono fun i hi e => by omega⟩
end Go.Proofs.Ytcbllejjiokmbaa
