/- What is proved: the law on what Install refuses answers true; the script lies in memory. -/
import Derived.Test.YtnjpbagfbklofaaCPlayL
import Derived.BigQuiet
namespace Go.Proofs.Ytnjpbagfbklofaa
open Go.RowKit

set_option maxRecDepth 100000 in
set_option maxHeartbeats 3200000 in
theorem refuses_law (w : World) (a : Option Addr) (cap : Nat) (s : List OpC) (k : ByteArray) (x : Vn) (hl : OpsAt w a s) (hs : Small s) (hn : s.length ≤ 1954687338268) (hk : k.size ≤ maxLen) :
    Calls Try.prog 6 #[.slice a s.length cap, .string k, verV x] w fun e w' => e = .returned (.bool true) ∧ Kept w w' := by
  have K0 : Hid (Kept w (w.alloc (.cells #[.int .i64 x.c, .int .i64 x.w, .bool x.f, .string x.v] 31 (0, 0)))) := (Same.refl _ w).alloc _
  have G0 : Hid _ := heap_new w (.cells #[.int .i64 x.c, .int .i64 x.w, .bool x.f, .string x.v] 31 (0, 0))
  have HL : Hid (OpsAt w a s) := hl
  have HS : Hid (Small s) := hs
  obtain ⟨n, en⟩ : ∃ n, n = s.length := ⟨_, rfl⟩
  rw [← en] at hn
  rw [← en]
  have EN : Hid _ := en
  clear hl hs en
  unfold verV
  go_enter Try.func6, Try.ntmps6
  go_upto_region 1 with fail
  generalize w.alloc (.cells #[.int .i64 x.c, .int .i64 x.w, .bool x.f, .string x.v] 31 (0, 0)) = Y0 at *
  generalize w.heap.size = gx at *
  have HAN : Hid _ := anchor13_any Y0
  go_wp2_with fail
  refine Calls.mono HAN.out ?_
  rintro e w1 ⟨rfl, k1⟩
  have K1 : Hid (Kept w w1) := Same.trans' K0.out k1
  have G1 : Hid _ := (k1.block gx (lt_of_heap G0.out) (fun e => e)).trans G0.out
  have HFI : Hid _ := fill13 (cap := cap) (OpsAt.on HL.out K1.out) HS.out (by rw [← show n = s.length from EN.out]; omega)
  rw [← show n = s.length from EN.out] at HFI
  clear k1 HAN K0 G0
  go_wp2_with fail
  refine Calls.mono HFI.out ?_
  rintro e w2 ⟨sb, F, rfl, st2, hF, k2⟩
  have D2 : Hid _ := Duo.new st2 hF k2
  clear st2 k2 HFI hF
  go_wp2_with fail
  generalize w2.alloc (.cells #[.slice none 0 0] 29 (0, 0)) = Y at *
  generalize w2.heap.size = rb at *
  go_loopw [25] (fun i wr => ∃ (j : Nat) (G : Nat → Prop), j ≤ n ∧ i = .int .i64 j ∧ Duo w1 wr sb rb (fil [] s) (fil [] (s.take j)) F G) (fun i _ => n - (intOf i).toNat)
  case atStart => exact ⟨0, _, Nat.zero_le _, rfl, D2.out⟩
  case round =>
    obtain ⟨j, G, hj, rfl, dd⟩ := hrel
    have DD : Hid (Duo w1 wr sb rb (fil [] s) (fil [] (s.take j)) F G) := dd
    have hsl : (fil [] (s.take j)).length ≤ n := by
      have := fil_length (s.take j) []
      simp only [List.length_nil, List.length_take] at this
      omega
    clear dd
    by_cases hlt : j < n
    · have c1 : decide ((j : Int) < (n : Int)) = true := by simp only [decide_eq_true_eq]; omega
      have hlt2 : (j : Int) < (n : Int) := by omega
      have hlt3 : (0 : Int) ≤ (j : Int) := by omega
      obtain ⟨o, ho⟩ : ∃ o, s[j]? = some o := ⟨_, List.getElem?_eq_getElem (by rw [← show n = s.length from EN.out]; exact hlt)⟩
      obtain ⟨b, off, rfl, hb, q0, q1, q2, q3, q4, q5, q6⟩ := (OpsAt.on HL.out (Same.trans' K1.out (Duo.kept DD.out))) j o ho
      have HT : Hid _ := fil_take ho []
      have hsm := HS.out o (List.mem_of_getElem? ho)
      have KO : Hid (Kept wr (wr.alloc (.cells #[.int .i64 o.kind, .int .i64 o.time, .string o.key, .int .i64 o.x.c, .int .i64 o.x.w, .bool o.x.f, .string o.x.v] 33 (0, 0)))) := (Same.refl _ wr).alloc _
      have HW : Hid _ := with_any o.key o.x (wr.alloc (.cells #[.int .i64 o.kind, .int .i64 o.time, .string o.key, .int .i64 o.x.c, .int .i64 o.x.w, .bool o.x.f, .string o.x.v] 33 (0, 0)))
      unfold verV at HW
      clear ho
      by_cases hkd : o.kind = 1
      · have d1 : (o.kind == 1) = true := by simpa using hkd
        have HQ : Hid (fil [] (s.take (j + 1)) = inst (fil [] (s.take j)) o.key o.x) := (show fil [] (s.take (j + 1)) = _ from HT.out).trans (if_pos hkd)
        clear hkd HT
        go_wp2_with fail
        refine Calls.mono HW.out ?_
        rintro e w3 ⟨rfl, k3⟩
        have D3 : Hid _ := Duo.on DD.out (Same.trans' KO.out k3)
        have HR : Hid _ := rinstall13 (Duo.b D3.out) o.key hsm o.x (by omega)
        clear k3 HW
        unfold enV at HR ⊢
        simp only at HR ⊢
        go_wp2_with fail
        refine Calls.mono HR.out ?_
        rintro e w4 ⟨rfl, hi⟩
        obtain ⟨G4, d4, -⟩ := Duo.rins D3.out hi
        have D4 : Hid _ := d4
        clear d4 hi HR
        go_wp2_with fail
        go_roundw
        case rel => exact ⟨j + 1, G4, by omega, by simp, by rw [show fil [] (s.take (j + 1)) = _ from HQ.out]; exact D4.out⟩
        case measure => simp only [intOf]; omega
      · have d1 : (o.kind == 1) = false := by simpa using hkd
        have HQ : Hid (fil [] (s.take (j + 1)) = fil [] (s.take j)) := (show fil [] (s.take (j + 1)) = _ from HT.out).trans (if_neg hkd)
        clear hkd HT HW
        go_wp2_with fail
        go_roundw
        case rel => exact ⟨j + 1, G, by omega, by simp, by rw [show fil [] (s.take (j + 1)) = _ from HQ.out]; exact Duo.on DD.out KO.out⟩
        case measure => simp only [intOf]; omega
    · have c1 : decide ((j : Int) < (n : Int)) = false := by simp only [decide_eq_false_iff_not]; omega
      have hA : s.take j = s := List.take_of_length_le (by rw [← show n = s.length from EN.out]; omega)
      rw [hA] at DD hsl
      generalize fil [] s = A at *
      clear hA
      have HC : Hid _ := count13 (Duo.a DD.out)
      have HI : Hid _ := install13 (Duo.a DD.out) k hk x (by omega)
      have HGX : Hid (∀ W, Kept w1 W → W.heap[gx]? = some (.cells #[.int .i64 x.c, .int .i64 x.w, .bool x.f, .string x.v] 31 (0, 0))) := fun W kw => (kw.block gx (lt_of_heap G1.out) (fun e => e)).trans G1.out
      unfold verV at HI
      obtain ⟨na, ena⟩ : ∃ x, x = A.length := ⟨_, rfl⟩
      rw [← ena] at HC hsl
      have ENA : Hid (na = A.length) := ena
      clear ena
      obtain ⟨⟨x0, x1, x2, x3⟩, -⟩ := ver_obj (HGX.out wr (Duo.kept DD.out))
      have hgx := lt_of_heap (HGX.out wr (Duo.kept DD.out))
      go_wp2_with fail
      refine Calls.mono HC.out ?_
      rintro e w3 ⟨rfl, rfl⟩
      go_wp2_with fail
      refine Calls.mono HI.out ?_
      rintro e w4 ⟨rfl, hi⟩
      obtain ⟨F4, d4, -⟩ := Duo.ins DD.out hi
      have D4 : Hid _ := d4
      clear d4 hi HI HC x0 x1 x2 x3 hgx
      obtain ⟨⟨x0, x1, x2, x3⟩, -⟩ := ver_obj (HGX.out w4 (Duo.kept D4.out))
      have hgx := lt_of_heap (HGX.out w4 (Duo.kept D4.out))
      have HW : Hid _ := with_any k x w4
      unfold verV at HW
      go_wp2_with fail
      refine Calls.mono HW.out ?_
      rintro e w5 ⟨rfl, k5⟩
      have D5 : Hid _ := Duo.on D4.out k5
      have HR : Hid _ := rinstall13 (Duo.b D5.out) k hk x (by rw [← show na = A.length from ENA.out]; omega)
      clear k5 HW x0 x1 x2 x3 hgx
      unfold enV at HR ⊢
      simp only at HR ⊢
      go_wp2_with fail
      refine Calls.mono HR.out ?_
      rintro e w6 ⟨rfl, hi⟩
      obtain ⟨G6, d6, -⟩ := Duo.rins D5.out hi
      have D6 : Hid _ := d6
      clear d6 hi HR D4 D5
      have hil := inst_length A k x
      rw [← show na = A.length from ENA.out] at hil
      have HCH : Hid _ := chain13 (Duo.a D6.out) k hk (by omega)
      have HZ : Hid (code A k x = 0 → inst A k x = A ++ [⟨k, x⟩] ∧ ch (inst A k x) k = ch A k ++ [x]) := fun h0 => by
        have : inst A k x = A ++ [⟨k, x⟩] := by unfold Ytnjpbagfbklofaa.inst; rw [if_pos h0]
        refine ⟨this, ?_⟩
        rw [this, ch_append, ch_one_same rfl]
      have HNZ : Hid (code A k x ≠ 0 → inst A k x = A) := fun h0 => by unfold Ytnjpbagfbklofaa.inst; rw [if_neg h0]
      generalize code A k x = cd at *
      have ncd : (cd != cd) = false := by simp
      by_cases h0 : cd = 0
      · subst h0
        obtain ⟨e1, e2⟩ := HZ.out rfl
        rw [e2] at HCH
        have hcl := ch_length_le A k
        rw [← show na = A.length from ENA.out] at hcl
        clear HNZ HZ ncd e2
        go_wp2_with fail
        refine Calls.mono HCH.out ?_
        rintro e w7 ⟨v7, rfl, o7, k7⟩
        obtain ⟨a7, p7, rfl, va7, -⟩ := OwnV.vers o7
        have D7 : Hid _ := Duo.on D6.out k7
        clear o7 k7 HCH
        obtain ⟨m, em⟩ : ∃ m, m = (ch A k).length := ⟨_, rfl⟩
        obtain ⟨b7, o7, rfl, hb7, m0, m1, m2, m3⟩ := va7 m x (by rw [em, List.getElem?_append_right (Nat.le_refl _), Nat.sub_self]; rfl)
        have hc1 : (inst A k x).length = na + 1 := by rw [e1, List.length_append, ← show na = A.length from ENA.out]; rfl
        have HC : Hid (∀ W', Kept w7 W' → Calls Try.prog 17 #[.pointer (some ⟨sb, 0, none⟩)] W' fun e w' => e = .returned (.int .i64 ((na + 1 : Nat) : Int)) ∧ w' = W') := fun W' k' => by rw [← hc1]; exact count13 (Duo.a (Duo.on D7.out k'))
        rw [← em] at hcl
        rw [List.length_append, ← em, show [x].length = 1 from rfl]
        obtain ⟨L, eL⟩ : ∃ L, L = m + 1 := ⟨_, rfl⟩
        obtain ⟨N1, eN⟩ : ∃ N, N = na + 1 := ⟨_, rfl⟩
        rw [← eL]
        have HCQ : Hid (∀ W', Kept w7 W' → Calls Try.prog 17 #[.pointer (some ⟨sb, 0, none⟩)] W' fun e w' => e = .returned (.int .i64 (N1 : Int)) ∧ w' = W') := fun W' k' => by rw [eN]; exact HC.out W' k'
        have i1 : (na : Int) + 1 = (N1 : Int) := by omega
        have i2 : IntKind.i64.wrap (N1 : Int) = (N1 : Int) := by rw [IntKind.wrap_i64]; omega
        have i3 : ((N1 : Int) == (N1 : Int)) = true := by simp
        have i4 : (L : Int) - 1 = (m : Int) := by omega
        have i5 : IntKind.i64.wrap (m : Int) = (m : Int) := by rw [IntKind.wrap_i64]; omega
        have i6 : (0 : Int) < (L : Int) := by omega
        have i7 : decide ((0 : Int) < (L : Int)) = true := decide_eq_true i6
        have j6 : 0 < L := by omega
        have j7 : decide (0 < L) = true := decide_eq_true j6
        have i8 : (m : Int) < (L : Int) := by omega
        have i9 : (0 : Int) ≤ (m : Int) := by omega
        obtain ⟨⟨x0, x1, x2, x3⟩, -⟩ := ver_obj (HGX.out w7 (Duo.kept D7.out))
        have hgx := lt_of_heap (HGX.out w7 (Duo.kept D7.out))
        have eqx := eql_ver x
        clear va7 em eL eN e1 hcl hil hc1 HC
        go_upto_region 20 with fail
        go_quiet ((go_at_call 17; exact Calls.quiet_of_same (HCQ.out _ (by first | exact Same.refl _ _ | exact Same.drewN (Same.refl _ _) _ | exact Same.drew (Same.refl _ _)))))
        all_goals
          go_wp2_with fail
          go_ret
          exact ⟨rfl, Same.trans' K1.out (by (repeat (first | exact Duo.kept D7.out | apply Same.drew | apply Same.drewN)); done)⟩
      · have d0 : (cd == 0) = false := by simpa using h0
        have e1 := HNZ.out h0
        rw [e1] at HCH D6
        clear HNZ HZ h0 e1
        go_wp2_with fail
        refine Calls.mono HCH.out ?_
        rintro e w7 ⟨v7, rfl, o7, k7⟩
        obtain ⟨a7, p7, rfl, -⟩ := OwnV.vers o7
        have D7 : Hid (Duo w1 w7 sb rb A A F4 G6) := Duo.on D6.out k7
        clear o7 k7 HCH
        have HC : Hid _ := count13 (Duo.a D7.out)
        rw [← show na = A.length from ENA.out] at HC
        have i3 : ((na : Int) == (na : Int)) = true := by simp
        go_wp2_with fail
        refine Calls.mono HC.out ?_
        rintro e w8 ⟨rfl, rfl⟩
        have HS4 : Hid _ := chain_alike D7.out 0 k hk v0 (by rw [← show na = A.length from ENA.out]; omega)
        simp only [v0] at HS4
        go_wp2_with fail
        refine Calls.mono HS4.out ?_
        rintro e w9 ⟨rfl, k9⟩
        have D9 : Hid (Duo w1 w9 sb rb A A F4 G6) := Duo.on D7.out k9
        have HS5 : Hid _ := step_keys D9.out 0 ⟨#[]⟩ v0 (by rw [← show na = A.length from ENA.out]; omega)
        unfold Stp opA at HS5
        simp only [v0] at HS5
        clear k9 HS4 HC
        go_wp2_with fail
        refine Calls.mono HS5.out ?_
        rintro e w10 ⟨rfl, F10, G10, d10⟩
        have D10 : Hid _ := d10
        clear d10 HS5
        go_wp2_with fail
        go_ret
        exact ⟨rfl, Same.trans' K1.out (Duo.kept D10.out)⟩
end Go.Proofs.Ytnjpbagfbklofaa
