/- What is proved: the law on every script over one forest answers true; the script lies in memory. -/
import Derived.Test.YtaiaahcblohknaaYStr
import Derived.Test.YtaiaahcblohknaaYAnch
namespace Go.Proofs.Ytaiaahcblohknaa
open Go.RowKit

/-- What a script leaves. -/
noncomputable def sts (A : List Ks) (l : List OpY) : List Ks := l.foldl stp A
theorem sts_take {l : List OpY} {j : Nat} {o : OpY} (h : l[j]? = some o) (A : List Ks) : sts A (l.take (j + 1)) = stp (sts A (l.take j)) o := by
  unfold sts
  rw [List.take_add_one, h, List.foldl_append]
  rfl
/-- A new forest of the program's, and a new one of the document's. -/
theorem Duo.new {w w1 : World} {sb : Nat} {A : List Ks} {F : Nat → Prop} {bd : Nat} (h1 : Fo F w1 sb A bd) (hF : ∀ x, F x → w.heap.size ≤ x) (k1 : Kept w w1) :
    Duo w (w1.alloc (.cells #[.slice none 0 0] 29 (0, 0))) sb w1.heap.size A [] F (fun b => b = w1.heap.size) bd :=
  ⟨h1.on ((Same.refl _ w1).alloc _), ⟨⟨_, heap_new w1 _, OwnK.nil _ _, fun k hk => by simp [Value.ownBlock] at hk⟩, rfl, fun k hk => by rw [World.size_alloc]; omega⟩, fun x hx hg => by have := h1.lt x hx; omega, hF, fun x hx => by rw [hx]; exact k1.size, k1.alloc _⟩
set_option maxRecDepth 100000 in
set_option maxHeartbeats 3200000 in
theorem plays_law (w : World) (a : Option Addr) (cap : Nat) (s : List OpY) (hl : OpsAt w a s) (hs : Small s) (hn : s.length ≤ 2199023255552) :
    Calls Try.prog 3 #[.slice a s.length cap] w fun e w' => e = .returned (.bool true) ∧ Kept w w' := by
  have q := ptr_eql
  have HAN : Hid _ := anchor14 w
  have HL : Hid _ := hl
  have HS : Hid (Small s) := hs
  obtain ⟨n, en⟩ : ∃ n, n = s.length := ⟨_, rfl⟩
  rw [← en] at hn
  rw [← en]
  have EN : Hid _ := en
  clear hl hs en
  go_enter Try.func3, Try.ntmps3
  go_wp2_with fail
  refine Calls.mono HAN.out ?_
  rintro e w1 ⟨rfl, k1⟩
  have K1 : Hid (Kept w w1) := k1
  have HN : Hid _ := new14 w1
  clear k1 HAN
  go_wp2_with fail
  refine Calls.mono HN.out ?_
  rintro e w2 ⟨sb, F0, rfl, st2, hF, k2⟩
  have D2 : Hid _ := Duo.new st2 hF k2
  clear st2 k2 hF HN
  go_wp2_with fail
  generalize w2.alloc (.cells #[.slice none 0 0] 29 (0, 0)) = Y at *
  generalize w2.heap.size = rb at *
  clear q
  go_loopw [18] (fun i wr => ∃ (j : Nat) (F G : Nat → Prop), j ≤ n ∧ i = .int .i64 j ∧ Duo w1 wr sb rb (sts [] (s.take j)) (sts [] (s.take j)) F G j) (fun i _ => n - (intOf i).toNat)
  case atStart => exact ⟨0, _, _, Nat.zero_le _, rfl, D2.out⟩
  case round =>
    obtain ⟨j, F, G, hj, rfl, dd⟩ := hrel
    have DD : Hid (Duo w1 wr sb rb (sts [] (s.take j)) (sts [] (s.take j)) F G j) := dd
    clear dd
    by_cases hlt : j < n
    · have c1 : decide ((j : Int) < (n : Int)) = true := by simp only [decide_eq_true_eq]; omega
      have hlt2 : (j : Int) < (n : Int) := by omega
      have hlt3 : (0 : Int) ≤ (j : Int) := by omega
      obtain ⟨o, ho⟩ : ∃ o, s[j]? = some o := ⟨_, List.getElem?_eq_getElem (by rw [← show n = s.length from EN.out]; exact hlt)⟩
      obtain ⟨b, off, rfl, hb, q0, q1, q2, q3, q4, q5, q6⟩ := (OpsAt.on HL.out (Same.trans' K1.out (Duo.kept DD.out))) j o ho
      have HT : Hid _ := sts_take ho []
      have hsm := HS.out o (List.mem_of_getElem? ho)
      have HST : Hid _ := step14_any (Duo.on DD.out ((Same.refl _ wr).alloc (opO o))) o hsm (by omega)
      clear ho
      unfold Stp opA at HST
      go_wp2_with fail
      refine Calls.mono HST.out ?_
      rintro e w3 ⟨rfl, F3, G3, d3⟩
      have D3 : Hid _ := d3
      clear d3 HST
      go_wp2_with fail
      go_roundw
      case rel => exact ⟨j + 1, F3, G3, by omega, by simp, by rw [show sts [] (s.take (j + 1)) = _ from HT.out]; exact D3.out⟩
      case measure => simp only [intOf]; omega
    · have c1 : decide ((j : Int) < (n : Int)) = false := by simp only [decide_eq_false_iff_not]; omega
      obtain rfl : n = j := by omega
      generalize sts [] (s.take n) = A at *
      have hln := DD.out.a.len
      go_wp2_with fail
      rename World => W0
      go_loopw [30] (fun i wx => ∃ (q : Nat), q ≤ n ∧ i = .int .i64 q ∧ Kept W0 wx) (fun i _ => n - (intOf i).toNat)
      case atStart => exact ⟨0, Nat.zero_le _, rfl, Same.refl _ _⟩
      case round =>
        obtain ⟨q, hq, rfl, kk⟩ := hrel
        have KK : Hid (Kept W0 wr) := kk
        clear kk
        by_cases hlq : q < n
        · have c2 : decide ((q : Int) < (n : Int)) = true := by simp only [decide_eq_true_eq]; omega
          have hlq2 : (q : Int) < (n : Int) := by omega
          have hlq3 : (0 : Int) ≤ (q : Int) := by omega
          obtain ⟨o, ho⟩ : ∃ o, s[q]? = some o := ⟨_, List.getElem?_eq_getElem (by rw [← show n = s.length from EN.out]; exact hlq)⟩
          obtain ⟨b, off, rfl, hb, q0, q1, q2, q3, q4, q5, q6⟩ := (OpsAt.on HL.out (Same.trans' K1.out (Same.trans' (Duo.kept DD.out) KK.out))) q o ho
          have hsm := HS.out o (List.mem_of_getElem? ho)
          have KA : Hid (Kept wr (wr.alloc (opO o))) := (Same.refl _ wr).alloc _
          have D3 : Hid _ := Duo.on DD.out (Same.trans' KK.out KA.out)
          have G0 : Hid _ := heap_new wr (opO o)
          obtain ⟨ok, oa, ob, k, ox⟩ := o
          simp only at hsm q0 q1 q2 q3 q4 q5 q6
          have HC0 : Hid (∀ W', Kept (wr.alloc (opO ⟨ok, oa, ob, k, ox⟩)) W' → Calls Try.prog 7 #[.pointer (some ⟨sb, 0, none⟩), .pointer (some ⟨rb, 0, none⟩), .agg #[.int .i64 6, .int .i64 0, .int .i64 0, .string k, .int .i64 0, .int .i64 0, .int .i64 0]] W' fun e w' => e = .returned (.bool true) ∧ Kept W' w') := fun W' k' => cnt_alike (D3.out.on k') 0 0 k hsm ⟨0, 0, 0⟩ (by omega)
          have HC1 : Hid _ := ovl_p D3.out k hsm (-1) 2199023255552 (by omega)
          have HC2 : Hid _ := ovl_r D3.out k (-1) 2199023255552 (by omega)
          have HC3 : Hid _ := ovl_s (A := A) k (-1) 2199023255552 (by omega)
          clear ho D3
          generalize A.filter (ovk k (-1) 2199023255552) = E at *
          generalize E.map (·.s) = l at *
          generalize E.length = L at *
          go_upto_region 16 with fail
          generalize wr.alloc (opO ⟨ok, oa, ob, k, ox⟩) = Y1 at *
          generalize wr.heap.size = g at *
          obtain ⟨-, -, -, c3, -, -, -⟩ := op_obj G0.out
          have hg := lt_of_heap G0.out
          simp only at c3
          have HBX : Hid (∀ W', Kept Y1 W' → W'.cell? ⟨g, 3, none⟩ = some (.string k)) := fun W' k' => (k'.cell (p := ⟨g, 3, none⟩) hg (fun e => e)).trans c3
          clear q0 q1 q2 q3 q4 q5 q6 hb
          go_cut [54] (fun s54 wx => s54 = .bool false ∧ Kept Y1 wx)
          case first =>
            go_region_held3 (fun W' => W'.cell? ⟨g, 3, none⟩ = some (.string k))
              (exact HBX.out _ (by (repeat (first | exact Same.refl _ _ | exact K7.out | exact K6.out | exact K5.out | exact K4.out | apply Same.drew | apply Same.drewN)); done))
              (first
              | (go_at_call 8; have _t := E5; refine Calls.mono (HC3.out _ a4 a5 p4 p5 (SpsAt.on V5.out (by (repeat (first | exact Same.refl _ _ | apply Same.drew | apply Same.drewN)); done)) (KsAt.on E5.out (by (repeat (first | exact Same.refl _ _ | apply Same.drew | apply Same.drewN)); done))) ?_; rintro e w7 ⟨rfl, k7⟩; have K7 : Hid (Kept Y1 w7) := (by refine Same.trans' ?_ k7; (repeat (first | exact Same.refl _ _ | exact K6.out | apply Same.drew | apply Same.drewN)); done); clear k7)
              | (go_at_call 10; have _t := V4; refine Calls.mono (HC2.out _ (by (repeat (first | exact Same.refl _ _ | exact K5.out | apply Same.drew | apply Same.drewN)); done)) ?_; rintro e w6 ⟨a5, p5, rfl, o5, k6⟩; have E5 : Hid (KsAt w6 a5 E) := o5; have V5 : Hid (SpsAt w6 a4 l) := SpsAt.on V4.out (by refine Same.trans' ?_ k6; (repeat (first | exact Same.refl _ _ | apply Same.drew | apply Same.drewN)); done); have K6 : Hid (Kept Y1 w6) := (by refine Same.trans' ?_ k6; (repeat (first | exact Same.refl _ _ | exact K5.out | apply Same.drew | apply Same.drewN)); done); clear o5 k6)
              | (go_at_call 9; have _t := K4; refine Calls.mono (HC1.out _ (by (repeat (first | exact Same.refl _ _ | exact K4.out | apply Same.drew | apply Same.drewN)); done)) ?_; rintro e w5 ⟨a4, p4, rfl, o4, k5⟩; have V4 : Hid (SpsAt w5 a4 l) := o4; have K5 : Hid (Kept Y1 w5) := (by refine Same.trans' ?_ k5; (repeat (first | exact Same.refl _ _ | exact K4.out | apply Same.drew | apply Same.drewN)); done); clear o4 k5)
              | (go_at_call 7; refine Calls.mono (HC0.out _ (by (repeat (first | exact Same.refl _ _ | apply Same.drew | apply Same.drewN)); done)) ?_; rintro e w4 ⟨rfl, k4⟩; have K4 : Hid (Kept Y1 w4) := (by refine Same.trans' ?_ k4; (repeat (first | exact Same.refl _ _ | apply Same.drew | apply Same.drewN)); done); clear k4))
            all_goals
              go_wp2_with fail
              go_meet
              exact ⟨rfl, (by (repeat (first | exact K7.out | exact Same.refl _ _ | apply Same.drew | apply Same.drewN)); done)⟩
          case rest =>
            obtain ⟨rfl, k9⟩ := hcut
            rename World => Z9
            have K9 : Hid (Kept Y1 Z9) := k9
            clear k9 HBX HC0 HC1 HC2 HC3 c3 hg
            go_wp2_with fail
            go_roundw
            case rel => exact ⟨q + 1, by omega, by simp, Same.trans' KK.out (Same.trans' KA.out K9.out)⟩
            case measure => simp only [intOf]; omega
        · have c2 : decide ((q : Int) < (n : Int)) = false := by simp only [decide_eq_false_iff_not]; omega
          have D9 : Hid _ := Duo.on DD.out KK.out
          have HC1 : Hid (∀ W', Kept wr W' → Calls Try.prog 11 #[.pointer (some ⟨sb, 0, none⟩)] W' fun r w' => r = .returned (.int .i64 A.length) ∧ Kept W' w') := fun W' k' => (count14 (Duo.a (D9.out.on k'))).mono fun r w' h9 => ⟨h9.1, by rw [h9.2]; exact Same.refl _ _⟩
          obtain ⟨va, hob, how, -⟩ := RFo.ex (Duo.b D9.out)
          obtain ⟨ra, rcap, rfl, -, -⟩ := OwnK.at how
          have y0 : wr.cell? ⟨rb, 0, none⟩ = some (.slice ra A.length rcap) := (cell_of hob 0).trans rfl
          have hrl := lt_of_heap hob
          have nn : ((A.length : Int) == (A.length : Int)) = true := by simp
          have HBX : Hid (∀ W', Kept wr W' → W'.cell? ⟨rb, 0, none⟩ = some (.slice ra A.length rcap) ∧ rb < W'.heap.size) := fun W' k' => ⟨(k'.cell (p := ⟨rb, 0, none⟩) hrl (fun e => e)).trans y0, Nat.lt_of_lt_of_le hrl k'.size⟩
          clear hob how
          generalize A.length = m at *
          go_upto_region 19 with fail
          go_region_held3 (fun W' => W'.cell? ⟨rb, 0, none⟩ = some (.slice ra m rcap) ∧ rb < W'.heap.size)
            (exact HBX.out _ (by (repeat (first | exact Same.refl _ _ | exact K4.out | apply Same.drew | apply Same.drewN)); done))
            ((go_at_call 11; refine Calls.mono (HC1.out _ (by (repeat (first | exact Same.refl _ _ | apply Same.drew | apply Same.drewN)); done)) ?_; rintro e w4 ⟨rfl, k4⟩; have K4 : Hid (Kept wr w4) := (by refine Same.trans' ?_ k4; (repeat (first | exact Same.refl _ _ | apply Same.drew | apply Same.drewN)); done); clear k4))
          all_goals
            go_wp2_with fail
            go_ret
            exact ⟨rfl, Same.trans' K1.out (Same.trans' (Duo.kept D9.out) (by (repeat (first | exact K4.out | exact Same.refl _ _ | apply Same.drew | apply Same.drewN)); done))⟩
end Go.Proofs.Ytaiaahcblohknaa
