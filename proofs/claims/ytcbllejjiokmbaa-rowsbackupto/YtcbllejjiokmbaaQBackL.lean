/- What is proved: the law RowsBack answers true, for every list of rows and of bytes of at most 1048576 elements each. -/
import Derived.Test.YtcbllejjiokmbaaQBkM
namespace Go.Proofs.Ytcbllejjiokmbaa
open Go.RowKit

/-- What stands in the first loop. -/
structure Fw (w wr : World) (l : List RwM) (j : Nat) (v5 v6 : Value) : Prop where
  all : OwnB w.heap.size wr v5 (encs (good (l.take j)))
  kept : OwnR w.heap.size wr v6 (good (l.take j))
  same : Same (fun k => w.heap.size ≤ k) w wr
theorem Fw.on {w wr w' : World} {l : List RwM} {j : Nat} {v5 v6 : Value} (h : Fw w wr l j v5 v6) (k : Kept wr w') : Fw w w' l j v5 v6 :=
  ⟨OwnB.kept h.all k (fun _ _ e => e), OwnR.kept h.kept k (fun _ _ e => e), h.same.trans' (k.to _)⟩
set_option maxRecDepth 100000 in
set_option maxHeartbeats 4000000 in
theorem back9_law (w : World) (a : Option Addr) (cap : Nat) (l : List RwM) (ta : Option Addr) (tc : Nat) (t : List Int) (h : RowsAt w a l) (ht : ArgB w ta tc t) (hn : l.length ≤ 1048576) (hm : t.length ≤ 1048576) :
    Calls Try.prog 3 #[.slice a l.length cap, .slice ta t.length tc] w fun e w' => e = .returned (.bool true) ∧ Kept w w' := by
  have HA : Hid (∀ W, _) := anchor9_any
  have HL : Hid _ := h
  have HT : Hid _ := ht
  obtain ⟨n, en⟩ : ∃ n, n = l.length := ⟨_, rfl⟩
  obtain ⟨q, eq⟩ : ∃ q, q = t.length := ⟨_, rfl⟩
  rw [← en] at hn ⊢
  rw [← eq] at hm ⊢
  have EN : Hid _ := en
  have EQ : Hid _ := eq
  have HGL : Hid (∀ j, (good (l.take j)).length ≤ n) := fun j => by rw [en]; exact good_len l j
  have HGE : Hid (∀ j, (encs (good (l.take j))).length ≤ 561 * 1048576) := fun j => by
    have h1 := encs_len (l := good (l.take j)) fun r hr => good_right hr
    have h2 := good_len l j
    omega
  clear h ht en eq
  go_enter Try.func3, Try.ntmps3
  go_wp2_with fail
  refine Calls.mono (HA.out _) ?_
  rintro e w1 ⟨rfl, k1⟩
  have F0 : Hid (Fw w w1 l 0 (.slice none 0 0) (.slice none 0 0)) := ⟨OwnB.nil _ _, OwnR.nil _ _, k1.to _⟩
  clear k1 HA
  go_wp2_with fail
  go_loopw [5, 6, 22] (fun u5 u6 i wr => ∃ j : Nat, j ≤ n ∧ i = .int .i64 j ∧ Fw w wr l j u5 u6) (fun _ _ i _ => n - (intOf i).toNat)
  case atStart => exact ⟨0, Nat.zero_le _, rfl, F0.out⟩
  case round =>
    clear F0
    obtain ⟨j, hj, rfl, fw⟩ := hrel
    have FW : Hid _ := fw
    by_cases hlt : j < n
    · have c1 : decide ((j : Int) < (n : Int)) = true := decide_eq_true (by omega)
      have c1' : (j : Int) < (n : Int) := by omega
      obtain ⟨r, hr⟩ : ∃ r, l[j]? = some r := ⟨_, List.getElem?_eq_getElem (by rw [← EN.out]; exact hlt)⟩
      have hra : RowsAt wr a l := fun i x hx => by
        obtain ⟨b, off, e, hb, z⟩ := HL.out i x hx
        have tt : ∀ o, wr.cell? ⟨b, o, none⟩ = w.cell? ⟨b, o, none⟩ := fun o => fw.same.cell (p := ⟨b, o, none⟩) hb (by show ¬ w.heap.size ≤ b; omega)
        refine ⟨b, off, e, Nat.lt_of_lt_of_le hb fw.same.size, ?_⟩
        rw [tt, tt, tt, tt, tt, tt, tt]
        exact z
      obtain ⟨g, off, ea, hg, x0, x1, x2, x3, x4, x5, x6⟩ := hra j r hr
      subst ea
      have HV : Hid (∀ W, _) := fun W => valid9_any r W
      have HBX : Hid _ := heap_new wr (.cells #[.int .i64 r.kind, .int .i64 r.time, .int .i64 r.seq, .int .i64 r.index, .int .i64 r.frm, .int .i64 r.til, .string r.body] 26)
      have KB : Hid (Kept wr (wr.alloc (.cells #[.int .i64 r.kind, .int .i64 r.time, .int .i64 r.seq, .int .i64 r.index, .int .i64 r.frm, .int .i64 r.til, .string r.body] 26))) := (Same.refl _ wr).alloc _
      clear hra
      by_cases hrt : rightR r
      · rw [decide_eq_true hrt] at HV
        have HE : Hid (∀ W, _) := fun W => encode9_ok W r hrt
        have HS : Hid (∀ W, _) := fun W => size9_ok W r hrt
        obtain ⟨hz7, hz5⟩ := bytesR_len hrt
        have HGM : Hid _ := good_more hr hrt
        have HAB : Hid (∀ (W : World) (pa : Option Addr) (pc : Nat), Kept wr W → BytesAt W pa (bytesR r) → (pa = none → (bytesR r).length = 0 ∧ pc = 0) → ∀ ty, ∃ v' w', (Builtin.append_ #[23, 23] ty #[u5, .slice pa (bytesR r).length pc]).run Try.prog W = .ok v' w' ∧ OwnB w.heap.size w' v' (encs (good (l.take (j + 1)))) ∧ OwnR w.heap.size w' u6 (good (l.take j)) ∧ Same (fun k => w.heap.size ≤ k) W w' ∧ Same (fun k => u5.ownBlock = some k) W w') := fun W pa pc k hp hnil ty => by
          obtain ⟨v', w', h1, h2, h3⟩ := app_bytes_at (c := pc) (OwnB.kept fw.all k (fun _ _ e => e)) hp hnil (by have := HGE.out j; omega) (Nat.le_trans fw.same.size k.size) ty
          refine ⟨v', w', h1, ?_, OwnR.kept (OwnR.kept fw.kept k (fun _ _ e => e)) h3 (fun b hb e => bytes_rows fw.all fw.kept e hb), h3.mono fun b _ e => (OwnB.block fw.all e).1, h3⟩
          rw [HGM.out, encs_app, encs_one]
          exact h2
        have HAR : Hid (∀ (W : World) (v' : Value), OwnR w.heap.size W u6 (good (l.take j)) → OwnB w.heap.size W v' (encs (good (l.take (j + 1)))) → Same (fun k => w.heap.size ≤ k) w W → ∀ ty, ∃ v6 w6, (Builtin.append_ #[22, 22] ty #[u6, .slice (some ⟨W.heap.size, 0, none⟩) 1 1]).run Try.prog (W.alloc (.cells #[.int .i64 r.kind, .int .i64 r.time, .int .i64 r.seq, .int .i64 r.index, .int .i64 r.frm, .int .i64 r.til, .string r.body] 26)) = .ok v6 w6 ∧ Fw w w6 l (j + 1) v' v6) := fun W v' ho hb hs ty => by
          obtain ⟨v6, w6, h1, h2, h3, -⟩ := app_row_one r ho (by have := HGL.out j; omega) hs.size ty
          refine ⟨v6, w6, h1, OwnB.kept hb h3 (fun b hbb e => bytes_rows hb ho hbb e), ?_, hs.trans h3 fun b _ e => (OwnR.block ho e).1⟩
          rw [HGM.out]
          exact h2
        obtain ⟨z, ez⟩ : ∃ z, z = (bytesR r).length := ⟨_, rfl⟩
        have EZ : Hid _ := ez
        rw [← ez] at HS HAB hz7 hz5
        have e7 : decide ((z : Int) < 7) = false := decide_eq_false (by omega)
        have e7' : ¬ (z : Int) < 7 := by omega
        have KS : Hid _ := fw.same
        clear fw hr hrt ez
        obtain ⟨kind, time, seq, index, frm, til, body⟩ := r
        unfold rowV at *
        simp only at *
        go_wp2_with fail
        refine Calls.mono (HV.out _) ?_
        rintro e w2 ⟨rfl, k2⟩
        have K2 : Hid _ := KB.out.trans' k2
        have hb2 := (k2.block _ (lt_of_heap HBX.out) (fun e => e)).trans HBX.out
        have HB2 : Hid _ := hb2
        obtain ⟨⟨y0, y1, y2, y3, y4, y5, y6⟩, -⟩ := row_obj hb2
        clear k2 hb2 HBX KB x0 x1 x2 x3 x4 x5 x6
        go_wp2_with fail
        refine Calls.mono (HE.out _) ?_
        rintro e w3 ⟨v3, rfl, o3, k3⟩
        obtain ⟨pa, pc, rfl, hp3, -, hn3, -, -⟩ := OwnB.bytes o3
        rw [← EZ.out] at hn3 ⊢
        have K3 : Hid _ := K2.out.trans' k3
        have hb3 := (k3.block _ (lt_of_heap HB2.out) (fun e => e)).trans HB2.out
        have HB3 : Hid _ := hb3
        have P3 : Hid _ := hp3
        have N3 : Hid _ := hn3
        clear y0 y1 y2 y3 y4 y5 y6
        obtain ⟨⟨y0, y1, y2, y3, y4, y5, y6⟩, -⟩ := row_obj hb3
        clear o3 k3 hb3 hp3 hn3 HB2 K2
        go_wp2_with fail
        refine Calls.mono (HS.out _) ?_
        rintro e w4 ⟨rfl, k4⟩
        have K4 : Hid _ := K3.out.trans' k4
        have hb4 := (k4.block _ (lt_of_heap HB3.out) (fun e => e)).trans HB3.out
        have HAB4 : Hid _ := HAB.out w4 pa pc K4.out (BytesAt.kept P3.out k4 (fun _ _ e => e)) N3.out
        have HX : Hid (∀ (v' : Value) (w' : World), (OwnB w.heap.size w' v' (encs (good (l.take (j + 1)))) ∧ OwnR w.heap.size w' u6 (good (l.take j)) ∧ Same (fun k => w.heap.size ≤ k) w4 w' ∧ Same (fun k => u5.ownBlock = some k) w4 w') → (w'.heap[wr.heap.size]? = some (.cells #[.int .i64 kind, .int .i64 time, .int .i64 seq, .int .i64 index, .int .i64 frm, .int .i64 til, .string body] 26 (0, 0))) ∧ Hid (∀ ty, ∃ v6 w6, (Builtin.append_ #[22, 22] ty #[u6, .slice (some ⟨w'.heap.size, 0, none⟩) 1 1]).run Try.prog (w'.alloc (.cells #[.int .i64 kind, .int .i64 time, .int .i64 seq, .int .i64 index, .int .i64 frm, .int .i64 til, .string body] 26)) = .ok v6 w6 ∧ Fw w w6 l (j + 1) v' v6)) := fun v' w' ⟨g1, g2, g3, g4⟩ => ⟨(g4.block _ (lt_of_heap hb4) (fun e => by
            have := (OwnB.block FW.out.all e).2
            omega)).trans hb4, fun ty => HAR.out w' v' g2 g1 (KS.out.trans' ((Kept.to K4.out _).trans' g3)) ty⟩
        clear y0 y1 y2 y3 y4 y5 y6 k4 hb4 HB3 K3 P3 N3 HAB HAR
        go_wp2_with (first
          | (at_builtin; refine wpList_app rfl (.tmp 47) (.tmp 48) 23 23 rfl u5 (.slice pa z pc) rfl rfl _ HAB4.out ?_; rintro v5 w5 g5; obtain ⟨hb5, HAR5⟩ := HX.out v5 w5 g5; obtain ⟨⟨y0, y1, y2, y3, y4, y5, y6⟩, -⟩ := row_obj hb5; have hl5 := lt_of_heap hb5; clear g5 hb5)
          | (at_builtin; refine wpList_app rfl (.tmp 50) (.tmp 52) 22 22 rfl u6 (.slice (some ⟨w5.heap.size, 0, none⟩) 1 1) rfl rfl _ HAR5.out ?_; rintro v6 w6 f6; have F6 : Hid _ := f6; clear f6))
        go_roundw
        case rel => exact ⟨j + 1, hlt, by rw [Int.natCast_add]; rfl, F6.out⟩
        case measure => simp only [intOf]; omega
      · rw [decide_eq_false hrt] at HV
        have F1 : Hid (∀ W, Kept wr W → Fw w W l (j + 1) u5 u6) := fun W k => by
          have := fw.on k
          exact ⟨by rw [good_less hr hrt]; exact this.all, by rw [good_less hr hrt]; exact this.kept, this.same⟩
        clear fw hr hrt
        obtain ⟨kind, time, seq, index, frm, til, body⟩ := r
        unfold rowV at *
        simp only at *
        go_wp2_with fail
        refine Calls.mono (HV.out _) ?_
        rintro e w2 ⟨rfl, k2⟩
        have F2 : Hid _ := F1.out w2 (KB.out.trans' k2)
        clear k2
        go_wp2_with fail
        go_roundw
        case rel => exact ⟨j + 1, hlt, by rw [Int.natCast_add]; rfl, F2.out⟩
        case measure => simp only [intOf]; omega
    · obtain rfl : n = j := by omega
      have c1 : decide ((n : Int) < (n : Int)) = false := by simp
      have hgr : ∀ r ∈ good l, rightR r := fun r hr => good_right hr
      have eT : l.take n = l := by rw [EN.out, List.take_length]
      have al := fw.all
      have kp := fw.kept
      rw [eT] at al kp
      have hE := HGE.out n
      have hG := HGL.out n
      rw [eT] at hE hG
      obtain ⟨aa, ac, e5, -, -, -, -, -⟩ := OwnB.bytes al
      obtain ⟨ra, rc, e6, -, -⟩ := OwnR.rows kp
      subst e5
      subst e6
      have htb : BytesAt wr ta t := BytesAt.kept HT.out.data fw.same fun k hk e => by have := HT.out.data.lt hk; omega
      have HAP : Hid (∀ ty, _) := fun ty => app_bytes_at (c := tc) al htb HT.out.nil (by have := EQ.out; omega) fw.same.size ty
      have HX : Hid (∀ (v' : Value) (w' : World), OwnB w.heap.size w' v' (encs (good l) ++ t) → Same (fun k => (Value.slice aa (encs (good l)).length ac).ownBlock = some k) wr w' → ∃ ba bc, v' = .slice ba (encs (good l) ++ t).length bc ∧ Hid (OwnB w.heap.size w' (.slice ba (encs (good l) ++ t).length bc) (encs (good l) ++ t) ∧ RowsAt w' ra (good l) ∧ Same (fun k => w.heap.size ≤ k) w w')) := fun v' w' o k => by
        obtain ⟨ba, bc, e, -, -, -, -, -⟩ := OwnB.bytes o
        obtain ⟨ra', rc', e', hr', -⟩ := OwnR.rows (OwnR.kept kp k (fun b hb e => bytes_rows al kp e hb))
        simp only [Value.slice.injEq] at e'
        obtain ⟨rfl, -, -⟩ := e'
        exact ⟨ba, bc, e, by rw [← e]; exact o, hr', fw.same.trans k fun b _ e => (OwnB.block al e).1⟩
      have HGR : Hid _ := hgr
      have HTB : Hid _ := HT.out.byts
      obtain ⟨E, eE⟩ : ∃ E, E = (encs (good l)).length := ⟨_, rfl⟩
      obtain ⟨gn, egn⟩ : ∃ gn, gn = (good l).length := ⟨_, rfl⟩
      obtain ⟨M, eM⟩ : ∃ M, M = (encs (good l) ++ t).length := ⟨_, rfl⟩
      rw [← eE] at HAP HX hE ⊢
      rw [← EQ.out] at HAP
      rw [← eM] at HX
      rw [← egn] at hG ⊢
      have EE : Hid _ := eE
      have EGN : Hid _ := egn
      have EM : Hid (M = E + q) := by show _ = _; rw [eM, List.length_append, ← eE, EQ.out]
      clear fw al kp htb eE egn eM hgr eT
      go_wp2_with (at_builtin; refine wpList_app rfl (.tmp 57) (.tmp 58) 23 23 rfl (.slice aa E ac) (.slice ta q tc) rfl rfl _ HAP.out ?_; rintro v7 w7 ⟨o7, k7⟩; obtain ⟨ba, bc, rfl, F7⟩ := HX.out v7 w7 o7 k7; clear o7 k7)
      clear HAP HX
      go_loopw [12, 62] (fun u12 i wr => ∃ m : Nat, m ≤ gn ∧ i = .int .i64 m ∧ u12 = .int .i64 ((encs ((good l).take m)).length : Int) ∧ Kept w7 wr) (fun _ i _ => gn - (intOf i).toNat)
      case atStart => exact ⟨0, Nat.zero_le _, rfl, rfl, Same.refl _ _⟩
      case round =>
        obtain ⟨m, hm', rfl, rfl, kk⟩ := hrel
        have KK : Hid _ := kk
        by_cases hml : m < gn
        · have d1 : decide ((m : Int) < (gn : Int)) = true := decide_eq_true (by omega)
          have d1' : (m : Int) < (gn : Int) := by omega
          obtain ⟨r, hr⟩ : ∃ r, (good l)[m]? = some r := ⟨_, List.getElem?_eq_getElem (by rw [← EGN.out]; exact hml)⟩
          obtain ⟨g, off, ea, hg, x0, x1, x2, x3, x4, x5, x6⟩ := (RowsAt.on F7.out.2.1 kk) m r hr
          subst ea
          have hrt := HGR.out r (List.mem_of_getElem? hr)
          obtain ⟨hz7, hz5⟩ := bytesR_len hrt
          have hdrop := encs_drop hr t
          have hnext : (encs ((good l).take (m + 1))).length = (encs ((good l).take m)).length + (bytesR r).length := by
            rw [List.take_add_one, hr, encs_app, List.length_append]
            show _ + (encs [r]).length = _
            rw [encs_one]
          have hll := congrArg List.length hdrop
          rw [List.length_drop, List.length_append, List.length_append, List.length_append, ← EE.out, ← EQ.out] at hll
          obtain ⟨ba', bc', e, hbt, hbc, hbn, -, -⟩ := OwnB.bytes (OwnB.kept F7.out.1 kk (fun _ _ e => e))
          simp only [Value.slice.injEq] at e
          obtain ⟨rfl, eM, rfl⟩ := e
          obtain ⟨A0, hA0⟩ : ∃ x, (encs (good l) ++ t)[0]? = some x := ⟨_, List.getElem?_eq_getElem (by rw [← eM, EM.out]; omega)⟩
          obtain ⟨gb, ob, eb, hgb, -⟩ := hbt 0 A0 hA0
          subst eb
          have hob : ob = 0 := by
            rcases F7.out.1.2 with ⟨h', _⟩ | ⟨g', cap', cur, h', _⟩
            · cases h'
            · simp only [Value.slice.injEq, Option.some.injEq, Addr.mk.injEq, and_true] at h'
              exact h'.1.2
          subst hob
          have HBY : Byts ((encs (good l) ++ t).drop (encs ((good l).take m)).length) := ((encs_byts fun x hx => good_right hx).append HTB.out).drop _
          have hbd : BytesAt wr (some ⟨gb, (encs ((good l).take m)).length, none⟩) ((encs (good l) ++ t).drop (encs ((good l).take m)).length) := by
            have := BytesAt.drop hbt (encs ((good l).take m)).length
            rwa [Nat.zero_add] at this
          have HDE : Hid (∀ W, Kept wr W → _) := fun W (k : Kept wr W) => decode9_good (c := bc - (encs ((good l).take m)).length) (hbd.kept k (fun _ _ e => e)) (fun e => by cases e) (by rw [List.length_drop, List.length_append, ← EE.out, ← EQ.out]; omega) (by rw [List.length_drop]; omega) HBY (by rw [hdrop]; exact dec9_bytes hrt _)
          have KB : Hid (Kept wr (wr.alloc (.cells #[.int .i64 r.kind, .int .i64 r.time, .int .i64 r.seq, .int .i64 r.index, .int .i64 r.frm, .int .i64 r.til, .string r.body] 26))) := (Same.refl _ wr).alloc _
          have HBX : Hid _ := heap_new wr (.cells #[.int .i64 r.kind, .int .i64 r.time, .int .i64 r.seq, .int .i64 r.index, .int .i64 r.frm, .int .i64 r.til, .string r.body] 26)
          have HNQ := neq_row r
          obtain ⟨p, ep⟩ : ∃ p, p = (encs ((good l).take m)).length := ⟨_, rfl⟩
          obtain ⟨z, ez⟩ : ∃ z, z = (bytesR r).length := ⟨_, rfl⟩
          rw [List.length_drop, ← eM] at HDE
          rw [← ep] at HDE hll hnext ⊢
          rw [← ez] at HDE hll hnext hz7 hz5
          obtain ⟨y, ey⟩ : ∃ y, M - p = y := ⟨_, rfl⟩
          obtain ⟨cy, ecy⟩ : ∃ cy, bc - p = cy := ⟨_, rfl⟩
          rw [ey, ecy] at HDE
          have hM := EM.out
          have hcc : M ≤ bc := by rw [eM]; exact hbc
          have q1 : (p : Int) ≤ (M : Int) := by omega
          have q2 : (p : Int) ≤ (bc : Int) := by omega
          have q3 : p ≠ bc := by omega
          have q4 : p ≤ M := by omega
          have q5 : p ≤ bc := by omega
          have q6 : decide ((z : Int) < 7) = false := decide_eq_false (by omega)
          have q6' : ¬ (z : Int) < 7 := by omega
          have q7 : decide ((M : Int) - (p : Int) < (z : Int)) = false := decide_eq_false (by omega)
          have q7' : ¬ (M : Int) - (p : Int) < (z : Int) := by omega
          have q8 : (M : Int) ≤ 600000000 := by omega
          have q9 : (p : Int) ≤ 600000000 := by omega
          have q10 : (z : Int) ≤ 561 := by omega
          have HNX : Hid _ := hnext
          clear hr hrt hdrop hll hnext hbt hbd hbc hbn hA0 HBY kk ep ez hM hcc eM
          obtain ⟨kind, time, seq, index, frm, til, body⟩ := r
          unfold rowV at *
          simp only at *
          go_wp2_with fail
          refine Calls.mono (HDE.out _ KB.out) ?_
          rintro e w8 ⟨rfl, k8⟩
          have hb8 := (k8.block _ (lt_of_heap HBX.out) (fun e => e)).trans HBX.out
          obtain ⟨⟨y0, y1, y2, y3, y4, y5, y6⟩, -⟩ := row_obj hb8
          have hl8 := lt_of_heap hb8
          have K8 : Hid (Kept w7 w8) := Same.trans' KK.out (Same.trans' KB.out k8)
          clear k8 hb8 x0 x1 x2 x3 x4 x5 x6 HBX KB HDE
          go_wp2_with fail
          go_roundw
          case rel => exact ⟨m + 1, hml, by rw [Int.natCast_add]; rfl, by rw [HNX.out, Int.natCast_add], (Same.trans' K8.out ((Same.refl _ _).alloc _))⟩
          case measure => simp only [intOf]; omega
        · obtain rfl : gn = m := by omega
          have d1 : decide ((gn : Int) < (gn : Int)) = false := by simp
          have hfin : (encs ((good l).take gn)).length = E := by rw [EGN.out, List.take_length, EE.out]
          rw [hfin]
          have KF : Hid (Kept w wr) := (F7.out.2.2.trans' (kk.to _)).mono fun i hi e => by omega
          clear kk hfin
          go_wp2_with fail
          go_ret
          exact ⟨rfl, KF.out⟩
end Go.Proofs.Ytcbllejjiokmbaa
