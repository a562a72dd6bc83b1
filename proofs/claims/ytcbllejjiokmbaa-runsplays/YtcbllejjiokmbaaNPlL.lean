/- What is proved: the law RunsPlays answers true, for every order, budget and script that lies in memory. -/
import Derived.Test.YtcbllejjiokmbaaNPln
import Derived.Test.YtcbllejjiokmbaaNRAdd
import Derived.Test.YtcbllejjiokmbaaNOps
namespace Go.Proofs.Ytcbllejjiokmbaa
open Go.RowKit
theorem via {p q : Prop} (h : p → q) (hp : p) : q := h hp
theorem Bf.lower {base base' : Nat} {w : World} {b : Nat} {order : Int} {bud : Nat} {v : Value} {xs : List RwM} {pk : Nat} (h : Bf base w b order bud v xs pk) (hb : base' ≤ base) : Bf base' w b order bud v xs pk :=
  ⟨h.obj, ⟨h.own.1, by
    rcases h.own.2 with g | ⟨g, cp, cur, e, hb', rest⟩
    · exact .inl g
    · exact .inr ⟨g, cp, cur, e, Nat.le_trans hb hb', rest⟩⟩, Nat.le_trans hb h.low, h.right, h.fits, h.most⟩
theorem Rf.lower {base base' : Nat} {w : World} {b : Nat} {order : Int} {bud : Nat} {v : Value} {xs : List RwM} {pk : Nat} (h : Rf base w b order bud v xs pk) (hb : base' ≤ base) : Rf base' w b order bud v xs pk :=
  ⟨h.obj, OwnQ.lower h.own hb, Nat.le_trans hb h.low, h.right, h.fits, h.most⟩
theorem obj_own {e : TypeId} {n : Nat} {base : Nat} {w : World} {v : Value} {m : Nat} {l : List Value} (h : w.ownsRow base e n v m l) {k : Nat} (hk : v.ownBlock = some k) : ∃ cur, w.heap[k]? = some (.cells cur e (0, 0)) := by
  rcases h.2 with ⟨rfl, _⟩ | ⟨g, cap, cur, rfl, hb, hg, _⟩
  · simp [Value.ownBlock] at hk
  · simp [Value.ownBlock] at hk
    subst hk
    exact ⟨cur, hg⟩
/-- The two buffers have no block in common. -/
theorem two_apart {base base' : Nat} {w : World} {b rb : Nat} {order order' : Int} {bud bud' : Nat} {v rv : Value} {xs xs' : List RwM} {pk pk' : Nat} (hB : Bf base w b order bud v xs pk) (hR : Rf base' w rb order' bud' rv xs' pk') :
    rb ≠ b ∧ (∀ k, v.ownBlock = some k → k ≠ rb) ∧ (∀ k, rv.ownBlock = some k → k ≠ b) ∧ ∀ k, v.ownBlock = some k → rv.ownBlock ≠ some k := by
  refine ⟨?_, ?_, ?_, ?_⟩
  · rintro rfl
    have := hB.obj.symm.trans hR.obj
    simp at this
  · rintro k hk rfl
    obtain ⟨cur, hc⟩ := obj_own hB.own hk
    have := hc.symm.trans hR.obj
    simp at this
  · rintro k hk rfl
    obtain ⟨cur, hc⟩ := obj_own hR.own hk
    have := hc.symm.trans hB.obj
    simp at this
  · intro k hk hk2
    obtain ⟨cur, hc⟩ := obj_own hB.own hk
    obtain ⟨cur2, hc2⟩ := obj_own hR.own hk2
    have := hc.symm.trans hc2
    simp at this
theorem Rf.past {base base' : Nat} {w w' : World} {b rb : Nat} {order order' : Int} {bud bud' : Nat} {v rv : Value} {xs xs' : List RwM} {pk pk' : Nat} (hR : Rf base' w rb order' bud' rv xs' pk') (hB : Bf base w b order bud v xs pk) (k : Same (fun k => k = b ∨ v.ownBlock = some k) w w') : Rf base' w' rb order' bud' rv xs' pk' := by
  obtain ⟨h1, h2, h3, h4⟩ := two_apart hB hR
  refine hR.onS k ?_ ?_
  · rintro (e | e)
    · exact h1 e
    · exact h2 _ e rfl
  · rintro g hg (e | e)
    · exact h3 g hg e
    · exact h4 g e hg
theorem Bf.past {base base' : Nat} {w w' : World} {b rb : Nat} {order order' : Int} {bud bud' : Nat} {v rv : Value} {xs xs' : List RwM} {pk pk' : Nat} (hB : Bf base w b order bud v xs pk) (hR : Rf base' w rb order' bud' rv xs' pk') (k : Same (fun k => k = rb ∨ rv.ownBlock = some k) w w') : Bf base w' b order bud v xs pk := by
  obtain ⟨h1, h2, h3, h4⟩ := two_apart hB hR
  refine hB.onS k ?_ ?_
  · rintro (e | e)
    · exact h1 e.symm
    · exact h3 _ e rfl
  · rintro g hg (e | e)
    · exact h2 g hg e
    · exact h4 g hg e
/-- Both buffers, alike. -/
structure Pr (w wr : World) (base b rb : Nat) (order : Int) (bud : Nat) (v rv : Value) (xs : List RwM) (pk : Nat) : Prop where
  bf : Bf base wr b order bud v xs pk
  rf : Rf base wr rb order bud rv xs pk
  low : w.heap.size ≤ base
  same : Same (fun k => w.heap.size ≤ k) w wr
theorem Bf.step {w w1 w2 : World} {base b : Nat} {order : Int} {bud : Nat} {v : Value} {xs : List RwM} {pk : Nat} (h : Bf base w1 b order bud v xs pk) (hb : w.heap.size ≤ base) (k : Same (fun k => w.heap.size ≤ k) w w1) (k2 : Same (fun k => k = b ∨ v.ownBlock = some k) w1 w2) : Same (fun k => w.heap.size ≤ k) w w2 :=
  k.trans k2 fun i _ hi => by
    rcases hi with e | e
    · have := h.low; omega
    · have := (OwnR.block h.own e).1; omega
theorem Rf.step {w w1 w2 : World} {base b : Nat} {order : Int} {bud : Nat} {v : Value} {xs : List RwM} {pk : Nat} (h : Rf base w1 b order bud v xs pk) (hb : w.heap.size ≤ base) (k : Same (fun k => w.heap.size ≤ k) w w1) (k2 : Same (fun k => k = b ∨ v.ownBlock = some k) w1 w2) : Same (fun k => w.heap.size ≤ k) w w2 :=
  k.trans k2 fun i _ hi => by
    rcases hi with e | e
    · have := h.low; omega
    · have := (OwnQ.block h.own e).1; omega
theorem Pr.on {w wr w' : World} {base b rb : Nat} {order : Int} {bud : Nat} {v rv : Value} {xs : List RwM} {pk : Nat} (h : Pr w wr base b rb order bud v rv xs pk) (k : Kept wr w') : Pr w w' base b rb order bud v rv xs pk := ⟨h.bf.on k, h.rf.on k, h.low, h.same.trans' (k.to _)⟩
/-- What both have done behind a row more. -/
theorem Pr.added {w wr w1 w2 w3 : World} {base b rb : Nat} {order : Int} {bud : Nat} {v rv v1 rv3 : Value} {xs xs1 : List RwM} {pk pk1 : Nat} (h : Pr w wr base b rb order bud v rv xs pk) (b1 : Bf base w1 b order bud v1 xs1 pk1) (s1 : Same (fun k => k = b ∨ v.ownBlock = some k) wr w1) (k2 : Kept w1 w2) (r3 : Rf base w3 rb order bud rv3 xs1 pk1) (s3 : Same (fun k => k = rb ∨ rv.ownBlock = some k) w2 w3) : Pr w w3 base b rb order bud v1 rv3 xs1 pk1 :=
  ⟨(b1.on k2).past ((h.rf.past h.bf s1).on k2) s3, r3, h.low, ((h.rf.past h.bf s1).on k2).step h.low ((h.bf.step h.low h.same s1).trans' (k2.to _)) s3⟩
theorem addC_zero {bud : Nat} {xs : List RwM} {r : RwM} (h : addC bud xs r = 0) : rightR r ∧ szs xs + (bytesR r).length ≤ bud := by
  unfold addC at h
  by_cases h1 : rightR r
  · rw [if_neg (fun e => e h1)] at h
    by_cases h2 : bud < (bytesR r).length
    · rw [if_pos h2] at h; omega
    · rw [if_neg h2] at h
      by_cases h3 : bud < szs xs + (bytesR r).length
      · rw [if_pos h3] at h; omega
      · exact ⟨h1, by omega⟩
  · rw [if_pos h1] at h; omega
theorem rplain_any (r : RwM) (w : World) : Calls Try.prog 19 #[rowV r] w fun e w' => e = .returned (rowV r) ∧ Kept w w' := plain_any r w
set_option maxRecDepth 100000 in
set_option maxHeartbeats 16000000 in
theorem plays_law (order budget : Int) (w : World) (a : Option Addr) (cap : Nat) (l : List OpN) (h : OpsAt w a l) (hn : l.length ≤ 2199023255552) : Calls Try.prog 4 #[.int .i64 order, .int .i64 budget, .slice a l.length cap] w fun e w' => e = .returned (.bool true) ∧ Kept w w' := by
  have HA : Hid (∀ W, _) := anchor10_any
  have HL : Hid _ := h
  obtain ⟨n, en⟩ : ∃ n, n = l.length := ⟨_, rfl⟩
  rw [← en] at hn ⊢
  have EN : Hid _ := en
  clear h en
  by_cases ho : order = 1 ∨ order = 2
  · by_cases hb : budget < 1 ∨ 16777216 < budget
    · have HN : Hid (∀ W, _) := fun W => new10_bud ho hb W
      have HM : Hid (∀ W, _) := fun W => rnew10_bud ho hb W
      clear ho hb
      go_enter Try.func4, Try.ntmps4
      go_wp2_with fail
      refine Calls.mono (HA.out _) ?_
      rintro e w1 ⟨rfl, k1⟩
      have K1 : Hid _ := k1
      clear k1
      go_wp2_with fail
      refine Calls.mono (HN.out _) ?_
      rintro e w2 ⟨rfl, k2⟩
      have K2 : Hid (Kept w w2) := Same.trans' K1.out k2
      clear k2
      go_wp2_with fail
      refine Calls.mono (HM.out _) ?_
      rintro e w3 ⟨rfl, rfl⟩
      go_wp2_with fail
      go_ret
      exact ⟨rfl, K2.out⟩
    · obtain ⟨bud, rfl⟩ : ∃ bud : Nat, budget = (bud : Int) := ⟨budget.toNat, by omega⟩
      have HN : Hid (∀ W, _) := fun W => new10_ok ho (bud := bud) (by omega) (by omega) W
      have HM : Hid (∀ W, _) := fun W => rnew10_ok ho (bud := bud) (by omega) (by omega) W
      clear ho hb
      go_enter Try.func4, Try.ntmps4
      go_wp2_with fail
      refine Calls.mono (HA.out _) ?_
      rintro e w1 ⟨rfl, k1⟩
      have K1 : Hid _ := k1
      clear k1
      go_wp2_with fail
      refine Calls.mono (HN.out _) ?_
      rintro e w2 ⟨b, rfl, bf2, k2⟩
      have BF2 : Hid _ := bf2
      have K2 : Hid _ := k2
      clear bf2 k2
      go_wp2_with fail
      refine Calls.mono (HM.out _) ?_
      rintro e w3 ⟨rb, rfl, rf3, k3⟩
      have PR : Hid (Pr w w3 w1.heap.size b rb order bud (.slice none 0 0) (.slice none 0 0) [] 0) := ⟨BF2.out.on k3, rf3.lower K2.out.size, K1.out.size, Kept.to (Same.trans' (Same.trans' K1.out K2.out) k3) _⟩
      clear rf3 k3 BF2 K2 HN HM
      generalize w1.heap.size = base at *
      go_wp2_with fail
      go_loopw [42] (fun i wr => ∃ (j : Nat) (v rv : Value) (xs : List RwM) (pk : Nat), j ≤ n ∧ i = .int .i64 j ∧ Pr w wr base b rb order bud v rv xs pk) (fun i _ => n - (intOf i).toNat)
      case atStart => exact ⟨0, _, _, [], 0, Nat.zero_le _, rfl, PR.out⟩
      case round =>
        clear PR
        obtain ⟨j, v, rv, xs, pk, hj, rfl, pr⟩ := hrel
        have P0 : Hid _ := pr
        by_cases hlt : j < n
        · have c1 : decide ((j : Int) < (n : Int)) = true := decide_eq_true (by omega)
          have c1' : (j : Int) < (n : Int) := by omega
          obtain ⟨o, hoj⟩ : ∃ o, l[j]? = some o := ⟨_, List.getElem?_eq_getElem (by rw [← EN.out]; exact hlt)⟩
          obtain ⟨g, off, ea, hg, q0, q1, q2, q3, q4, q5, q6, q7⟩ := HL.out j o hoj
          subst ea
          have tt : ∀ k, wr.cell? ⟨g, k, none⟩ = w.cell? ⟨g, k, none⟩ := fun k => pr.same.cell (p := ⟨g, k, none⟩) hg (by show ¬ w.heap.size ≤ g; omega)
          rw [← tt] at q0 q1 q2 q3 q4 q5 q6 q7
          obtain ⟨ok, r⟩ := o
          simp only at q0 q1 q2 q3 q4 q5 q6 q7
          have HBX : Hid _ := heap_new wr (.cells #[.int .i64 ok, .int .i64 r.kind, .int .i64 r.time, .int .i64 r.seq, .int .i64 r.index, .int .i64 r.frm, .int .i64 r.til, .string r.body] 43)
          have KB : Hid (Kept wr (wr.alloc (.cells #[.int .i64 ok, .int .i64 r.kind, .int .i64 r.time, .int .i64 r.seq, .int .i64 r.index, .int .i64 r.frm, .int .i64 r.til, .string r.body] 43))) := (Same.refl _ wr).alloc _
          have hbl := lt_of_heap pr.bf.obj
          have hrl := lt_of_heap pr.rf.obj
          clear tt hoj
          by_cases hk1 : ok = 1
          · subst hk1
            have P1 : Hid _ := P0.out.on KB.out
            have HPN : Hid (∀ W, _) := fun W => rplain_any r W
            by_cases hz : addC bud xs r = 0
            · obtain ⟨hrt, hft⟩ := addC_zero hz
              have HAD : Hid _ := add10_ok P1.out.bf hrt hft
              have HRA : Hid (∀ W, Rf base W rb order bud rv xs pk → _) := fun W (hR : Rf base W rb order bud rv xs pk) => radd_ok hR hrt hft
              clear pr hz hft hrt
              obtain ⟨kind, time, seq, index, frm, til, body⟩ := r
              unfold rowV at *
              simp only at *
              go_wp2_with fail
              refine Calls.mono HAD.out ?_
              rintro e w4 ⟨rfl, v4, bf4, s4, n4⟩
              have hb4 := (s4.block _ (lt_of_heap HBX.out) (by
                rintro (e | e)
                · omega
                · have := (OwnR.block P0.out.bf.own e).2; omega)).trans HBX.out
              have y1 := (cell_of hb4 1).trans rfl
              have y2 := (cell_of hb4 2).trans rfl
              have y3 := (cell_of hb4 3).trans rfl
              have y4 := (cell_of hb4 4).trans rfl
              have y5 := (cell_of hb4 5).trans rfl
              have y6 := (cell_of hb4 6).trans rfl
              have y7 := (cell_of hb4 7).trans rfl
              have hl4 := lt_of_heap hb4
              have BF4 : Hid _ := bf4
              have S4 : Hid _ := s4
              clear bf4 s4 n4 hb4 q0 q1 q2 q3 q4 q5 q6 q7
              go_wp2_with fail
              refine Calls.mono (HPN.out _) ?_
              rintro e w5 ⟨rfl, k5⟩
              have HR5 : Hid _ := HRA.out w5 ((P1.out.rf.past P1.out.bf S4.out).on k5)
              have K5 : Hid _ := k5
              clear k5 y1 y2 y3 y4 y5 y6 y7 HRA
              go_wp2_with fail
              refine Calls.mono HR5.out ?_
              rintro e w6 ⟨rfl, rv6, rf6, s6, n6⟩
              have P6 : Hid _ := P1.out.added BF4.out S4.out K5.out rf6 s6
              clear rf6 s6 n6 HR5
              go_wp2_with fail
              go_roundw
              case rel => exact ⟨j + 1, _, _, _, _, hlt, by rw [Int.natCast_add]; rfl, P6.out⟩
              case measure => simp only [intOf]; omega
            · have HAD : Hid _ := add10_no P1.out.bf r hz
              have HRA : Hid (∀ W, Rf base W rb order bud rv xs pk → _) := fun W (hR : Rf base W rb order bud rv xs pk) => radd_no hR r hz
              generalize addC bud xs r = cc at *
              clear pr hz
              obtain ⟨kind, time, seq, index, frm, til, body⟩ := r
              unfold rowV at *
              simp only at *
              go_wp2_with fail
              refine Calls.mono HAD.out ?_
              rintro e w4 ⟨rfl, k4⟩
              have hb4 := (k4.block _ (lt_of_heap HBX.out) (fun e => e)).trans HBX.out
              have y1 := (cell_of hb4 1).trans rfl
              have y2 := (cell_of hb4 2).trans rfl
              have y3 := (cell_of hb4 3).trans rfl
              have y4 := (cell_of hb4 4).trans rfl
              have y5 := (cell_of hb4 5).trans rfl
              have y6 := (cell_of hb4 6).trans rfl
              have y7 := (cell_of hb4 7).trans rfl
              have hl4 := lt_of_heap hb4
              have K4 : Hid _ := k4
              clear k4 hb4 q0 q1 q2 q3 q4 q5 q6 q7
              go_wp2_with fail
              refine Calls.mono (HPN.out _) ?_
              rintro e w5 ⟨rfl, k5⟩
              have P5 : Hid _ := (P1.out.on K4.out).on k5
              have HR5 : Hid _ := HRA.out w5 P5.out.rf
              clear k5 y1 y2 y3 y4 y5 y6 y7 HRA
              go_wp2_with fail
              refine Calls.mono HR5.out ?_
              rintro e w6 ⟨rfl, k6⟩
              have P6 : Hid _ := P5.out.on k6
              clear k6 HR5
              go_wp2_with fail
              go_roundw
              case rel => exact ⟨j + 1, _, _, _, _, hlt, by rw [Int.natCast_add]; rfl, P6.out⟩
              case measure => simp only [intOf]; omega
          · have e1 : (ok == 1) = false := by simpa using hk1
            by_cases hk2 : ok = 2
            · subst hk2
              have P1 : Hid _ := P0.out.on KB.out
              have HTK : Hid _ := take10 P1.out.bf
              have HRT : Hid (∀ W, Rf base W rb order bud rv xs pk → _) := fun W (hR : Rf base W rb order bud rv xs pk) => rtake10 hR
              have HSS : Hid (∀ (W : World) (b c : Option Addr) (cb cc : Nat), RowsAt W b (srt (bef order) xs) → RowsAt W c (srt (bef order) xs) → _) := fun W b c cb cc hb hc => same10_true (ca := cb) (cb := cc) hb hc (by rw [srt_len]; have := P0.out.bf.len; omega)
              clear pr hk1 e1
              go_wp2_with fail
              refine Calls.mono HTK.out ?_
              rintro e w4 ⟨u, rfl, o4, bf4, s4⟩
              obtain ⟨ua, uc, rfl, ru4, -⟩ := OwnR.rows o4
              have O4 : Hid _ := o4
              have BF4 : Hid _ := bf4
              have S4 : Hid _ := s4.mono (S' := fun k => k = b ∨ v.ownBlock = some k) fun i _ e => .inl e
              have RU4 : Hid (RowsAt w4 ua (srt (bef order) xs)) := ru4
              have HR4 : Hid _ := HRT.out w4 (P1.out.rf.past P1.out.bf S4.out)
              clear o4 bf4 s4 ru4 HTK HRT
              go_wp2_with fail
              refine Calls.mono HR4.out ?_
              rintro e w5 ⟨ru, rfl, o5, rf5, s5⟩
              obtain ⟨ta, tc, rfl, rt5, -, -, -⟩ := OwnQ.rows o5
              have ru5 : RowsAt w5 ua (srt (bef order) xs) := RowsAt.kept RU4.out s5 fun k hk e => by
                obtain ⟨-, off, eu⟩ := hk
                subst eu
                have := (OwnR.block O4.out (k := k) (by simp [Value.ownBlock])).1
                have := KB.out.size
                omega
              have HS5 : Hid _ := HSS.out w5 ua ta uc tc ru5 rt5
              have P5 : Hid (Pr w w5 base b rb order bud (.slice none 0 0) (.slice none 0 0) [] pk) := P1.out.added BF4.out S4.out (Same.refl _ _) rf5 (s5.mono fun i _ e => .inl e)
              clear o5 rf5 s5 rt5 ru5 HR4 RU4 HSS
              go_wp2_with fail
              refine Calls.mono HS5.out ?_
              rintro e w6 ⟨rfl, k6⟩
              have P6 : Hid _ := P5.out.on k6
              clear k6 HS5 P5
              go_wp2_with fail
              go_roundw
              case rel => exact ⟨j + 1, _, _, _, _, hlt, by rw [Int.natCast_add]; rfl, P6.out⟩
              case measure => simp only [intOf]; omega
            · have e2 : (ok == 2) = false := by simpa using hk2
              by_cases hk3 : ok = 3
              · subst hk3
                have P1 : Hid _ := P0.out.on KB.out
                obtain ⟨ra, rc, erv, -, -, -, -⟩ := OwnQ.rows pr.rf.own
                subst erv
                have HBX0 := HBX.out
                clear pr
                go_upto_region 21 with fail
                generalize wr.alloc (.cells #[.int .i64 3, .int .i64 r.kind, .int .i64 r.time, .int .i64 r.seq, .int .i64 r.index, .int .i64 r.frm, .int .i64 r.til, .string r.body] 43) = W1 at P1 ⊢
                obtain ⟨⟨y0, y1, y2, y3, y4⟩, -, -, -, hrl1⟩ := P1.out.rf.cells
                have HBY : Hid (∀ n, _) := fun n => bytes10 (P1.out.bf.on ((Same.refl _ _).drewN n))
                have HLE : Hid (∀ n, _) := fun n => len10 (P1.out.bf.on ((Same.refl _ _).drewN n))
                have HPK : Hid (∀ n, _) := fun n => peak10 (P1.out.bf.on ((Same.refl _ _).drewN n))
                clear q0 q1 q2 q3 q4 q5 q6 q7 HBX KB HBX0
                generalize szs xs = sx at *
                generalize enx : xs.length = nx at *
                clear enx
                go_quiet ((first
                | (go_at_call 23; exact Calls.quiet_of_same (HBY.out _))
                | (go_at_call 24; exact Calls.quiet_of_same (HLE.out _))
                | (go_at_call 25; exact Calls.quiet_of_same (HPK.out _))))
                have P2 : Hid (Pr w (W1.drewN nq) _ _ _ _ _ _ _ _ _) := P1.out.on ((Same.refl _ _).drewN nq)
                clear HBY HLE HPK y0 y1 y2 y3 y4
                go_wp2_with fail
                go_roundw
                case rel => exact ⟨j + 1, _, _, _, _, hlt, by rw [Int.natCast_add]; rfl, P2.out⟩
                case measure => simp only [intOf]; omega
              · have e3 : (ok == 3) = false := by simpa using hk3
                have P1 : Hid _ := P0.out.on KB.out
                clear pr
                go_wp2_with fail
                go_roundw
                case rel => exact ⟨j + 1, _, _, _, _, hlt, by rw [Int.natCast_add]; rfl, P1.out⟩
                case measure => simp only [intOf]; omega
        · obtain rfl : n = j := by omega
          have c1 : decide ((n : Int) < (n : Int)) = false := by simp
          obtain ⟨ra, rc, erv, -, -, -, -⟩ := OwnQ.rows pr.rf.own
          subst erv
          obtain ⟨⟨y0, y1, y2, y3, y4⟩, -, -, -, hrl1⟩ := pr.rf.cells
          have HBY : Hid (∀ W, Kept wr W → _) := fun W (k : Kept wr W) => bytes10 (pr.bf.on k)
          have HLE : Hid (∀ W, Kept wr W → _) := fun W (k : Kept wr W) => len10 (pr.bf.on k)
          have HPK : Hid (∀ W, Kept wr W → _) := fun W (k : Kept wr W) => peak10 (pr.bf.on k)
          have hlx : xs.length ≤ 2396745 := pr.bf.len
          have HTK : Hid (∀ W, Kept wr W → Calls Try.prog 21 #[.pointer (some ⟨b, 0, none⟩)] W fun e w' => ∃ ua uc, e = .returned (.slice ua xs.length uc) ∧ Hid (RowsAt w' ua (srt (bef order) xs) ∧ (∀ k, InB ua xs.length k → wr.heap.size ≤ k) ∧ Rf base w' rb order bud (.slice ra xs.length rc) xs pk ∧ Same (fun k => w.heap.size ≤ k) w w')) := fun W k => Calls.mono (take10 (pr.bf.on k)) fun e w' ⟨u, h1, h2, h3, h4⟩ => by
            obtain ⟨ua, uc, eu, hra, -⟩ := OwnR.rows h2
            rw [srt_len] at eu
            refine ⟨ua, uc, by rw [h1, eu], hra, fun g hg => ?_, (pr.rf.on k).past (pr.bf.on k) (h4.mono fun i _ e => .inl e), (pr.bf.on k).step pr.low (pr.same.trans' (k.to _)) (h4.mono fun i _ e => .inl e)⟩
            obtain ⟨-, off, eo⟩ := hg
            rw [eu, eo] at h2
            have := (OwnR.block h2 (k := g) (by simp [Value.ownBlock])).1
            have := k.size
            omega
          have HRT : Hid (∀ (W : World) (ua : Option Addr), RowsAt W ua (srt (bef order) xs) → (∀ k, InB ua xs.length k → wr.heap.size ≤ k) → Rf base W rb order bud (.slice ra xs.length rc) xs pk → Same (fun k => w.heap.size ≤ k) w W → Calls Try.prog 22 #[.pointer (some ⟨rb, 0, none⟩)] W fun e w' => ∃ ta tc, e = .returned (.slice ta xs.length tc) ∧ Hid (RowsAt w' ua (srt (bef order) xs) ∧ RowsAt w' ta (srt (bef order) xs) ∧ Same (fun k => w.heap.size ≤ k) w w')) := fun W ua hra hin hR hS => Calls.mono (rtake10 hR) fun e w' ⟨u, h1, h2, h3, h4⟩ => by
            obtain ⟨ta, tc, eu, hrt, -, -, -⟩ := OwnQ.rows h2
            rw [srt_len] at eu
            refine ⟨ta, tc, by rw [h1, eu], hra.kept h4 (fun g hg e => ?_), hrt, hR.step pr.low hS (h4.mono fun i _ e => .inl e)⟩
            rw [srt_len] at hg
            have := hin g hg
            have := lt_of_heap pr.rf.obj
            omega
          have HSS : Hid (∀ (W : World) (b c : Option Addr) (cb cc : Nat), RowsAt W b (srt (bef order) xs) → RowsAt W c (srt (bef order) xs) → Calls Try.prog 20 #[.slice b xs.length cb, .slice c xs.length cc] W fun e w' => e = .returned (.bool true) ∧ Kept W w') := fun W b c cb cc hb hc => by
            have := same10_true (ca := cb) (cb := cc) hb hc (by rw [srt_len]; omega)
            rwa [srt_len] at this
          have hbl := lt_of_heap pr.bf.obj
          clear pr
          generalize szs xs = sx at *
          obtain ⟨nx, enx⟩ : ∃ nx, nx = xs.length := ⟨_, rfl⟩
          rw [← enx] at HLE HTK HRT HSS y4 hlx
          clear enx
          go_wp2_with fail
          refine wp_region_any (by kernel_rfl) ?_
          refine wpAny_take (i := 0) (v := ?_) rfl (by kernel_rfl) (by kernel_rfl) (by kernel_rfl) (fun _ _ _ h => h) (Or.inl ⟨by rfl, (by intro w; go_simp; (try with_reducible rfl))⟩) ?_
          refine wpAny_take (i := 2) (v := ?_) rfl (by kernel_rfl) (by kernel_rfl) (by kernel_rfl) (fun _ _ _ h => h) (Or.inl ⟨by rfl, (by intro w; go_simp; (try with_reducible rfl))⟩) ?_
          refine wpAny_take (i := 3) (v := ?_) rfl (by kernel_rfl) (by kernel_rfl) (by kernel_rfl) (fun _ _ _ h => h) (Or.inl ⟨by rfl, (by intro w; go_simp; (try with_reducible rfl))⟩) ?_
          refine wpAny_take (i := 4) (v := ?_) rfl (by kernel_rfl) (by kernel_rfl) (by kernel_rfl) (fun _ _ _ h => h) (Or.inl ⟨by rfl, (by intro w; go_simp; (try with_reducible rfl))⟩) ?_
          refine via (p := ?pp1) ?body1 ?hp1
          case body1 =>
            intro H
            refine wpAny_ready (rs := [1, 5]) (by kernel_rfl) (by simp) ?_
            refine AllReady.cons rfl (fun K hK => ?_) (AllReady.cons rfl (fun K hK => ?_) AllReady.nil)
            · skip
              go_simp
              go_wp2_with (go_at_call 23; refine Calls.mono (HBY.out _ (by (repeat (first | exact Same.refl _ _ | apply Same.drew | apply Same.drewN)); done)) ?_; rintro e w4 ⟨rfl, rfl⟩)
              refine wpAny_ready (rs := [5]) (by kernel_rfl) (by simp) ?_
              refine AllReady.cons rfl (fun K hK => ?_) AllReady.nil
              go_simp
              refine hK _ _ ?_
              clear hK K
              exact H
            · skip
              go_simp
              refine hK _ _ ?_
              clear hK K
              refine wpAny_ready (rs := [1]) (by kernel_rfl) (by simp) ?_
              refine AllReady.cons rfl (fun K hK => ?_) AllReady.nil
              go_simp
              go_wp2_with (go_at_call 23; refine Calls.mono (HBY.out _ (by (repeat (first | exact Same.refl _ _ | apply Same.drew | apply Same.drewN)); done)) ?_; rintro e w4 ⟨rfl, rfl⟩)
              exact H
          case hp1 =>
            refine wpAny_take (i := 6) (v := ?_) rfl (by kernel_rfl) (by kernel_rfl) (by kernel_rfl) (fun _ _ _ h => h) (Or.inl ⟨by rfl, (by intro w; go_simp; (try with_reducible rfl))⟩) ?_
            refine wpAny_take (i := 7) (v := ?_) rfl (by kernel_rfl) (by kernel_rfl) (by kernel_rfl) (fun _ _ _ h => h) (Or.inl ⟨by rfl, (by intro w; go_simp; (try with_reducible rfl))⟩) ?_
            refine wpAny_take (i := 8) (v := ?_) rfl (by kernel_rfl) (by kernel_rfl) (by kernel_rfl) (fun _ _ _ h => h) (Or.inl ⟨by rfl, (by intro w; go_simp; (try with_reducible rfl))⟩) ?_
            refine wpAny_take (i := 10) (v := ?_) rfl (by kernel_rfl) (by kernel_rfl) (by kernel_rfl) (fun _ _ _ h => h) (Or.inl ⟨by rfl, (by intro w; go_simp; (try with_reducible rfl))⟩) ?_
            refine wpAny_take (i := 11) (v := ?_) rfl (by kernel_rfl) (by kernel_rfl) (by kernel_rfl) (fun _ _ _ h => h) (Or.inl ⟨by rfl, (by intro w; go_simp; (try with_reducible rfl))⟩) ?_
            refine wpAny_take (i := 12) (v := ?_) rfl (by kernel_rfl) (by kernel_rfl) (by kernel_rfl) (fun _ _ _ h => h) (Or.inl ⟨by rfl, (by intro w; go_simp; (try with_reducible rfl))⟩) ?_
            refine via (p := ?pp2) ?body2 ?hp2
            case body2 =>
              intro H
              refine wpAny_ready (rs := [9, 13]) (by kernel_rfl) (by simp) ?_
              refine AllReady.cons rfl (fun K hK => ?_) (AllReady.cons rfl (fun K hK => ?_) AllReady.nil)
              · skip
                go_simp
                go_wp2_with (go_at_call 24; refine Calls.mono (HLE.out _ (by (repeat (first | exact Same.refl _ _ | apply Same.drew | apply Same.drewN)); done)) ?_; rintro e w4 ⟨rfl, rfl⟩)
                refine wpAny_ready (rs := [13]) (by kernel_rfl) (by simp) ?_
                refine AllReady.cons rfl (fun K hK => ?_) AllReady.nil
                go_simp
                refine hK _ _ ?_
                clear hK K
                refine wpAny_take (i := 14) (v := ?_) rfl (by kernel_rfl) (by kernel_rfl) (by kernel_rfl) (fun _ _ _ h => h) (Or.inl ⟨by rfl, (by intro w; go_simp; (try with_reducible rfl))⟩) ?_
                exact H
              · skip
                go_simp
                refine hK _ _ ?_
                clear hK K
                refine wpAny_take (i := 14) (v := ?_) rfl (by kernel_rfl) (by kernel_rfl) (by kernel_rfl) (fun _ _ _ h => h) (Or.inl ⟨by rfl, (by intro w; go_simp; (try with_reducible rfl))⟩) ?_
                refine wpAny_ready (rs := [9]) (by kernel_rfl) (by simp) ?_
                refine AllReady.cons rfl (fun K hK => ?_) AllReady.nil
                go_simp
                go_wp2_with (go_at_call 24; refine Calls.mono (HLE.out _ (by (repeat (first | exact Same.refl _ _ | apply Same.drew | apply Same.drewN)); done)) ?_; rintro e w4 ⟨rfl, rfl⟩)
                exact H
            case hp2 =>
              refine wpAny_take (i := 15) (v := ?_) rfl (by kernel_rfl) (by kernel_rfl) (by kernel_rfl) (fun _ _ _ h => h) (Or.inl ⟨by rfl, (by intro w; go_simp; (try with_reducible rfl))⟩) ?_
              refine wpAny_take (i := 16) (v := ?_) rfl (by kernel_rfl) (by kernel_rfl) (by kernel_rfl) (fun _ _ _ h => h) (Or.inl ⟨by rfl, (by intro w; go_simp; (try with_reducible rfl))⟩) ?_
              refine wpAny_take (i := 17) (v := ?_) rfl (by kernel_rfl) (by kernel_rfl) (by kernel_rfl) (fun _ _ _ h => h) (Or.inl ⟨by rfl, (by intro w; go_simp; (try with_reducible rfl))⟩) ?_
              refine wpAny_take (i := 18) (v := ?_) rfl (by kernel_rfl) (by kernel_rfl) (by kernel_rfl) (fun _ _ _ h => h) (Or.inl ⟨by rfl, (by intro w; go_simp; (try with_reducible rfl))⟩) ?_
              refine wpAny_take (i := 20) (v := ?_) rfl (by kernel_rfl) (by kernel_rfl) (by kernel_rfl) (fun _ _ _ h => h) (Or.inl ⟨by rfl, (by intro w; go_simp; (try with_reducible rfl))⟩) ?_
              refine wpAny_take (i := 21) (v := ?_) rfl (by kernel_rfl) (by kernel_rfl) (by kernel_rfl) (fun _ _ _ h => h) (Or.inl ⟨by rfl, (by intro w; go_simp; (try with_reducible rfl))⟩) ?_
              refine wpAny_take (i := 22) (v := ?_) rfl (by kernel_rfl) (by kernel_rfl) (by kernel_rfl) (fun _ _ _ h => h) (Or.inl ⟨by rfl, (by intro w; go_simp; (try with_reducible rfl))⟩) ?_
              refine via (p := ?pp3) ?body3 ?hp3
              case body3 =>
                intro H
                refine wpAny_ready (rs := [19, 23]) (by kernel_rfl) (by simp) ?_
                refine AllReady.cons rfl (fun K hK => ?_) (AllReady.cons rfl (fun K hK => ?_) AllReady.nil)
                · skip
                  go_simp
                  go_wp2_with (go_at_call 25; refine Calls.mono (HPK.out _ (by (repeat (first | exact Same.refl _ _ | apply Same.drew | apply Same.drewN)); done)) ?_; rintro e w4 ⟨rfl, rfl⟩)
                  refine wpAny_ready (rs := [23]) (by kernel_rfl) (by simp) ?_
                  refine AllReady.cons rfl (fun K hK => ?_) AllReady.nil
                  go_simp
                  refine hK _ _ ?_
                  clear hK K
                  exact H
                · skip
                  go_simp
                  refine hK _ _ ?_
                  clear hK K
                  refine wpAny_ready (rs := [19]) (by kernel_rfl) (by simp) ?_
                  refine AllReady.cons rfl (fun K hK => ?_) AllReady.nil
                  go_simp
                  go_wp2_with (go_at_call 25; refine Calls.mono (HPK.out _ (by (repeat (first | exact Same.refl _ _ | apply Same.drew | apply Same.drewN)); done)) ?_; rintro e w4 ⟨rfl, rfl⟩)
                  exact H
              case hp3 =>
                refine wpAny_take (i := 24) (v := ?_) rfl (by kernel_rfl) (by kernel_rfl) (by kernel_rfl) (fun _ _ _ h => h) (Or.inl ⟨by rfl, (by intro w; go_simp; (try with_reducible rfl))⟩) ?_
                refine wpAny_take (i := 25) (v := ?_) rfl (by kernel_rfl) (by kernel_rfl) (by kernel_rfl) (fun _ _ _ h => h) (Or.inl ⟨by rfl, (by intro w; go_simp; (try with_reducible rfl))⟩) ?_
                refine wpAny_take (i := 26) (v := ?_) rfl (by kernel_rfl) (by kernel_rfl) (by kernel_rfl) (fun _ _ _ h => h) (Or.inl ⟨by rfl, (by intro w; go_simp; (try with_reducible rfl))⟩) ?_
                refine wpAny_take (i := 27) (v := ?_) rfl (by kernel_rfl) (by kernel_rfl) (by kernel_rfl) (fun _ _ _ h => h) (Or.inl ⟨by rfl, (by intro w; go_simp; (try with_reducible rfl))⟩) ?_
                refine wpAny_take (i := 29) (v := ?_) rfl (by kernel_rfl) (by kernel_rfl) (by kernel_rfl) (fun _ _ _ h => h) (Or.inl ⟨by rfl, (by intro w; go_simp; (try with_reducible rfl))⟩) ?_
                refine wpAny_ready (rs := [28]) (by kernel_rfl) (by simp) ?_
                refine AllReady.cons rfl (fun K hK => ?_) AllReady.nil
                go_simp
                go_wp2_with (go_at_call 21; refine Calls.mono (HTK.out _ (by (repeat (first | exact Same.refl _ _ | apply Same.drew | apply Same.drewN)); done)) ?_; rintro e w4 ⟨ua, uc, rfl, F4⟩)
                refine wpAny_ready (rs := [30]) (by kernel_rfl) (by simp) ?_
                refine AllReady.cons rfl (fun K hK => ?_) AllReady.nil
                go_simp
                go_wp2_with (go_at_call 22; refine Calls.mono (HRT.out _ ua F4.out.1 F4.out.2.1 F4.out.2.2.1 F4.out.2.2.2) ?_; rintro e w5 ⟨ta, tc, rfl, F5⟩)
                refine wpAny_ready (rs := [31]) (by kernel_rfl) (by simp) ?_
                refine AllReady.cons rfl (fun K hK => ?_) AllReady.nil
                go_simp
                go_wp2_with (go_at_call 20; refine Calls.mono (HSS.out _ ua ta uc tc F5.out.1 F5.out.2.1) ?_; rintro e w6 ⟨rfl, k6⟩)
                refine wpAny_ready (rs := [32]) (by kernel_rfl) (by simp) ?_
                refine AllReady.cons rfl (fun K hK => ?_) AllReady.nil
                go_simp
                refine hK _ _ ?_
                clear hK K
                refine wpAny_ready (rs := [33]) (by kernel_rfl) (by simp) ?_
                refine AllReady.cons rfl (fun K hK => ?_) AllReady.nil
                go_simp
                refine hK _ _ ?_
                clear hK K
                refine wpAny_done (by kernel_rfl) ?_ _
                have KF : Hid (Kept w w6) := (F5.out.2.2.trans' (k6.to _)).mono fun i hi e => by omega
                clear k6 F4 F5
                go_wp2_with fail
                go_ret
                exact ⟨rfl, KF.out⟩
  · have HN : Hid (∀ W, _) := fun W => new10_order ho budget W
    have HM : Hid (∀ W, _) := fun W => rnew10_order ho budget W
    clear ho
    go_enter Try.func4, Try.ntmps4
    go_wp2_with fail
    refine Calls.mono (HA.out _) ?_
    rintro e w1 ⟨rfl, k1⟩
    have K1 : Hid _ := k1
    clear k1
    go_wp2_with fail
    refine Calls.mono (HN.out _) ?_
    rintro e w2 ⟨rfl, k2⟩
    have K2 : Hid (Kept w w2) := Same.trans' K1.out k2
    clear k2
    go_wp2_with fail
    refine Calls.mono (HM.out _) ?_
    rintro e w3 ⟨rfl, rfl⟩
    go_wp2_with fail
    go_ret
    exact ⟨rfl, K2.out⟩
end Go.Proofs.Ytcbllejjiokmbaa
