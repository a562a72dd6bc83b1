/- What is proved: the law LosersMerges answers true and leaves all that was there as it was: Merge answers as the document's, and leaves its lists as they were; the lists hold no more than 1048576 rows together. -/
import Derived.Test.YtolaeiagfnhllaaTMgT
namespace Go.Proofs.Ytolaeiagfnhllaa
open Go.RowKit

/-- The lists L lie in w from address a on, as an argument. -/
def ListsArg (w : World) (a : Option Addr) (L : List (List RwM)) : Prop :=
  ∀ i l, L[i]? = some l → ∃ b off x c, a = some ⟨b, off, none⟩ ∧ b < w.heap.size ∧ w.cell? ⟨b, off + i, none⟩ = some (.slice x l.length c) ∧ RowsAt w x l ∧ (x = none → l.length = 0 ∧ c = 0)
theorem ListsArg.on {w w' : World} {a : Option Addr} {L : List (List RwM)} (h : ListsArg w a L) (k : Kept w w') : ListsArg w' a L := fun i l hl => by
  obtain ⟨b, off, x, c, rfl, hb, h1, h2, h3⟩ := h i l hl
  exact ⟨b, off, x, c, rfl, Nat.lt_of_lt_of_le hb k.size, (k.cell (p := ⟨b, off + i, none⟩) hb (fun e => e)).trans h1, h2.on k, h3⟩
theorem mgR_len (order : Int) (L : List (List RwM)) : (mgR order L).length ≤ L.flatten.length := by
  unfold mgR
  by_cases h : mgC order L = 0
  · rw [if_pos h, srt_len]
    exact Nat.le_refl _
  · rw [if_neg h]
    exact Nat.zero_le _
set_option maxRecDepth 100000 in
set_option maxHeartbeats 2000000 in
theorem merges_law (order : Int) (w : World) (a : Option Addr) (cap : Nat) (L : List (List RwM)) (h : ListsArg w a L) (hn : L.flatten.length ≤ 1048576) (hL : L.length ≤ 1048576) : Calls Try.prog 4 #[.int .i64 order, .slice a L.length cap] w fun e w' => e = .returned (.bool true) ∧ Kept w w' := by
  have HA : Hid (∀ W, _) := anchor11_any
  have HR : Hid _ := h
  have HN : Hid _ := hn
  have HP : Hid (∀ k t s i f u y W, _) := plain_f
  have HMG : Hid (∀ (W : World) (x : Option Addr) (c : Nat), ListsAt W x L → _) := fun W x c hx => merge_any order c hx (Nat.le_trans hn (by decide))
  have HRM : Hid (∀ (W : World) (x : Option Addr) (c : Nat), ListsAt W x L → _) := fun W x c hx => rmerge_any order c hx (Nat.le_trans hn (by decide))
  have HSM : Hid (∀ (W : World) (x y : Option Addr) (c d : Nat) (l : List RwM), l.length ≤ 1048576 → RowsAt W x l → RowsAt W y l → _) := fun W x y c d l hl h1 h2 => same10_true (ca := c) (cb := d) h1 h2 (Nat.le_trans hl (by decide))
  have HRL : Hid ((mgR order L).length ≤ 1048576) := Nat.le_trans (mgR_len order L) hn
  obtain ⟨n, en⟩ : ∃ n, n = L.length := ⟨_, rfl⟩
  rw [← en] at hL HMG HRM ⊢
  have EN : Hid _ := en
  clear h hn en
  go_enter Try.func4, Try.ntmps4
  go_wp2_with fail
  refine Calls.mono (HA.out _) ?_
  rintro e w1 ⟨rfl, k1⟩
  have K1 : Hid (Same (fun k => w.heap.size ≤ k) w w1) := k1.to _
  clear k1 HA
  go_wp2_with fail
  go_loopw [5, 6, 22] (fun v5 v6 i wr => ∃ q : Nat, q ≤ n ∧ i = .int .i64 (q : Int) ∧ Tw w wr v5 v6 (L.take q) (L.take q)) (fun _ _ i _ => n - (intOf i).toNat)
  case atStart => exact ⟨0, Nat.zero_le _, rfl, ⟨Tb.nil _ _ _ _, Tb.nil _ _ _ _, K1.out⟩⟩
  case round =>
    clear K1
    obtain ⟨q, hq, rfl, tw⟩ := hrel
    by_cases hlt : q < n
    · have e1 : decide ((q : Int) < (n : Int)) = true := decide_eq_true (by omega)
      have e1' : (q : Int) < (n : Int) := by omega
      have HQ : Hid _ := hlt
      obtain ⟨l, hlq⟩ : ∃ l, L[q]? = some l := ⟨_, List.getElem?_eq_getElem (by rw [← EN.out]; exact hlt)⟩
      obtain ⟨bb, off, x, c, rfl, hbb, cl, hrow, hnil⟩ := (ListsArg.on HR.out tw.kept) q l hlq
      have hl2 : l.length ≤ 1048576 := Nat.le_trans (mem_flat_le (List.mem_of_getElem? hlq)) HN.out
      obtain ⟨wq, ewq⟩ : ∃ wq, wq = wr := ⟨_, rfl⟩
      have EQ : Hid _ := ewq
      rw [← ewq] at tw hrow
      have TW : Hid _ := tw
      have HRW : Hid _ := hrow
      have hql : (L.take q).length + 1 ≤ 4398046511104 := by rw [List.length_take]; omega
      have HTK : Hid (L.take (q + 1) = L.take q ++ [l]) := by
        show _ = _
        rw [List.take_add_one, hlq]
        rfl
      have HWANT : Hid (∀ (W : World) (v9 : Value), Same (fun k => wq.heap.size ≤ k) wq W → OwnQ wq.heap.size W v9 l → ∃ x9 c9, v9 = .slice x9 l.length c9 ∧ ∀ g, g = W.heap.size → ∀ ty, ∃ v' w', (Builtin.append_ #[38, 38] ty #[u6, .slice (some ⟨g, 0, none⟩) 1 1]).run Try.prog (W.alloc (.cells #[.slice x9 l.length c9] 40)) = .ok v' w' ∧ Tw w w' u5 v' (L.take q) (L.take q ++ [l])) := fun W v9 s o => by
        obtain ⟨x9, c9, e9, r9, -, -, b9⟩ := o.rows
        refine ⟨x9, c9, e9, fun g hg ty => ?_⟩
        rw [hg]
        exact tw.want (s.mono fun j hj e => by omega) r9 b9 hql ty
      have HCOPY : Hid (∀ (W : World) (v6 : Value), Tw w W u5 v6 (L.take q) (L.take q ++ [l]) → ∀ g, g = W.heap.size → ∀ ty, ∃ v' w', (Builtin.append_ #[39, 39] ty #[.slice (some ⟨g, 0, none⟩) 0 0, .slice x l.length c]).run Try.prog (W.alloc (.cells #[] 32)) = .ok v' w' ∧ ∃ xa ca, v' = .slice xa l.length ca ∧ ∀ g, g = w'.heap.size → ∀ ty, ∃ v2 w2, (Builtin.append_ #[37, 37] ty #[u5, .slice (some ⟨g, 0, none⟩) 1 1]).run Try.prog (w'.alloc (.cells #[.slice xa l.length ca] 39)) = .ok v2 w2 ∧ Tw w w2 v2 v6 (L.take (q + 1)) (L.take (q + 1))) := fun W v6 t g hg ty => by
        obtain ⟨b2, off2, x2, c2, e2, -, cl2, hrow2, hnil2⟩ := (ListsArg.on HR.out t.kept) q l hlq
        have kc := (ListsArg.on HR.out tw.kept) q l hlq
        have hxr : RowsAt W x l := by
          obtain ⟨b3, off3, x3, c3, e3, hb3, cl3, hrow3, -⟩ := HR.out q l hlq
          have q1 := (tw.kept.cell (p := ⟨b3, off3 + q, none⟩) hb3 (fun e => e)).trans cl3
          simp only [Option.some.injEq, Addr.mk.injEq, and_true] at e3
          obtain ⟨rfl, rfl⟩ := e3
          rw [ewq] at q1
          have := q1.symm.trans cl
          simp only [Option.some.injEq, Value.slice.injEq] at this
          obtain ⟨rfl, -, -⟩ := this
          exact hrow3.on t.kept
        rw [hg]
        obtain ⟨v', w', r1, r2, r3⟩ := copy_rows (cap := c) Try.underlying39 Try.infoRow hxr hnil (Nat.le_trans hl2 (by decide)) ty
        have r2' : OwnR W.heap.size w' v' l := r2
        obtain ⟨xa, ca, ea, ra, ba⟩ := r2'.own_in
        refine ⟨v', w', r1, xa, ca, ea, fun g2 hg2 ty2 => ?_⟩
        rw [hg2, HTK.out]
        exact t.arg r3 ra ba hql ty2
      obtain ⟨m, em⟩ : ∃ m, m = l.length := ⟨_, rfl⟩
      have EM : Hid _ := em
      rw [← em] at cl hl2 HWANT HCOPY
      clear tw hrow hlq hbb hnil hql em
      go_wp2_with fail
      go_loopw [9, 28] (fun v i wi => ∃ j : Nat, j ≤ m ∧ i = .int .i64 (j : Int) ∧ OwnQ wq.heap.size wi v (l.take j) ∧ Same (fun k => wq.heap.size ≤ k) wq wi) (fun _ i _ => m - (intOf i).toNat)
      case atStart => exact ⟨0, Nat.zero_le _, rfl, OwnQ.nil _ _, by rw [EQ.out]; exact Same.refl _ _⟩
      case round =>
        obtain ⟨j, hj, rfl, ho, ks⟩ := hrel
        have HO : Hid _ := ho
        have KS : Hid _ := ks
        by_cases hlj : j < m
        · have c1 : decide ((j : Int) < (m : Int)) = true := decide_eq_true (by omega)
          have c1' : (j : Int) < (m : Int) := by omega
          have HJ : Hid _ := hlj
          obtain ⟨r, hr⟩ : ∃ r, l[j]? = some r := ⟨_, List.getElem?_eq_getElem (by rw [← EM.out]; exact hlj)⟩
          obtain ⟨g, off2, ea, hg, x0, x1, x2, x3, x4, x5, x6⟩ := (RowsAt.kept HRW.out ks (fun k hk e => by have := RowsAt.lt HRW.out hk; omega)) j r hr
          subst ea
          have HST : Hid _ := getElem_take_succ hr
          have lt2 : (l.take j).length = j := by rw [List.length_take, ← EM.out]; omega
          have HAX : Hid (∀ (W : World) (bb : Nat), Kept wr W → W.heap[bb]? = some (Obj.cells #[.int .i64 r.kind, .int .i64 r.time, .int .i64 r.seq, .int .i64 r.index, .int .i64 r.frm, .int .i64 r.til, .string r.body] 41 (0, 0)) → ∀ ty, _) := fun W bb (k : Kept wr W) hc ty => app_q r (OwnQ.kept ho k (fun _ _ e => e)) hc (by rw [lt2]; omega) (Nat.le_trans ks.size k.size) ty
          rw [← HST.out] at HAX
          have HUP : Hid (∀ (W w5 : World), Kept wr W → Same (fun k => u9.ownBlock = some k) W w5 → Same (fun k => wq.heap.size ≤ k) wq w5) := fun W w5 k k5 => (ks.trans' (k.to _)).trans k5 fun b _ e => (OwnQ.block ho e).1
          have KB : Hid (Kept wr (wr.alloc (.cells #[.int .i64 r.kind, .int .i64 r.time, .int .i64 r.seq, .int .i64 r.index, .int .i64 r.frm, .int .i64 r.til, .string r.body] 32))) := (Same.refl _ wr).alloc _
          clear ho ks hr lt2
          obtain ⟨kind, time, seq, index, frm, til, body⟩ := r
          simp only at *
          go_wp2_with fail
          refine Calls.mono (HP.out _ _ _ _ _ _ _ _) ?_
          rintro e w3 ⟨rfl, k3⟩
          have K3 := Same.trans' KB.out k3
          clear k3 x0 x1 x2 x3 x4 x5 x6
          go_wp2_with (at_builtin; refine wpList_app rfl (.tmp 32) (.tmp 35) 40 40 rfl u9 (.slice (some ⟨_, 0, none⟩) 1 1) rfl rfl _ (HAX.out _ _ (by (repeat (first | assumption | exact Same.refl _ _ | apply Same.alloc | apply Same.drew | apply Same.drewN)); done) (by exact heap_new _ _)) ?_; rintro v5 w5 ⟨o5, k5, -⟩; have R : Hid _ := And.intro o5 (HUP.out _ _ (by (repeat (first | assumption | exact Same.refl _ _ | apply Same.alloc | apply Same.drew | apply Same.drewN)); done) k5); clear o5 k5)
          go_roundw
          case rel => exact ⟨j + 1, HJ.out, by rw [Int.natCast_add]; rfl, R.out⟩
          case measure => simp only [intOf]; omega
        · obtain rfl : m = j := by omega
          have c1 : decide ((m : Int) < (m : Int)) = false := by simp
          have ho2 : OwnQ wq.heap.size wr u9 l := by
            have e2 : l.take m = l := by rw [EM.out, List.take_length]
            rw [e2] at ho
            exact ho
          obtain ⟨x9, c9, rfl, hw9⟩ := HWANT.out wr u9 ks ho2
          have HW9 : Hid _ := hw9
          clear ho ho2 ks hj hlj hw9 HWANT HO
          go_wp2_with (at_builtin; apply Hid.out)
          refine wpList_app rfl (.tmp 38) (.tmp 40) 38 38 rfl u6 (.slice (some ⟨_, 0, none⟩) 1 1) rfl rfl _ (HW9.out _ (by first | rfl | simp)) ?_
          rintro v7 w7 t7
          have HC7 : Hid _ := HCOPY.out w7 v7 t7
          clear t7 HCOPY HW9
          go_wp2_with (at_builtin; apply Hid.out)
          refine wpList_app rfl (.tmp 43) (.tmp 44) 39 39 rfl (.slice (some ⟨_, 0, none⟩) 0 0) (.slice x m c) rfl rfl _ (HC7.out _ (by first | rfl | simp)) ?_
          rintro v8 w8 t8
          obtain ⟨xa, ca, rfl, ha8⟩ := t8
          have HA8 : Hid _ := ha8
          clear ha8 HC7
          go_wp2_with (at_builtin; refine wpList_app rfl (.tmp 42) (.tmp 46) 37 37 rfl u5 (.slice (some ⟨_, 0, none⟩) 1 1) rfl rfl _ (HA8.out _ (by first | rfl | simp)) ?_; rintro v9 w9 t9; have T9 : Hid _ := t9; clear t9)
          go_roundw
          case rel => exact ⟨q + 1, HQ.out, by rw [Int.natCast_add]; rfl, T9.out⟩
          case measure => simp only [intOf]; omega
    · obtain rfl : n = q := by omega
      have e1 : decide ((n : Int) < (n : Int)) = false := by simp
      have e2 : L.take n = L := by rw [EN.out, List.take_length]
      rw [e2] at tw
      obtain ⟨x5, c5, rfl, l5⟩ := tw.a.lists
      obtain ⟨x6, c6, rfl, l6⟩ := tw.b.lists
      rw [← EN.out]
      have L5 : Hid _ := l5
      have L6 : Hid _ := l6
      have KW : Hid _ := tw.kept
      have HM5 : Hid _ := HMG.out _ _ c5 l5
      clear tw l5 l6 e2 hq hlt HMG HP
      generalize mgC order L = mc at *
      obtain ⟨Z, eZ⟩ : ∃ Z, Z = mgR order L := ⟨_, rfl⟩
      rw [← eZ] at HM5 HRM HRL
      clear eZ
      go_wp2_with fail
      refine Calls.mono HM5.out ?_
      rintro e w2 ⟨ox, oc, rfl, or, k2⟩
      have O2 : Hid _ := or
      have K2 : Hid _ := k2
      have HM6 : Hid _ := HRM.out _ _ c6 (ListsAt.on L6.out k2)
      clear or k2 HM5 HRM
      go_wp2_with fail
      refine Calls.mono HM6.out ?_
      rintro e w3 ⟨mx, mc2, rfl, mr, k3⟩
      have K3 : Hid _ := K2.out.trans' k3
      have HS1 : Hid _ := HSM.out w3 ox mx oc mc2 Z HRL.out (RowsAt.on O2.out k3) mr
      clear mr k3 HM6 O2
      generalize Z.length = zl at *
      go_wp2_with fail
      refine Calls.mono HS1.out ?_
      rintro e w4 ⟨rfl, k4⟩
      have K4 : Hid _ := K3.out.trans' k4
      clear k4 HS1 K2 K3
      go_wp2_with fail
      go_loopw [79] (fun i wi => ∃ j : Nat, j ≤ n ∧ i = .int .i64 (j : Int) ∧ Kept wr wi) (fun i _ => n - (intOf i).toNat)
      case atStart => exact ⟨0, Nat.zero_le _, rfl, K4.out⟩
      case round =>
        clear K4
        obtain ⟨j, hj, rfl, kk⟩ := hrel
        by_cases hlt : j < n
        · have g1 : decide ((j : Int) < (n : Int)) = true := decide_eq_true (by omega)
          have g1' : (j : Int) < (n : Int) := by omega
          have HJ : Hid _ := hlt
          obtain ⟨l, hlq⟩ : ∃ l, L[j]? = some l := ⟨_, List.getElem?_eq_getElem (by rw [← EN.out]; exact hlt)⟩
          obtain ⟨b5, o5, y5, d5, rfl, hb5, cl5, r5⟩ := (ListsAt.on L5.out kk) j l hlq
          obtain ⟨b6, o6, y6, d6, rfl, hb6, cl6, r6⟩ := (ListsAt.on L6.out kk) j l hlq
          have HS2 : Hid (∀ W, Kept wr W → _) := fun W (k : Kept wr W) => HSM.out W y5 y6 d5 d6 l (Nat.le_trans (mem_flat_le (List.mem_of_getElem? hlq)) HN.out) (r5.on k) (r6.on k)
          have KK : Hid _ := kk
          generalize l.length = m at *
          clear kk r5 r6 hlq hb5 hb6 HSM
          go_wp2_with fail
          refine Calls.mono (HS2.out _ (Same.refl _ _)) ?_
          rintro e w5 ⟨rfl, k5⟩
          have K5 : Hid _ := KK.out.trans' k5
          clear k5 HS2
          go_wp2_with fail
          go_roundw
          case rel => exact ⟨j + 1, HJ.out, by rw [Int.natCast_add]; rfl, K5.out⟩
          case measure => simp only [intOf]; omega
        · obtain rfl : n = j := by omega
          have g1 : decide ((n : Int) < (n : Int)) = false := by simp
          have KK : Hid _ := KW.out.trans' kk
          clear kk hj hlt
          go_wp2_with fail
          go_ret
          exact ⟨rfl, KK.out⟩
end Go.Proofs.Ytolaeiagfnhllaa
