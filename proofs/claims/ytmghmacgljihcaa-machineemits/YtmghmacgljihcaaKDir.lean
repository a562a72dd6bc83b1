/- What is proved: lastDirty gives the last write or delete of a key by the active transactions, and whether there is one; the machine lies in memory. -/
import Derived.Test.YtmghmacgljihcaaKTxn
import Derived.BigRegion
namespace Go.Proofs.Ytmghmacgljihcaa
open Go.RowKit

theorem op_obj {w : World} {b : Nat} {p q r s : Value} {ty : TypeId} (h : w.heap[b]? = some (.cells #[p, q, r, s] ty (0, 0))) :
    (w.cell? ⟨b, 0, none⟩ = some p ∧ w.cell? ⟨b, 1, none⟩ = some q ∧ w.cell? ⟨b, 2, none⟩ = some r ∧ w.cell? ⟨b, 3, none⟩ = some s) ∧ w.frozen? ⟨b, 0, none⟩ = false ∧ w.frozen? ⟨b, 1, none⟩ = false ∧ w.frozen? ⟨b, 2, none⟩ = false ∧ w.frozen? ⟨b, 3, none⟩ = false := ver_obj h
/-- The box of an operation. -/
def OpB (w : World) (g : Nat) (o : OpM) : Prop := w.heap[g]? = some (.cells #[.int .i64 o.kind, .string o.key, .bool o.found, .string o.value] 84 (0, 0))
theorem loadVar_op {w : World} {g : Nat} {o : OpM} (h : OpB w g o) : (loadVar 84 ⟨g, 0, none⟩).run Try.prog w = .ok (.agg #[.int .i64 o.kind, .string o.key, .bool o.found, .string o.value]) w := by
  obtain ⟨⟨c0, c1, c2, c3⟩, -⟩ := op_obj h
  clear h
  go_simp
theorem drt_none {S : List Sn} {k : ByteArray} {j : Nat} (h : (S.getD j sn0).act = none) : drt S k (j + 1) = drt S k j := by rw [drt, h]
theorem drt_no {S : List Sn} {k : ByteArray} {j : Nat} {a : Ac} (h : (S.getD j sn0).act = some a) (hl : lastW a.t.ops k = none) : drt S k (j + 1) = drt S k j := by rw [drt, h]; simp only; rw [hl]
theorem drt_old {S : List Sn} {k : ByteArray} {j : Nat} {a : Ac} {i : Nat} (h : (S.getD j sn0).act = some a) (hl : lastW a.t.ops k = some i) (ht : ¬ (drt S k j).2 < a.ts.getD i 0) : drt S k (j + 1) = drt S k j := by rw [drt, h]; simp only; rw [hl]; simp only; rw [if_neg ht]
theorem drt_new {S : List Sn} {k : ByteArray} {j : Nat} {a : Ac} {i : Nat} (h : (S.getD j sn0).act = some a) (hl : lastW a.t.ops k = some i) (ht : (drt S k j).2 < a.ts.getD i 0) : drt S k (j + 1) = (a.t.ops.getD i z0, a.ts.getD i 0) := by rw [drt, h]; simp only; rw [hl]; simp only; rw [if_pos ht]
theorem drt_bound {c : Int} {S : List Sn} (k : ByteArray) (hc : 0 ≤ c) (h : ∀ i a, (S.getD i sn0).act = some a → AcI c a) (j : Nat) : 0 ≤ (drt S k j).2 ∧ (drt S k j).2 ≤ c := by
  induction j with
  | zero => exact ⟨Int.le_refl _, hc⟩
  | succ j ih =>
    cases e : (S.getD j sn0).act with
    | none => rw [drt_none e]; exact ih
    | some a =>
      cases hl : lastW a.t.ops k with
      | none => rw [drt_no e hl]; exact ih
      | some i =>
        by_cases ht : (drt S k j).2 < a.ts.getD i 0
        · rw [drt_new e hl ht]
          have hi := lastW_lt hl
          have ha := h j a e
          rw [← ha.ts] at hi
          have := ha.pos (a.ts.getD i 0) (by rw [List.getD_eq_getElem?_getD, List.getElem?_eq_getElem hi]; simp)
          exact ⟨by simp only; omega, this.2⟩
        · rw [drt_old e hl ht]; exact ih
set_option maxRecDepth 100000 in
set_option maxHeartbeats 3200000 in
theorem lastDirty15 {tg : Nat → Tg} {w : World} {mb sb vb : Nat} {lv : Value} {P : Nat → Option Nat} {L : List (TxM × Value)} {M : Mm} (h : Mi tg w mb sb vb lv P L M) (hi : Inv M) (k : ByteArray) {O : OpM} {T : Int} (eO : drt M.ses k M.ses.length = (O, T)) :
    Calls Try.prog 54 #[.pointer (some ⟨mb, 0, none⟩), .string k] w fun e w' => e = .returned (.tuple #[.agg #[.int .i64 O.kind, .string O.key, .bool O.found, .string O.value], .bool (decide (0 < T))]) ∧ Kept w w' := by
  have HM : Hid (∀ W, Kept w W → Mi tg W mb sb vb lv P L M) := fun W k' => h.on k'
  have HI : Hid (Inv M) := hi
  have HEO : Hid (drt M.ses k M.ses.length = (O, T)) := eO
  have hn := hi.s1
  have hcs := hi.c1
  clear eO hi
  have HG4 : Hid _ := heap_new w (.cells #[.int .i64 0, .string ⟨#[]⟩, .bool false, .string ⟨#[]⟩] 84 (0, 0))
  have K4 : Hid (Kept w (w.alloc (.cells #[.int .i64 0, .string ⟨#[]⟩, .bool false, .string ⟨#[]⟩] 84 (0, 0)))) := (Same.refl _ _).alloc _
  have hmb := lt_of_heap h.obj
  clear h
  obtain ⟨n, en⟩ : ∃ n, n = M.ses.length := ⟨_, rfl⟩
  have EN : Hid (n = M.ses.length) := en
  rw [← en] at hn
  clear en
  go_enter Try.func54, Try.ntmps54
  go_upto_region 1 with fail
  generalize w.alloc (.cells #[.int .i64 0, .string ⟨#[]⟩, .bool false, .string ⟨#[]⟩] 84 (0, 0)) = W4 at *
  have h4 : w.heap.size ≤ w.heap.size := Nat.le_refl _
  generalize hg4 : w.heap.size = g4 at HG4 ⊢
  have HW4 : Hid (w.heap.size = g4) := hg4
  have HG6 : Hid _ := heap_new W4 (.cells #[.int .i64 0, .string ⟨#[]⟩, .bool false, .string ⟨#[]⟩] 84 (0, 0))
  have K6 : Hid (Kept W4 (W4.alloc (.cells #[.int .i64 0, .string ⟨#[]⟩, .bool false, .string ⟨#[]⟩] 84 (0, 0)))) := (Same.refl _ _).alloc _
  go_upto_region 2 with fail
  have hne : g4 ≠ W4.heap.size := by have := lt_of_heap HG4.out; omega
  generalize W4.alloc (.cells #[.int .i64 0, .string ⟨#[]⟩, .bool false, .string ⟨#[]⟩] 84 (0, 0)) = W6 at *
  have h6 : w.heap.size ≤ W4.heap.size := Same.size K4.out
  generalize W4.heap.size = g6 at *
  have K7 : Hid (Kept w W6) := Same.trans' K4.out K6.out
  have HO4 : Hid (OpB W6 g4 z0) := (Same.block K6.out g4 (lt_of_heap HG4.out) (fun e => e)).trans HG4.out
  have HO6 : Hid (OpB W6 g6 z0) := HG6.out
  obtain ⟨hmb6, ⟨-, -, -, c3, -⟩, -⟩ := Mi.cells (HM.out W6 K7.out)
  rw [← show n = _ from EN.out] at c3
  clear HG4 HG6 K4 K6 hg4
  go_upto_region 3 with fail
  go_loopw [7, 18] (fun s7 i wr => ∃ (j : Nat) (O' : OpM) (T' : Int), j ≤ n ∧ i = .int .i64 (j : Int) ∧ drt M.ses k j = (O', T') ∧ s7 = .int .i64 T' ∧ OpB wr g6 O' ∧ OpB wr g4 z0 ∧ Kept w wr) (fun _ i _ => n - (intOf i).toNat)
  case atStart => exact ⟨0, z0, 0, Nat.zero_le _, rfl, rfl, rfl, HO6.out, HO4.out, K7.out⟩
  case round =>
    obtain ⟨j, O', T', hj, rfl, hd, rfl, o6, o4, kk⟩ := hrel
    have HD : Hid (drt M.ses k j = (O', T')) := hd
    have HQ6 : Hid (OpB wr g6 O') := o6
    have HQ4 : Hid (OpB wr g4 z0) := o4
    have KK : Hid (Kept w wr) := kk
    have hl6 := lt_of_heap o6
    have hl4 := lt_of_heap o4
    clear hd o6 o4 kk HO6 HO4
    by_cases hlt : j < n
    · have c1 : decide ((j : Int) < (n : Int)) = true := by simp only [decide_eq_true_eq]; omega
      have hlt2 : (j : Int) < (n : Int) := by omega
      have hm := HM.out wr KK.out
      obtain ⟨hsb, d0, d1, -⟩ := hm.sess (i := j) (by rw [← EN.out]; exact hlt)
      cases e : (M.at j).act with
      | none =>
        rw [hm.non j e] at d1
        have HN : Hid (drt M.ses k (j + 1) = (O', T')) := (drt_none e).trans HD.out
        have KX : Hid (Kept wr (wr.alloc (.cells #[.int .i64 (M.at j).begun, .pointer none] 71 (0, 0)))) := (Same.refl _ _).alloc _
        clear e hm
        simp only [Option.map_none] at d1
        go_wp2_with fail
        go_roundw
        case rel => exact ⟨j + 1, O', T', by omega, by first | rfl | simp, HN.out, rfl, (Same.block KX.out g6 hl6 (fun e => e)).trans HQ6.out, (Same.block KX.out g4 hl4 (fun e => e)).trans HQ4.out, Same.trans' KK.out KX.out⟩
        case measure => simp only [intOf]; omega
      | some a =>
        obtain ⟨g, ov, tv, hp, hx⟩ := hm.act j a e
        rw [hp] at d1
        simp only [Option.map_some] at d1
        have hac := (show Inv M from HI.out).ac j a e
        have KX : Hid (Kept wr (wr.alloc (.cells #[.int .i64 (M.at j).begun, .pointer (some ⟨g, 0, none⟩)] 71 (0, 0)))) := (Same.refl _ _).alloc _
        have HG9 : Hid _ := heap_new wr (.cells #[.int .i64 (M.at j).begun, .pointer (some ⟨g, 0, none⟩)] 71 (0, 0))
        have HLW : Hid _ := lastWrite15 (hx.obj.on KX.out) (hx.ops.on KX.out) hac.n k
        have HXT : Hid (TxAt tg (wr.alloc (.cells #[.int .i64 (M.at j).begun, .pointer (some ⟨g, 0, none⟩)] 71 (0, 0))) j g a ov tv) := hx.kept KX.out fun _ _ e => e
        have HE : Hid ((M.ses.getD j sn0).act = some a) := e
        have HAC : Hid _ := hac
        clear e hm hp hx hac
        go_wp2_with fail
        refine Calls.mono HLW.out ?_
        rintro r w1 ⟨rfl, h1⟩
        subst w1
        generalize wr.alloc (.cells #[.int .i64 (M.at j).begun, .pointer (some ⟨g, 0, none⟩)] 71 (0, 0)) = W9 at *
        have K9 : Hid (Kept w W9) := Same.trans' KK.out KX.out
        have hx := HXT.out
        have hb9 := lt_of_heap HG9.out
        have e9 : W9.cell? ⟨wr.heap.size, 1, none⟩ = some (.pointer (some ⟨g, 0, none⟩)) := (cell_of HG9.out 1).trans rfl
        have HQ6' : Hid (OpB W9 g6 O') := (Same.block KX.out g6 hl6 (fun e => e)).trans HQ6.out
        have HQ4' : Hid (OpB W9 g4 z0) := (Same.block KX.out g4 hl4 (fun e => e)).trans HQ4.out
        have hg96 : g6 ≠ wr.heap.size := by omega
        clear HG9 KX HQ6 HQ4 HXT hl6 hl4 d0 d1 hsb
        generalize wr.heap.size = g9 at *
        cases hl : lastW a.t.ops k with
        | none =>
          have HN : Hid (drt M.ses k (j + 1) = (O', T')) := (drt_no HE.out hl).trans HD.out
          clear hl hx
          go_wp2_with fail
          go_roundw
          case rel => exact ⟨j + 1, O', T', by omega, by first | rfl | simp, HN.out, rfl, HQ6'.out, HQ4'.out, K9.out⟩
          case measure => simp only [intOf]; omega
        | some i =>
          have hil := lastW_lt hl
          have hts := HAC.out.ts
          obtain ⟨o, ho⟩ : ∃ o, a.t.ops[i]? = some o := ⟨_, List.getElem?_eq_getElem hil⟩
          obtain ⟨x, hxt⟩ : ∃ x, a.ts[i]? = some x := ⟨_, List.getElem?_eq_getElem (by omega)⟩
          have hxb := HAC.out.pos x (List.mem_of_getElem? hxt)
          obtain ⟨oa, oc', rfl, hoat, -, -⟩ := OwnO.ops hx.ops
          obtain ⟨b, off, rfl, hb, y0, y1, y2, y3⟩ := hoat i o ho
          obtain ⟨ta, tc, rfl, -, -, -⟩ := row_shape hx.tms
          obtain ⟨tb, rfl, -, htb, yt⟩ := row_cell hx.tms (j := i) (u := .int .i64 x) (by rw [List.getElem?_map, hxt]; rfl)
          obtain ⟨hgl, ⟨-, -, -, -, -, -, -, q7, q8⟩, -⟩ := TxB.cells hx.obj
          have hn16 := HAC.out.n
          have hlt0 := (HM.out w (Same.refl _ _)).lt
          have ne1 : ¬ tb = g6 := fun e => by
            have h1 := hlt0 tb (by rw [hx.tt tb rfl]; exact fun e => by cases e)
            omega
          have ne2 : ¬ g = g6 := fun e => by
            have h1 := hlt0 g (by rw [hx.tgx]; exact fun e => by cases e)
            omega
          have ne3 : ¬ g9 = g6 := fun e => hg96 e.symm
          have ne4 : ¬ b = g6 := fun e => by
            obtain ⟨b', eb, -, hb', -⟩ := row_cell hx.ops (opc_get ho).1
            cases eb
            have h1 := hlt0 b (by rw [hx.tp b rfl]; exact fun e => by cases e)
            omega
          rw [hts] at q8
          have HOX : Hid (a.t.ops.getD i z0 = o ∧ a.ts.getD i 0 = x) := by
            show _ ∧ _
            rw [List.getD_eq_getElem?_getD, List.getD_eq_getElem?_getD, ho, hxt]
            exact ⟨rfl, rfl⟩
          generalize a.t.ops.length = on at *
          have hi2 : (i : Int) < (on : Int) := by omega
          have hi3 : decide ((i : Int) < (on : Int)) = true := decide_eq_true hi2
          have HHL : Hid (lastW a.t.ops k = some i) := hl
          clear hl hx hoat ho hxt hts
          have elw : lwI (some i) = (i : Int) := rfl
          simp only [elw, Option.isSome_some]
          by_cases ht : T' < x
          · have t1 : decide (T' < x) = true := decide_eq_true ht
            have HN : Hid (drt M.ses k (j + 1) = (o, x)) := by
              have h1 := drt_new HE.out HHL.out (by rw [show drt M.ses k j = _ from HD.out, HOX.out.2]; exact ht)
              rw [HOX.out.1, HOX.out.2] at h1
              exact h1
            obtain ⟨⟨s0, s1, s2, s3⟩, r0, r1, r2, r3⟩ := op_obj HQ6'.out
            have hl6 := lt_of_heap HQ6'.out
            clear HE HHL HOX
            go_upto_region 8 with fail
            go_region
            all_goals
              go_wp2_with fail
              go_roundw
              case rel => exact ⟨j + 1, o, x, by omega, by first | rfl | simp, HN.out, rfl, put4 HQ6'.out _ _ _ _, ((put4_same (S := fun b => b = g6) (Same.refl _ W9) (.inr rfl) _ _ _ _).block g4 (lt_of_heap HQ4'.out) hne).trans HQ4'.out, (put4_same K9.out (.inl h6) _ _ _ _).drew⟩
              case measure => simp only [intOf]; omega
          · have t1 : decide (T' < x) = false := decide_eq_false ht
            have HN : Hid (drt M.ses k (j + 1) = (O', T')) := (drt_old HE.out HHL.out (by rw [show drt M.ses k j = _ from HD.out, HOX.out.2]; exact ht)).trans HD.out
            clear HE HHL HOX
            go_wp2_with fail
            go_roundw
            case rel => exact ⟨j + 1, O', T', by omega, by first | rfl | simp, HN.out, rfl, HQ6'.out, HQ4'.out, K9.out⟩
            case measure => simp only [intOf]; omega
    · have c1 : decide ((j : Int) < (n : Int)) = false := by simp only [decide_eq_false_iff_not]; omega
      obtain rfl : j = n := by omega
      have HOT : Hid ((O, T) = (O', T')) := by
        have h1 := HEO.out
        rw [← EN.out, show drt M.ses k j = _ from HD.out] at h1
        exact h1.symm
      obtain ⟨⟨s0, s1, s2, s3⟩, -⟩ := op_obj HQ6.out
      obtain ⟨⟨p0, p1, p2, p3⟩, r0, r1, r2, r3⟩ := op_obj HQ4.out
      have hl4' := lt_of_heap HQ4.out
      have hw4 : w.heap.size ≤ g4 := Nat.le_of_eq HW4.out
      go_wp2_with fail
      refine bodyPost_ret (results_ct (a := 4) (t := 84) (u := 5) rfl rfl (loadVar_op (o := O') (put4 HQ4.out _ _ _ _))) rfl ?_
      obtain ⟨rfl, rfl⟩ := Prod.mk.inj (show (O, T) = (O', T') from HOT.out)
      exact ⟨rfl, put4_same KK.out (.inl hw4) _ _ _ _⟩
end Go.Proofs.Ytmghmacgljihcaa
