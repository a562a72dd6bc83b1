/- What is proved: lastWrite gives the last operation that wrote or deleted a key, outcome the last such operations of all keys; the transaction lies in memory with at most 16 operations. -/
import Derived.Test.YtmghmacgljihcaaKMem
namespace Go.Proofs.Ytmghmacgljihcaa
open Go.RowKit

def lwI (o : Option Nat) : Int := match o with
  | none => 0
  | some i => i
theorem lw_yes {l : List OpM} {k : ByteArray} {m : Nat} {o : OpM} (ho : l[m]? = some o) (h1 : (o.key.toList == k.toList) = true) (h2 : (o.kind == 1) = false) : lw l k (m + 1) = some m := by
  unfold lw
  rw [if_pos (by unfold isW; rw [List.getD_eq_getElem?_getD, ho]; simp only [Option.getD_some, h1, h2]; rfl)]
theorem lw_no {l : List OpM} {k : ByteArray} {m : Nat} {o : OpM} (ho : l[m]? = some o) (h : (o.key.toList == k.toList) = false ∨ (o.kind == 1) = true) : lw l k (m + 1) = lw l k m := by
  rw [lw]
  rw [if_neg (by unfold isW; rw [List.getD_eq_getElem?_getD, ho]; simp only [Option.getD_some]; rcases h with h | h <;> rw [h] <;> simp)]
set_option maxRecDepth 100000 in
set_option maxHeartbeats 1600000 in
theorem lastWrite15 {w : World} {g : Nat} {t : TxM} {ov tv : Value} (h : TxB w g t ov tv) (ho : OwnO 0 w ov t.ops) (hn : t.ops.length ≤ 16) (k : ByteArray) :
    Calls Try.prog 53 #[.pointer (some ⟨g, 0, none⟩), .string k] w fun e w' => e = .returned (.tuple #[.int .i64 (lwI (lastW t.ops k)), .bool (lastW t.ops k).isSome]) ∧ w' = w := by
  obtain ⟨a, cap, rfl, hat, -, -⟩ := OwnO.ops ho
  obtain ⟨hg, ⟨-, -, -, -, -, -, -, c7, -⟩, -⟩ := TxB.cells h
  have HAT : Hid (OpsAt w a t.ops) := hat
  clear h ho hat
  obtain ⟨l, el⟩ : ∃ l, l = t.ops := ⟨_, rfl⟩
  rw [← el] at hn HAT c7 ⊢
  clear el
  generalize hq : lastW l k = q
  have HQ : Hid (lw l k l.length = q) := hq
  clear hq
  obtain ⟨n, en⟩ : ∃ n, n = l.length := ⟨_, rfl⟩
  have EN : Hid (n = l.length) := en
  rw [← en] at hn HQ c7
  clear en
  have HI : Hid (∃ v : Int, IntKind.i64.wrap ((n : Int) - 1) = v ∧ ((v = -1 ∧ n = 0) ∨ ∃ m : Nat, m + 1 = n ∧ v = (m : Int))) := by
    show ∃ v : Int, _
    rcases Nat.eq_zero_or_pos n with h0 | h0
    · exact ⟨-1, by rw [IntKind.wrap_i64] <;> omega, .inl ⟨rfl, h0⟩⟩
    · exact ⟨((n - 1 : Nat) : Int), by rw [IntKind.wrap_i64] <;> omega, .inr ⟨n - 1, by omega, rfl⟩⟩
  obtain ⟨v, hv, hv2⟩ := HI.out
  have HV : Hid _ := hv2
  clear hv2
  have hv' : (n : Int) - 1 = v := by rw [← hv, IntKind.wrap_i64] <;> omega
  clear HI hv
  have hvb : -9223372036854775808 ≤ v ∧ v ≤ 9223372036854775807 := by omega
  go_enter Try.func53, Try.ntmps53
  go_wp2_with fail
  go_loopw [6] (fun i wr => wr = w ∧ ((i = .int .i64 (-1) ∧ q = none) ∨ ∃ m : Nat, m < n ∧ i = .int .i64 (m : Int) ∧ lw l k (m + 1) = q)) (fun i _ => (intOf i + 1).toNat)
  case atStart =>
    refine ⟨rfl, ?_⟩
    rcases HV.out with ⟨h1, h2⟩ | ⟨m, h1, h2⟩
    · refine .inl ⟨by rw [h1], ?_⟩
      have := HQ.out
      rw [h2] at this
      exact this.symm
    · refine .inr ⟨m, by omega, by rw [h2], ?_⟩
      rw [h1]
      exact HQ.out
  case round =>
    obtain ⟨rfl, ⟨rfl, e0⟩ | ⟨m, hm, rfl, hlw⟩⟩ := hrel
    · have E0 : Hid _ := e0
      clear e0
      go_wp2_with fail
      refine bodyPost_ret (results_tmp2 rfl _ _ _) rfl ?_
      rw [show q = none from E0.out]
      exact ⟨rfl, rfl⟩
    · obtain ⟨o, ho⟩ : ∃ o, l[m]? = some o := ⟨_, List.getElem?_eq_getElem (by rw [← EN.out]; exact hm)⟩
      obtain ⟨b, off, rfl, hb, x0, x1, x2, x3⟩ := HAT.out m o ho
      have hm2 : (m : Int) < (n : Int) := by omega
      have d1 : decide ((m : Int) < (n : Int)) = true := decide_eq_true hm2
      have HO : Hid _ := ho
      have HW : Hid _ := hlw
      clear ho hlw
      have HI : Hid (∃ v' : Int, (m : Int) - 1 = v' ∧ ((v' = -1 ∧ m = 0) ∨ ∃ m' : Nat, m' + 1 = m ∧ v' = (m' : Int))) := by
        show ∃ v' : Int, _
        rcases Nat.eq_zero_or_pos m with h0 | h0
        · exact ⟨-1, by omega, .inl ⟨rfl, h0⟩⟩
        · exact ⟨((m - 1 : Nat) : Int), by omega, .inr ⟨m - 1, by omega, rfl⟩⟩
      obtain ⟨v', hv2, hv3⟩ := HI.out
      have HV2 : Hid _ := hv3
      clear hv3 HI
      have hvb2 : -9223372036854775808 ≤ v' ∧ v' ≤ 9223372036854775807 := by omega
      have HN : Hid (lw l k m = q → (fun i wx => wx = wr ∧ ((i = Value.int .i64 (-1) ∧ q = none) ∨ ∃ m : Nat, m < n ∧ i = .int .i64 (m : Int) ∧ lw l k (m + 1) = q)) (Value.int .i64 v') wr) := by
        show lw l k m = q → _ ∧ _
        intro e
        refine ⟨rfl, ?_⟩
        rcases HV2.out with ⟨h1, h2⟩ | ⟨m', h1, h2⟩
        · rw [h2] at e
          exact .inl ⟨by rw [h1], e.symm⟩
        · rw [← h1] at e
          exact .inr ⟨m', by omega, by rw [h2], e⟩
      have HM : Hid ((intOf (.int .i64 v') + 1).toNat < (intOf (.int .i64 (m : Int)) + 1).toNat) := by
        show (v' + 1).toNat < ((m : Int) + 1).toNat
        omega
      by_cases h1 : (o.key.toList == k.toList) = true
      · by_cases h2 : (o.kind == 1) = false
        · have EQ : Hid (q = some m) := (show lw l k (m + 1) = q from HW.out).symm.trans (lw_yes HO.out h1 h2)
          go_wp2_with fail
          refine bodyPost_ret (results_tmp2 rfl _ _ _) rfl ?_
          rw [show q = _ from EQ.out]
          exact ⟨rfl, rfl⟩
        · have h2' : (o.kind == 1) = true := by simpa using h2
          have EQ : Hid (lw l k m = q) := (lw_no HO.out (.inr h2')).symm.trans HW.out
          clear h2
          go_wp2_with fail
          go_roundw
          case rel => simpa using HN.out EQ.out
          case measure => exact HM.out
      · have h1' : (o.key.toList == k.toList) = false := by simpa using h1
        have EQ : Hid (lw l k m = q) := (lw_no HO.out (.inl h1')).symm.trans HW.out
        clear h1
        go_wp2_with fail
        go_roundw
        case rel => simpa using HN.out EQ.out
        case measure => exact HM.out
theorem oc_yes {l : List OpM} {j : Nat} {o : OpM} (ho : l[j]? = some o) (h : lastW l o.key = some j) : oc l (j + 1) = oc l j ++ [o] := by
  rw [oc, List.getD_eq_getElem?_getD, ho, Option.getD_some, if_pos h]
theorem oc_no {l : List OpM} {j : Nat} {o : OpM} (ho : l[j]? = some o) (h : lastW l o.key ≠ some j) : oc l (j + 1) = oc l j := by
  rw [oc, List.getD_eq_getElem?_getD, ho, Option.getD_some, if_neg h, List.append_nil]
theorem TxB.on {w w' : World} {g : Nat} {t : TxM} {ov tv : Value} (h : TxB w g t ov tv) (k : Kept w w') : TxB w' g t ov tv := (k.block g (lt_of_heap h) (fun e => e)).trans h
theorem OwnO.on {base : Nat} {w w' : World} {v : Value} {l : List OpM} (h : OwnO base w v l) (k : Kept w w') : OwnO base w' v l := row_kept h k fun _ _ e => e
set_option maxRecDepth 100000 in
set_option maxHeartbeats 1600000 in
theorem outcome15 {w : World} {g : Nat} {t : TxM} {ov tv : Value} (h : TxB w g t ov tv) (ho : OwnO 0 w ov t.ops) (hn : t.ops.length ≤ 16) :
    Calls Try.prog 51 #[.pointer (some ⟨g, 0, none⟩)] w fun e w' => ∃ v, e = .returned v ∧ OwnO w.heap.size w' v (outc t.ops) ∧ Kept w w' := by
  have HB : Hid (TxB w g t ov tv) := h
  have HO : Hid (OwnO 0 w ov t.ops) := ho
  obtain ⟨a, cap, rfl, hat, -, -⟩ := OwnO.ops ho
  obtain ⟨hg, ⟨-, -, -, -, -, -, -, c7, -⟩, -⟩ := TxB.cells h
  have HAT : Hid (OpsAt w a t.ops) := hat
  clear h ho hat
  obtain ⟨l, el⟩ : ∃ l, l = t.ops := ⟨_, rfl⟩
  have HN : Hid (t.ops.length ≤ 16) := hn
  have HL : Hid (l = t.ops) := el
  rw [← el] at hn HAT c7 HO HB ⊢
  clear el
  obtain ⟨n, en⟩ : ∃ n, n = l.length := ⟨_, rfl⟩
  have EN : Hid (n = l.length) := en
  rw [← en] at hn c7 HO HB
  have HR : Hid (outc l = oc l n) := by show outc l = oc l n; rw [en]; rfl
  clear en
  go_enter Try.func51, Try.ntmps51
  go_wp2_with fail
  go_loopw [3, 14] (fun v i wr => ∃ j : Nat, j ≤ n ∧ i = .int .i64 (j : Int) ∧ OwnO w.heap.size wr v (oc l j) ∧ Kept w wr) (fun _ i _ => n - (intOf i).toNat)
  case atStart => exact ⟨0, Nat.zero_le _, rfl, OwnO.nil _ _, Same.refl _ _⟩
  case round =>
    obtain ⟨j, hj, rfl, hov, kk⟩ := hrel
    obtain ⟨av, cv, rfl, -⟩ := OwnO.ops hov
    have HOV : Hid (OwnO w.heap.size wr (.slice av (oc l j).length cv) (oc l j)) := hov
    have hlj := oc_length l j
    generalize (oc l j).length = nv at *
    have KK : Hid _ := kk
    clear hov kk
    by_cases hlt : j < n
    · have c1 : decide ((j : Int) < (n : Int)) = true := by simp only [decide_eq_true_eq]; omega
      have hlt2 : (j : Int) < (n : Int) := by omega
      obtain ⟨o, ho⟩ : ∃ o, l[j]? = some o := ⟨_, List.getElem?_eq_getElem (by rw [← EN.out]; exact hlt)⟩
      obtain ⟨b, off, rfl, hb, x0, x1, x2, x3⟩ := (OpsAt.on HAT.out KK.out) j o ho
      have HOJ : Hid _ := ho
      clear ho
      have K1 : Hid (Kept w (wr.alloc (.cells #[.int .i64 o.kind, .string o.key, .bool o.found, .string o.value] 84 (0, 0)))) := Same.alloc KK.out _
      have HLW : Hid _ := lastWrite15 (TxB.on (w' := wr.alloc (.cells #[.int .i64 o.kind, .string o.key, .bool o.found, .string o.value] 84 (0, 0))) HB.out K1.out) (by have := OwnO.on HO.out K1.out; rw [HL.out] at this; exact this) HN.out o.key
      rw [← show l = t.ops from HL.out] at HLW
      have HOB : Hid (OwnO w.heap.size (wr.alloc (.cells #[.int .i64 o.kind, .string o.key, .bool o.found, .string o.value] 84 (0, 0))) (.slice av nv cv) (oc l j)) := OwnO.on HOV.out ((Same.refl _ wr).alloc _)
      have hsz := (Same.size K1.out)
      have HSZ : Hid _ := hsz
      clear hsz
      cases e : lastW l o.key with
      | none =>
        rw [e] at HLW
        have HNO : Hid (oc l (j + 1) = oc l j) := oc_no HOJ.out (by rw [e]; exact fun h => by cases h)
        clear e
        go_wp2_with fail
        refine Calls.mono HLW.out ?_
        rintro r w1 ⟨rfl, h1⟩
        subst w1
        go_wp2_with fail
        go_roundw
        case rel => exact ⟨j + 1, by omega, by first | rfl | simp, by rw [show oc l (j + 1) = _ from HNO.out]; exact HOB.out, K1.out⟩
        case measure => simp only [intOf]; omega
      | some i =>
        rw [e] at HLW
        by_cases hij : i = j
        · subst hij
          have HYES : Hid (oc l (i + 1) = oc l i ++ [o]) := oc_yes HOJ.out e
          have d1 : lwI (some i) = (i : Int) := rfl
          clear e
          rw [d1] at HLW
          clear d1
          have HAP : Hid (∀ ty, ∃ v' w', (Builtin.append_ #[49, 49] ty #[.slice av nv cv, .slice (some ⟨(wr.alloc (.cells #[.int .i64 o.kind, .string o.key, .bool o.found, .string o.value] 84 (0, 0))).heap.size, 0, none⟩) 1 1]).run Try.prog ((wr.alloc (.cells #[.int .i64 o.kind, .string o.key, .bool o.found, .string o.value] 84 (0, 0))).alloc (.cells #[.int .i64 o.kind, .string o.key, .bool o.found, .string o.value] 84 (0, 0))) = .ok v' w' ∧ (OwnO w.heap.size w' v' (oc l i ++ [o]) ∧ Kept w w')) := fun ty => by
            obtain ⟨v', w', r0, r1, r2, -⟩ := app_op o (OwnO.on HOB.out ((Same.refl _ _).alloc (.cells #[.int .i64 o.kind, .string o.key, .bool o.found, .string o.value] 84 (0, 0)))) (op_new _ o) (by have := oc_length l i; omega) (by have := HSZ.out; rw [World.size_alloc]; omega) ty
            refine ⟨v', w', r0, r1, Same.trans (Same.alloc K1.out _) r2 fun b hb e => ?_⟩
            have := (row_block (HOV.out : OwnO _ _ _ _) e).1
            omega
          have d2 : ((i : Int) == (i : Int)) = true := by simp
          go_wp2_with fail
          refine Calls.mono HLW.out ?_
          rintro r w1 ⟨rfl, h1⟩
          subst w1
          have HG : Hid _ := heap_new wr (.cells #[.int .i64 o.kind, .string o.key, .bool o.found, .string o.value] 84 (0, 0))
          generalize wr.alloc (.cells #[.int .i64 o.kind, .string o.key, .bool o.found, .string o.value] 84 (0, 0)) = W at HAP HG HLW HOB K1 HSZ ⊢
          have hgl := lt_of_heap HG.out
          have y0 := (cell_of HG.out 0).trans rfl
          have y1 := (cell_of HG.out 1).trans rfl
          have y2 := (cell_of HG.out 2).trans rfl
          have y3 := (cell_of HG.out 3).trans rfl
          go_wp2_with (at_builtin; refine wpList_app rfl (.tmp 32) (.tmp 34) 49 rfl _ _ rfl rfl _ HAP.out ?_; rintro v' w1 ⟨hr1, hr2⟩; have HR1 : Hid _ := hr1; have HR2 : Hid _ := hr2; clear hr1 hr2)
          go_roundw
          case rel => exact ⟨i + 1, by omega, by first | rfl | simp, by rw [show oc l (i + 1) = _ from HYES.out]; exact HR1.out, HR2.out⟩
          case measure => simp only [intOf]; omega
        · have HNO : Hid (oc l (j + 1) = oc l j) := oc_no HOJ.out (by rw [e]; intro h; cases h; exact hij rfl)
          have d1 : lwI (some i) = (i : Int) := rfl
          have d2 : ((i : Int) == (j : Int)) = false := by simp; omega
          clear e
          rw [d1] at HLW
          clear d1
          go_wp2_with fail
          refine Calls.mono HLW.out ?_
          rintro r w1 ⟨rfl, h1⟩
          subst w1
          go_wp2_with fail
          go_roundw
          case rel => exact ⟨j + 1, by omega, by first | rfl | simp, by rw [show oc l (j + 1) = _ from HNO.out]; exact HOB.out, K1.out⟩
          case measure => simp only [intOf]; omega
    · have c1 : decide ((j : Int) < (n : Int)) = false := by simp only [decide_eq_false_iff_not]; omega
      obtain rfl : j = n := by omega
      go_wp2_with fail
      go_ret
      exact ⟨_, rfl, by rw [show outc l = _ from HR.out]; exact HOV.out, KK.out⟩
end Go.Proofs.Ytmghmacgljihcaa
