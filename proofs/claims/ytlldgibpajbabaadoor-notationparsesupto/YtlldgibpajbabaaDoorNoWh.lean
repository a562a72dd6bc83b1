/- What is proved: the code's Word; condition: the text's length. -/
import Derived.Test.YtlldgibpajbabaaDoorNoWg
namespace Go.Proofs.YtlldgibpajbabaaDoor
open Go.RowKit

theorem step_app {P : Program} {ops : Array Oper} {o : Oper} {a : Act} {w : World} {K : Act → World → Prop} {Q : Exit → Act → World → Prop} {E : Prop} (hg : o.guard = none) (s x : Operand) (t : TypeId)
    (ho : o.op = .call { callee := .builtin .append, args := #[s, x], argTypes := #[t, t] }) (vs vx : Value) (hs : a.eval s = vs) (hx : a.eval x = vx) (R : Value → World → Prop)
    (hrun : ∀ ty, ∃ v' w', (Builtin.append_ #[t, t] ty #[vs, vx]).run P w = .ok v' w' ∧ R v' w') (h : ∀ v' w', R v' w' → K (a.put o.dst v') w') : if Region.wanted o (yielded ops a.tmps) = true then Oper.wp P o a w K Q else E := by
  have hw : Region.wanted o (yielded ops a.tmps) = true := by simp [Region.wanted, hg]
  rw [if_pos hw]
  obtain ⟨v', w', hr, hR⟩ := hrun o.type
  unfold Oper.wp
  simp [execOp, ho, resolve, invoke, builtin, hs, hx, hr, Result.andThen]
  exact h v' w' hR

def hx (n : Nat) : UInt8 := hexL.getD n 0
def hexs (l : List UInt8) : List UInt8 := l.flatMap fun b => [hx (b.toNat / 16), hx (b.toNat % 16)]
/-- The word for the bytes. -/
def wd (l : List UInt8) : List UInt8 := if pln l = true then l else 35 :: hexs l
theorem hexs_len (l : List UInt8) : (hexs l).length = 2 * l.length := by
  induction l with
  | nil => rfl
  | cons a l ih =>
    rw [hexs, List.flatMap_cons, List.length_append]
    unfold hexs at ih
    rw [ih]
    simp
    omega
theorem hexs_snoc (l : List UInt8) (b : UInt8) : hexs (l ++ [b]) = hexs l ++ [hx (b.toNat / 16), hx (b.toNat % 16)] := by simp [hexs]
theorem hix_hex {n : Nat} (h : n < 16) (w : World) : (Instr.index 9 (.string ⟨#[48, 49, 50, 51, 52, 53, 54, 55, 56, 57, 97, 98, 99, 100, 101, 102]⟩) (.int .u8 (n : Int))).run Tryd.prog w = .ok (.int .u8 ((hx n).toNat : Int)) w := by
  rw [run_index_string w 9 _ .u8 _ Tryd.underlying9]
  have hc : 0 ≤ (n : Int) ∧ (n : Int) < ((⟨#[48, 49, 50, 51, 52, 53, 54, 55, 56, 57, 97, 98, 99, 100, 101, 102]⟩ : ByteArray).size : Nat) := by
    rw [show (⟨#[48, 49, 50, 51, 52, 53, 54, 55, 56, 57, 97, 98, 99, 100, 101, 102]⟩ : ByteArray).size = 16 from rfl]
    omega
  rw [dif_pos hc]
  have : (⟨#[48, 49, 50, 51, 52, 53, 54, 55, 56, 57, 97, 98, 99, 100, 101, 102]⟩ : ByteArray)[(n : Int).toNat]'(by omega) = hx n := by
    show hexL[n]'(by simpa [hexL] using h) = hexL.getD n 0
    simp [List.getD, List.getElem?_eq_getElem (show n < hexL.length by simpa [hexL] using h)]
  rw [this]

theorem and15 : ∀ n : Fin 256, bits BinOp.and IntKind.u8 (n.val : Int) 15 = ((n.val % 16 : Nat) : Int) := by decide +kernel
theorem app_two {w : World} {base : Nat} {v : Value} {xs : List Int} (hown : OwnB base w v xs) (hb : xs.length + 2 ≤ 140737488355328) (hbase : base ≤ w.heap.size) (x y : Int) :
    ∀ W, Kept w W → ∀ b, W.heap[b]? = some (.cells #[.int .u8 x, .int .u8 y] 5 (0, 0)) → ∀ ty, ∃ v' w', (Builtin.append_ #[39, 39] ty #[v, .slice (some ⟨b, 0, none⟩) 2 2]).run Tryd.prog W = .ok v' w' ∧ AppR base w (xs ++ [x, y]) v' w' := fun W k b hW ty => by
  obtain ⟨v', w', h1, h2⟩ := app_bytes (c := 2) (l := [x, y]) (hown.kept k (fun _ _ h => h)) (fun i z hz => by
    refine ⟨b, 0, rfl, lt_of_heap hW, ?_⟩
    rw [cell_of hW, Nat.zero_add]
    rcases i with _ | _ | i
    · cases hz; rfl
    · cases hz; rfl
    · simp at hz) (fun e => by cases e) hb (Nat.le_trans hbase k.size) ty
  exact ⟨v', w', h1, h2.old k⟩

set_option maxRecDepth 100000 in
set_option maxHeartbeats 1600000 in
theorem word_any (l : List UInt8) (w : World) (hl : l.length ≤ 70368744177000) : Calls Tryd.prog 59 #[tx l] w fun e w' => e = .returned (tx (wd l)) ∧ Kept w w' := by
  have HP : Hid (∀ l w, _) := plain_any21
  have HCL : Hid (∀ w, _) := fun w => clone_tx l w (by omega)
  by_cases hp : pln l = true
  · have R : Hid (wd l = l) := by show _ = _; unfold wd; rw [if_pos hp]
    go_enter Tryd.func59, Tryd.ntmps59
    go_wp2_with fail
    refine Calls.mono (HP.out _ _) ?_
    rintro e w1 ⟨rfl, k1⟩
    rw [hp]
    have K1 : Hid _ := k1
    clear k1
    go_wp2_with fail
    refine Calls.mono (HCL.out _) ?_
    rintro e w2 ⟨rfl, k2⟩
    have K2 : Hid _ := K1.out.trans' k2
    clear k2
    go_wp2_with fail
    go_ret
    rw [R.out]
    exact ⟨rfl, K2.out⟩
  have hp' : pln l = false := by simpa using hp
  have R : Hid (wd l = 35 :: hexs l) := by show _ = _; unfold wd; rw [if_neg hp]
  clear hp HCL
  have hw1 : wrap64 (2 * (l.length : Int)) = 2 * (l.length : Int) := by unfold wrap64; omega
  have hw2 : wrap64 (1 + 2 * (l.length : Int)) = 1 + 2 * (l.length : Int) := by unfold wrap64; omega
  have hmk : ∀ w, (Instr.makeSlice 39 (.int .i64 0) (.int .i64 (1 + 2 * (l.length : Int)))).run Tryd.prog w = .ok (.slice (some ⟨w.heap.size, 0, none⟩) 0 (1 + 2 * l.length)) (w.alloc (.cells (madeCells #[.int .u8 0] (1 + 2 * l.length)) 5)) := fun w => by
    have := make_room w (1 + 2 * l.length) (by omega)
    rw [show ((1 + 2 * l.length : Nat) : Int) = 1 + 2 * (l.length : Int) by omega] at this
    exact this
  obtain ⟨M, eM⟩ : ∃ M : Array Value, M = madeCells #[.int .u8 0] (1 + 2 * l.length) := ⟨_, rfl⟩
  have HOM : Hid (∀ w : World, ∀ g, g = (w.alloc (.cells M 5)).heap.size → ∀ ty, ∃ v' w', (Builtin.append_ #[39, 39] ty #[.slice (some ⟨w.heap.size, 0, none⟩) 0 (1 + 2 * l.length), .slice (some ⟨g, 0, none⟩) 1 1]).run Tryd.prog ((w.alloc (.cells M 5)).alloc (.cells #[.int .u8 35] 5)) = .ok v' w' ∧ AppR w.heap.size (w.alloc (.cells M 5)) [35] v' w') := fun w g hg ty => by
    rw [hg, eM]
    exact app_one (base := w.heap.size) 35 (own_made w (1 + 2 * l.length) (by omega)) (by simp) (by simp) ty
  simp only [← eM] at hmk
  clear eM
  go_enter Tryd.func59, Tryd.ntmps59
  go_wp2_with fail
  refine Calls.mono (HP.out _ _) ?_
  rintro e w1 ⟨rfl, k1⟩
  rw [hp']
  have K1 : Hid _ := k1
  clear k1 HP
  go_wp2_with (at_builtin; refine wpList_app rfl (.tmp 14) (.tmp 15) 39 39 rfl (.slice (some ⟨w1.heap.size, 0, none⟩) 0 (1 + 2 * l.length)) (.slice (some ⟨_, 0, none⟩) 1 1) rfl rfl _ (HOM.out w1 _ (by first | rfl | simp)) ?_; rintro v2 w2 ⟨o2, s2⟩)
  have O2 : Hid (OwnB w1.heap.size w2 v2 (nu [35])) := o2
  have K2 : Hid (Kept w w2) := K1.out.trans' (Same.trans ((Same.refl _ w1).alloc _) s2 (fun i hi e => by omega))
  have Z2 : Hid (w1.heap.size ≤ w2.heap.size) := Nat.le_trans (by simp) s2.size
  clear o2 s2 hmk HOM hw1 hw2
  go_loopw [3, 19] (fun v i wr => ∃ k : Nat, i = .int .i64 (k : Int) ∧ k ≤ l.length ∧ OwnB w1.heap.size wr v (nu (35 :: hexs (l.take k))) ∧ Same (fun i => w1.heap.size ≤ i) w2 wr) (fun _ i _ => l.length - (intOf i).toNat)
  case atStart => exact ⟨0, rfl, Nat.zero_le _, O2.out, Same.refl _ _⟩
  case round =>
    obtain ⟨k, rfl, hk, how, hkp⟩ := hrel
    have HOW : Hid _ := how
    have HKP : Hid _ := hkp
    clear how hkp O2
    rename World => W
    by_cases hkn : k < l.length
    · have c1 : decide ((k : Int) < (l.length : Int)) = true := decide_eq_true (by omega)
      have hkn2 : (k : Int) < (l.length : Int) := by omega
      obtain ⟨b, hb⟩ : ∃ b, l[k]? = some b := ⟨_, List.getElem?_eq_getElem hkn⟩
      have hix : ∀ w, (Instr.index 9 (tx l) (.int .i64 (k : Int))).run Tryd.prog w = _ := idx_tx hb
      have HT : Hid _ := take_snoc hb
      have hB := b.toNat_lt
      have h15 := and15 ⟨b.toNat, hB⟩
      simp only at h15
      have hi1 : ∀ w, _ := hix_hex (n := b.toNat / 16) (by omega)
      have hi2 : ∀ w, _ := hix_hex (n := b.toNat % 16) (by omega)
      have HAP : Hid (∀ W', Kept W W' → ∀ b, _ → ∀ ty, _) := app_two HOW.out (by rw [nu_len, List.length_cons, hexs_len, List.length_take]; omega) (Nat.le_trans Z2.out HKP.out.size) ((hx (b.toNat / 16)).toNat : Int) ((hx (b.toNat % 16)).toNat : Int)
      clear hb
      have hi1' : ∀ w, (Instr.index 9 (.string ⟨#[48, 49, 50, 51, 52, 53, 54, 55, 56, 57, 97, 98, 99, 100, 101, 102]⟩) (.int .u8 ((b.toNat : Int) / 16))).run Tryd.prog w = .ok (.int .u8 ((hx (b.toNat / 16)).toNat : Int)) w := hi1
      have hi2' : ∀ w, (Instr.index 9 (.string ⟨#[48, 49, 50, 51, 52, 53, 54, 55, 56, 57, 97, 98, 99, 100, 101, 102]⟩) (.int .u8 ((b.toNat : Int) % 16))).run Tryd.prog w = .ok (.int .u8 ((hx (b.toNat % 16)).toNat : Int)) w := hi2
      generalize hX : ((hx (b.toNat / 16)).toNat : Int) = X at *
      generalize hY : ((hx (b.toNat % 16)).toNat : Int) = Y at *
      have HXY : Hid (nu [hx (b.toNat / 16), hx (b.toNat % 16)] = [X, Y]) := by rw [← hX, ← hY]; rfl
      clear hX hY
      go_upto_region 8 with fail
      go_region_law ((refine step_app rfl (.tmp 22) (.tmp 33) 39 rfl _ (.slice (some ⟨W.heap.size, 0, none⟩) 2 2) rfl rfl _ (HAP.out _ (by (repeat (first | assumption | exact Same.refl _ _ | apply Same.alloc | apply Same.drew | apply Same.drewN)); done) _ (by exact heap_new _ _)) ?_); rintro v5 w5 ⟨r5, s5⟩)
      all_goals
        go_wp2_with fail
        go_roundw
        case rel => exact ⟨k + 1, by simp, hkn, by rw [HT.out, hexs_snoc, ← List.cons_append, nu_app, HXY.out]; exact r5, Same.trans' HKP.out s5⟩
        case measure => simp only [intOf]; omega
    · have c1 : decide ((k : Int) < (l.length : Int)) = false := decide_eq_false (by omega)
      have hkn2 : ¬ (k : Int) < (l.length : Int) := by omega
      have hst := own_str HOW.out
      have E : Hid (l.take k = l) := List.take_of_length_le (by omega)
      go_wp2_with fail
      go_ret
      rw [R.out, E.out]
      exact ⟨rfl, Same.trans K2.out HKP.out (fun i hi e => by have := K1.out.size; omega)⟩
end Go.Proofs.YtlldgibpajbabaaDoor
