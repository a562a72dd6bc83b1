/- What is proved: the code's unhex, Word, Unword; conditions: lengths. -/
import Derived.Test.YtlldgibpajbabaaDoorNoWe
namespace Go.Proofs.YtlldgibpajbabaaDoor
open Go.RowKit

def hexL : List UInt8 := [48, 49, 50, 51, 52, 53, 54, 55, 56, 57, 97, 98, 99, 100, 101, 102]
def hv (b : UInt8) : Int := Lib.indexByte hexL b
theorem hv_all : ∀ n : Fin 256, hv (UInt8.ofNat n.val) = -1 ∨ (0 ≤ hv (UInt8.ofNat n.val) ∧ hv (UInt8.ofNat n.val) < 16 ∧ hexL[(hv (UInt8.ofNat n.val)).toNat]? = some (UInt8.ofNat n.val)) := by decide +kernel
theorem hv_or (b : UInt8) : hv b = -1 ∨ (0 ≤ hv b ∧ hv b < 16 ∧ hexL[(hv b).toNat]? = some b) := by
  have := hv_all ⟨b.toNat, b.toNat_lt⟩
  simpa using this
theorem hv_dig : ∀ n : Fin 16, ∃ b, hexL[n.val]? = some b ∧ hv b = (n.val : Int) := by decide +kernel
/-- Pairs of digits, read. -/
def unhx : List UInt8 → Option (List UInt8)
  | [] => some []
  | [_] => none
  | a :: b :: r => if hv a < 0 ∨ hv b < 0 then none else (unhx r).map (UInt8.ofNat (16 * (hv a).toNat + (hv b).toNat) :: ·)
theorem unhx_odd : ∀ (l : List UInt8), l.length % 2 = 1 → unhx l = none
  | [], h => by simp at h
  | [_], _ => rfl
  | a :: b :: r, h => by
    have := unhx_odd r (by simp at h; omega)
    unfold unhx
    rw [this]
    split <;> rfl
def hxV (o : Option (List UInt8)) : Value := match o with
  | some s => .tuple #[tx s, .bool true]
  | none => .tuple #[tx [], .bool false]
shelf_lay Lays.n137 Nm 137 at Tryd as Tryd.laysIB
theorem ib_any (b : UInt8) (w : World) : Calls Tryd.prog 84 #[.string ⟨#[48, 49, 50, 51, 52, 53, 54, 55, 56, 57, 97, 98, 99, 100, 101, 102]⟩, .int .u8 (b.toNat : Int)] w fun e w' => e = .returned (.int .i64 (hv b)) ∧ w' = w := by
  have := Any.strings_IndexByte Tryd.laysIB ⟨#[48, 49, 50, 51, 52, 53, 54, 55, 56, 57, 97, 98, 99, 100, 101, 102]⟩ (b.toNat : Int) w
  have e : (b.toNat : Int).toNat.toUInt8 = b := by simp
  rw [e] at this
  exact this
theorem byte_all : ∀ x y : Fin 16, IntKind.u8.wrap (bits BinOp.or IntKind.i64 ((x.val : Int) * 16) (y.val : Int)) = ((16 * x.val + y.val : Nat) : Int) := by decide +kernel
theorem nu_byte {m : Nat} (h : m < 256) : nu [UInt8.ofNat m] = [(m : Int)] := by
  simp [nu]
  omega
theorem drop_two {l : List UInt8} {k : Nat} {a b : UInt8} (ha : l[k]? = some a) (hb : l[k + 1]? = some b) : l.drop k = a :: b :: l.drop (k + 2) := by
  obtain ⟨h1, e1⟩ := List.getElem?_eq_some_iff.1 ha
  obtain ⟨h2, e2⟩ := List.getElem?_eq_some_iff.1 hb
  rw [List.drop_eq_getElem_cons h1, List.drop_eq_getElem_cons h2, e1, e2]

set_option maxRecDepth 100000 in
theorem unhex_any (l : List UInt8) (w : World) (hl : l.length ≤ 140737488355328) : Calls Tryd.prog 77 #[tx l] w fun e w' => e = .returned (hxV (unhx l)) ∧ Kept w w' := by
  have HIB : Hid (∀ b w, _) := ib_any
  by_cases ho : l.length % 2 = 1
  · have R : Hid (unhx l = none) := unhx_odd l ho
    have q : (((l.length : Int)) % 2 != 0) = true := by simp; omega
    clear ho
    go_enter Tryd.func77, Tryd.ntmps77
    go_wp2_with fail
    go_ret2
    rw [R.out]
    exact ⟨rfl, Same.refl _ _⟩
  have q : (((l.length : Int)) % 2 != 0) = false := by simp; omega
  obtain ⟨N, hN⟩ : ∃ N, l.length = 2 * N := ⟨l.length / 2, by omega⟩
  have hmk : ∀ w, (Instr.makeSlice 39 (.int .i64 0) (.int .i64 (N : Int))).run Tryd.prog w = _ := fun w => make_room w N (by omega)
  have HOM : Hid (∀ w, OwnB _ _ _ _) := fun w => own_made w N (by omega)
  have HN : Hid _ := hN
  go_enter Tryd.func77, Tryd.ntmps77
  go_wp2_with fail
  clear hmk hN
  go_loopw [4, 5] (fun v i wr => ∃ (k : Nat) (acc : List UInt8), i = .int .i64 ((2 * k : Nat) : Int) ∧ 2 * k ≤ l.length ∧ acc.length = k ∧ OwnB w.heap.size wr v (nu acc) ∧ unhx l = (unhx (l.drop (2 * k))).map (acc ++ ·) ∧ Kept w wr) (fun _ i _ => l.length - (intOf i).toNat)
  case atStart => exact ⟨0, [], rfl, Nat.zero_le _, rfl, HOM.out w, by simp, (Same.refl _ w).alloc _⟩
  case round =>
    obtain ⟨k, acc, rfl, hk, hac, how, hun, hkp⟩ := hrel
    have HOW : Hid _ := how
    have HUN : Hid _ := hun
    have HKP : Hid _ := hkp
    have HAC : Hid _ := hac
    clear how hun hkp hac HOM
    rename World => W
    by_cases hkn : 2 * k < l.length
    · have c1 : decide (((2 * k : Nat) : Int) < (l.length : Int)) = true := decide_eq_true (by omega)
      have hkn2 : ((2 * k : Nat) : Int) < (l.length : Int) := by omega
      obtain ⟨a, ha⟩ : ∃ b, l[2 * k]? = some b := ⟨_, List.getElem?_eq_getElem hkn⟩
      obtain ⟨b, hb⟩ : ∃ b, l[2 * k + 1]? = some b := ⟨_, List.getElem?_eq_getElem (by have := HN.out; omega)⟩
      have hix : ∀ w, (Instr.index 9 (tx l) (.int .i64 ((2 * k : Nat) : Int))).run Tryd.prog w = _ := idx_tx ha
      have hix1 : ∀ w, (Instr.index 9 (tx l) (.int .i64 (((2 * k : Nat) : Int) + 1))).run Tryd.prog w = _ := idx_tx hb
      have HDR : Hid (l.drop (2 * k) = a :: b :: l.drop (2 * (k + 1))) := drop_two ha hb
      clear ha hb
      have hw1 : wrap64 (((2 * k : Nat) : Int) + 1) = ((2 * k : Nat) : Int) + 1 := by unfold wrap64; omega
      have hw2 : wrap64 (((2 * k : Nat) : Int) + 2) = ((2 * k : Nat) : Int) + 2 := by unfold wrap64; omega
      have HK1 : Hid (2 * (k + 1) ≤ l.length) := by show 2 * (k + 1) ≤ _; have := HN.out; omega
      have HKE : Hid (∀ kk, kk = 2 * k → ((kk : Nat) : Int) + 2 = ((2 * (k + 1) : Nat) : Int)) := fun kk e => by omega
      have HKK : Hid (∃ kk, kk = 2 * k) := ⟨_, rfl⟩
      generalize hkk : 2 * k = kk at hkn c1 hkn2 hix hix1 hw1 hw2
      have HKF : Hid _ := HKE.out kk hkk.symm
      clear hkk
      go_wp2_with fail
      refine Calls.mono (HIB.out _ _) ?_
      rintro e w1 ⟨rfl, e1⟩
      subst e1
      go_wp2_with fail
      refine Calls.mono (HIB.out _ _) ?_
      rintro e w1 ⟨rfl, e1⟩
      subst e1
      rcases hv_or a with ea | ⟨ea0, ea1, -⟩
      · have R : Hid (unhx l = none) := by show _ = _; rw [HUN.out, HDR.out]; unfold unhx; rw [if_pos (.inl (by omega))]; rfl
        rw [ea]
        go_wp2_with fail
        go_ret2
        rw [R.out]
        exact ⟨rfl, HKP.out⟩
      · have ea2 : ¬ hv a < 0 := by omega
        rcases hv_or b with eb | ⟨eb0, eb1, -⟩
        · have R : Hid (unhx l = none) := by show _ = _; rw [HUN.out, HDR.out]; unfold unhx; rw [if_pos (.inr (by omega))]; rfl
          rw [eb]
          go_wp2_with fail
          go_ret2
          rw [R.out]
          exact ⟨rfl, HKP.out⟩
        · obtain ⟨x, hx⟩ : ∃ x : Nat, hv a = (x : Int) := ⟨(hv a).toNat, by omega⟩
          obtain ⟨y, hy⟩ : ∃ y : Nat, hv b = (y : Int) := ⟨(hv b).toNat, by omega⟩
          have HB : Hid (unhx (l.drop (2 * k)) = (unhx (l.drop (2 * (k + 1)))).map (UInt8.ofNat (16 * x + y) :: ·)) := by
            show _ = _
            rw [HDR.out]
            conv => lhs; unfold unhx
            rw [if_neg (by omega), hx, hy]
            rfl
          have hx16 : x < 16 := by omega
          have hy16 : y < 16 := by omega
          have hor := byte_all ⟨x, hx16⟩ ⟨y, hy16⟩
          simp only at hor
          rw [hx, hy]
          have hx0 : ¬ (x : Int) < 0 := by omega
          have hy0 : ¬ (y : Int) < 0 := by omega
          clear hx hy ea0 ea1 ea2 eb0 eb1
          have HAP : Hid _ := app_one ((16 * x + y : Nat) : Int) HOW.out (by rw [nu_len, HAC.out]; omega) HKP.out.size
          have dx0 : decide ((x : Int) < 0) = false := decide_eq_false hx0
          have dy0 : decide ((y : Int) < 0) = false := decide_eq_false hy0
          go_wp2_with (at_builtin; refine wpList_app rfl (.tmp 37) (.tmp 43) 39 39 rfl _ _ rfl rfl _ HAP.out ?_; rintro v5 w5 ⟨r5, s5⟩)
          refine ⟨⟨k + 1, acc ++ [UInt8.ofNat (16 * x + y)], by rw [HKF.out], HK1.out, by simp [HAC.out], ?_, ?_, ?_⟩, ?_⟩
          · rw [nu_app, nu_byte (by omega)]
            exact r5
          · rw [HUN.out, HB.out, Option.map_map]
            congr 1
            funext z
            simp
          · exact Same.trans HKP.out s5 (fun i hi e => by omega)
          · simp only [intOf]
            omega
    · have c1 : decide (((2 * k : Nat) : Int) < (l.length : Int)) = false := decide_eq_false (by omega)
      have hkn2 : ¬ ((2 * k : Nat) : Int) < (l.length : Int) := by omega
      have hst := own_str HOW.out
      have R : Hid (unhx l = some acc) := by
        show _ = _
        rw [HUN.out, List.drop_of_length_le (by omega)]
        simp [unhx]
      generalize 2 * k = kk at hkn c1 hkn2
      go_wp2_with fail
      go_ret2
      rw [R.out]
      exact ⟨rfl, HKP.out⟩
end Go.Proofs.YtlldgibpajbabaaDoor
