/- What is proved: the code's plain, Word, Unword, Number and what they stand on; conditions: the texts' lengths. -/
import Derived.Test.YtfhaiklfbnfdlaaDoorNoPl
import Derived.Test.YtfhaiklfbnfdlaaDoorNoApp
import Derived.Test.YtfhaiklfbnfdlaaDoorRText
import Derived.Shelf.Small.Strs
import Derived.Deep.RegionHeld3
import Derived.Deep.RegionLaw
import Derived.Deep.DeepCutAuto
namespace Go.Proofs.YtfhaiklfbnfdlaaDoor
open Go.RowKit

def nu (l : List UInt8) : List Int := l.map fun b => (b.toNat : Int)
theorem nu_len (l : List UInt8) : (nu l).length = l.length := by simp [nu]
theorem nu_app (a b : List UInt8) : nu (a ++ b) = nu a ++ nu b := by simp [nu]
theorem nums_tx (l : List UInt8) : nums ⟨l.toArray⟩ = nu l := rfl
theorem str_nu (l : List UInt8) : Value.string (strOfNums (nu l)) = tx l := by rw [← nums_tx, strOf_nums]
theorem own_str {base : Nat} {w : World} {v : Value} {l : List UInt8} (h : OwnB base w v (nu l)) : (convert 32 9 v).run Tryd.prog w = .ok (tx l) w := by
  obtain ⟨a, cap, rfl, hb, hn⟩ := OwnB.bytes h
  cases a with
  | none =>
    obtain ⟨e, -⟩ := hn.2.1 rfl
    rw [nu_len] at e
    have : l = [] := List.eq_nil_of_length_eq_zero e
    subst this
    rw [run_convert_bytes_string w 32 9 5 _ _ _ Tryd.underlying32 Tryd.underlying5 Tryd.underlying9]
    simp [Conv.bytesToString, tx, ByteArray.empty, ByteArray.emptyWithCapacity, Sem.run_pure]
    rfl
  | some ad =>
    obtain ⟨b, off, c⟩ := ad
    rcases l with _ | ⟨x, l⟩
    · rcases h.2 with ⟨e, -⟩ | ⟨g, cp, cur, e, -⟩
      · simp at e
      · simp only [Value.slice.injEq, Option.some.injEq, Addr.mk.injEq] at e
        obtain ⟨⟨rfl, rfl, rfl⟩, -, -⟩ := e
        rw [convert_bytes hb, str_nu]
    · obtain ⟨b', off', e', -, -⟩ := hb 0 _ rfl
      cases e'
      rw [convert_bytes hb, str_nu]
theorem app_tx {w : World} {base : Nat} {v : Value} {xs : List Int} (l : List UInt8) (hown : OwnB base w v xs) (hb : xs.length + l.length ≤ 140737488355328) (hbase : base ≤ w.heap.size) (ty : TypeId) :
    ∃ v' w', (Builtin.append_ #[32, 9] ty #[v, tx l]).run Tryd.prog w = .ok v' w' ∧ AppR base w (xs ++ nu l) v' w' := by
  obtain ⟨i0, hi0, hz0, hz1, hz2⟩ := info_parts Tryd.infoByte
  obtain ⟨v', w', hr, r1, r2, _⟩ := Lib.run_append_own_string (P := Tryd.prog) w base 32 9 ty 5 i0 Tryd.underlying32 Tryd.underlying9 hi0 hz0 hz1 hz2 v xs.length _ hown ⟨l.toArray⟩ (by unfold maxLen; rw [sz]; omega) (by rw [sz]; exact hb) hbase
  rw [strCells_nums, ← byt_append, nums_tx, sz] at r1
  refine ⟨v', w', hr, ?_, Same.of_grown r2 (fun k e => (hown.block e).1)⟩
  rw [OwnB, List.length_append, nu_len]
  exact r1

theorem eq_b (a b : UInt8) : ((a.toNat : Int) == (b.toNat : Int)) = (a == b) := by
  by_cases h : a = b
  · subst h; simp
  · have : ¬ a.toNat = b.toNat := fun e => h (UInt8.toNat_inj.1 e)
    rw [beq_eq_false_iff_ne.2 h, beq_eq_false_iff_ne.2 (fun e => this (by omega))]

def wch (b : UInt8) : Bool := (b == 35) || sm b
theorem w32b (b : UInt8) : wrap32 (b.toNat : Int) = (b.toNat : Int) := by
  have := b.toNat_lt
  unfold wrap32
  omega
end Go.Proofs.YtfhaiklfbnfdlaaDoor

namespace Go.Proofs.YtfhaiklfbnfdlaaDoor
open Go.RowKit

theorem val_snoc (n : Nat) (l : List UInt8) (b : UInt8) : val n (l ++ [b]) = 10 * val n l + (b.toNat - 48) := by simp [val]
theorem val_le : ∀ (l : List UInt8) (n : Nat), (∀ b ∈ l, b.toNat ≤ 57) → val n l < (n + 1) * 10 ^ l.length
  | [], n, _ => by simp [val]
  | a :: l, n, h => by
    have ih := val_le l (10 * n + (a.toNat - 48)) (fun b hb => h b (List.mem_cons_of_mem _ hb))
    have h1 := h a (List.mem_cons_self ..)
    have : val n (a :: l) = val (10 * n + (a.toNat - 48)) l := rfl
    rw [this, List.length_cons, Nat.pow_succ]
    have h2 : (10 * n + (a.toNat - 48) + 1) * 10 ^ l.length ≤ (n + 1) * (10 ^ l.length * 10) := by
      rw [Nat.mul_comm (10 ^ l.length) 10, ← Nat.mul_assoc]
      exact Nat.mul_le_mul_right _ (by omega)
    omega
theorem take_snoc {l : List UInt8} {k : Nat} {b : UInt8} (h : l[k]? = some b) : l.take (k + 1) = l.take k ++ [b] := by
  rw [List.take_add_one, h]
  rfl
theorem lead_all {f : UInt8 → Bool} : ∀ {l : List UInt8}, (lead f l < l.length) = (l.all f = false)
  | [] => by simp [lead]
  | a :: l => by
    have ih := lead_all (f := f) (l := l)
    unfold lead at ih ⊢
    rw [List.takeWhile_cons, List.all_cons]
    cases h : f a
    · simp
    · simp at ih ⊢
      exact ih
theorem sub_dig {b : UInt8} (h : dg b = true) : IntKind.u8.wrap ((b.toNat : Int) - 48) = ((b.toNat - 48 : Nat) : Int) := by
  unfold dg at h
  rw [Bool.and_eq_true, decide_eq_true_eq, decide_eq_true_eq] at h
  simp [IntKind.wrap, IntKind.signed, IntKind.bits]
  omega

def numV (o : Option Nat) : Value := match o with
  | some n => .tuple #[.int .i64 (n : Int), .int .i64 0]
  | none => .tuple #[.int .i64 0, .int .i64 210]
theorem number_any21 (l : List UInt8) (w : World) (hl : l.length ≤ 281474976710656) : Calls Tryd.prog 67 #[tx l] w fun e w' => e = .returned (numV (numb l)) ∧ w' = w := by
  have HDA : Hid _ := digits_any l w hl
  by_cases h0 : l.length = 0
  · have e0 : l = [] := List.eq_nil_of_length_eq_zero h0
    subst e0
    clear HDA
    go_enter Tryd.func67, Tryd.ntmps67
    go_wp2_with fail
    go_ret2
    exact ⟨rfl, rfl⟩
  have q0 : ((l.length : Int) == 0) = false := beq_eq_false_iff_ne.2 (by omega)
  have hne : ¬ l = [] := fun e => h0 (by rw [e]; rfl)
  by_cases h15 : 15 < l.length
  · have q15 : (15 : Int) < (l.length : Int) := by omega
    have R : Hid (numb l = none) := by show _ = _; unfold numb; rw [if_pos (.inr (.inl h15))]
    clear HDA
    go_enter Tryd.func67, Tryd.ntmps67
    go_wp2_with fail
    go_ret2
    rw [R.out]
    exact ⟨rfl, rfl⟩
  have q15 : ¬ (15 : Int) < (l.length : Int) := by omega
  by_cases hd : l.all dg = false
  · have ql : (lead dg l : Int) < (l.length : Int) := by
      have := lead_all (f := dg) (l := l)
      rw [← this] at hd
      omega
    have R : Hid (numb l = none) := by show _ = _; unfold numb; rw [if_pos (.inr (.inr (.inl hd)))]
    go_enter Tryd.func67, Tryd.ntmps67
    go_wp2_with fail
    refine Calls.mono HDA.out ?_
    rintro e w1 ⟨rfl, e1⟩
    subst e1
    go_wp2_with fail
    go_ret2
    rw [R.out]
    exact ⟨rfl, rfl⟩
  have ql : ¬ (lead dg l : Int) < (l.length : Int) := by
    have := lead_all (f := dg) (l := l)
    rw [← this] at hd
    omega
  have hall : l.all dg = true := by simpa using hd
  have HALL : Hid (∀ b ∈ l, dg b = true) := fun b hb => List.all_eq_true.1 hall b hb
  clear hd hall
  obtain ⟨b0, hb0⟩ : ∃ b, l[0]? = some b := ⟨_, List.getElem?_eq_getElem (by omega)⟩
  have hix0 : ∀ w, (Instr.index 9 (tx l) (.int .i64 0)).run Tryd.prog w = _ := idx_tx hb0
  by_cases hz : b0 = 48 ∧ 1 < l.length
  · have q48 : ((b0.toNat : Int) == 48) = true := by rw [hz.1]; rfl
    have q1 : (1 : Int) < (l.length : Int) := by omega
    have R : Hid (numb l = none) := by show _ = _; unfold numb; rw [if_pos (.inr (.inr (.inr ⟨by rw [List.head?_eq_getElem?, hb0, hz.1], hz.2⟩)))]
    clear hz hb0
    go_enter Tryd.func67, Tryd.ntmps67
    go_wp2_with fail
    refine Calls.mono HDA.out ?_
    rintro e w1 ⟨rfl, e1⟩
    subst e1
    go_wp2_with fail
    go_ret2
    rw [R.out]
    exact ⟨rfl, rfl⟩
  have R : Hid (numb l = some (val 0 l)) := by
    show _ = _
    unfold numb
    rw [if_neg]
    rintro (h | h | h | ⟨h, h'⟩)
    · exact h0 h
    · exact h15 h
    · rw [List.all_eq_false] at h
      obtain ⟨b, hb, hn⟩ := h
      exact hn (HALL.out b hb)
    · rw [List.head?_eq_getElem?, hb0] at h
      cases h
      exact hz ⟨rfl, h'⟩
  have HNZ : Hid ((((b0.toNat : Int) == 48) = true ∧ ¬ (1 : Int) < (l.length : Int)) ∨ ((b0.toNat : Int) == 48) = false) := by
    by_cases h : b0 = 48
    · exact .inl ⟨by rw [h]; rfl, fun e => hz ⟨h, by omega⟩⟩
    · exact .inr ((eq_b b0 48).trans (beq_eq_false_iff_ne.2 h))
  clear hz hb0
  have FIN : Hid (∀ k, k ≤ l.length → val 0 (l.take k) < 1000000000000000) := fun k hk => by
    have h1 := val_le (l.take k) 0 (fun b hb => by
      have := HALL.out b (List.mem_of_mem_take hb)
      unfold dg at this
      rw [Bool.and_eq_true, decide_eq_true_eq, decide_eq_true_eq] at this
      exact this.2)
    have h2 : (l.take k).length ≤ 15 := by rw [List.length_take]; omega
    have h3 : 10 ^ (l.take k).length ≤ 10 ^ 15 := Nat.pow_le_pow_right (by omega) h2
    omega
  go_enter Tryd.func67, Tryd.ntmps67
  rcases HNZ.out with ⟨q48, q1⟩ | q48 <;>
  · clear HNZ
    go_wp2_with fail
    refine Calls.mono HDA.out ?_
    rintro e w1 ⟨rfl, e1⟩
    subst e1
    clear HDA
    go_wp2_with fail
    clear hix0 q48
    go_loopw [4, 31] (fun v i w' => ∃ k : Nat, i = .int .i64 (k : Int) ∧ k ≤ l.length ∧ w' = w1 ∧ v = .int .i64 (val 0 (l.take k) : Int)) (fun _ i _ => l.length - (intOf i).toNat)
    case atStart => exact ⟨0, rfl, Nat.zero_le _, rfl, rfl⟩
    case round =>
      obtain ⟨k, rfl, hk, rfl, rfl⟩ := hrel
      by_cases hkn : k < l.length
      · have c1 : decide ((k : Int) < (l.length : Int)) = true := decide_eq_true (by omega)
        have hkn2 : (k : Int) < (l.length : Int) := by omega
        obtain ⟨b, hb⟩ : ∃ b, l[k]? = some b := ⟨_, List.getElem?_eq_getElem hkn⟩
        have hix : ∀ w, (Instr.index 9 (tx l) (.int .i64 (k : Int))).run Tryd.prog w = _ := idx_tx hb
        have hsub := sub_dig (HALL.out b (List.mem_of_getElem? hb))
        have hv1 := FIN.out k hk
        have HV : Hid (val 0 (l.take (k + 1)) = 10 * val 0 (l.take k) + (b.toNat - 48)) := by show _ = _; rw [take_snoc hb, val_snoc]
        have hb9 : b.toNat - 48 < 256 := by have := b.toNat_lt; omega
        clear hb
        generalize val 0 (l.take k) = V at HV hv1
        generalize hdd : b.toNat - 48 = dd at HV hsub hb9
        have h10 : wrap64 (10 * (V : Int)) = 10 * (V : Int) := by unfold wrap64; omega
        have h11 : wrap64 (10 * (V : Int) + (dd : Int)) = 10 * (V : Int) + (dd : Int) := by unfold wrap64; omega
        have h12 : wrap64 (dd : Int) = (dd : Int) := by unfold wrap64; omega
        clear hdd
        go_wp2_with fail
        go_roundw
        case rel => exact ⟨k + 1, by simp, hkn, by trivial, by rw [HV.out]; simp⟩
        case measure => simp only [intOf]; omega
      · have c1 : decide ((k : Int) < (l.length : Int)) = false := decide_eq_false (by omega)
        have hkn2 : ¬ (k : Int) < (l.length : Int) := by omega
        have : Hid (l.take k = l) := List.take_of_length_le (by omega)
        go_wp2_with fail
        go_ret2
        rw [R.out, this.out]
        exact ⟨rfl, rfl⟩
end Go.Proofs.YtfhaiklfbnfdlaaDoor

namespace Go.Proofs.YtfhaiklfbnfdlaaDoor
open Go.RowKit

def hexL : List UInt8 := [48, 49, 50, 51, 52, 53, 54, 55, 56, 57, 97, 98, 99, 100, 101, 102]
def hv (b : UInt8) : Int := Lib.indexByte hexL b
theorem hv_all : ∀ n : Fin 256, hv (UInt8.ofNat n.val) = -1 ∨ (0 ≤ hv (UInt8.ofNat n.val) ∧ hv (UInt8.ofNat n.val) < 16 ∧ hexL[(hv (UInt8.ofNat n.val)).toNat]? = some (UInt8.ofNat n.val)) := by decide +kernel
theorem hv_or (b : UInt8) : hv b = -1 ∨ (0 ≤ hv b ∧ hv b < 16 ∧ hexL[(hv b).toNat]? = some b) := by
  have := hv_all ⟨b.toNat, b.toNat_lt⟩
  simpa using this
theorem hv_dig : ∀ n : Fin 16, ∃ b, hexL[n.val]? = some b ∧ hv b = (n.val : Int) := by decide +kernel
/-- Pairs of digits, read. -/
def unhx : List UInt8 → Option (List UInt8)
  | [] => some []
  | [_] => none
  | a :: b :: r => if hv a < 0 ∨ hv b < 0 then none else (unhx r).map (UInt8.ofNat (16 * (hv a).toNat + (hv b).toNat) :: ·)
theorem unhx_odd : ∀ (l : List UInt8), l.length % 2 = 1 → unhx l = none
  | [], h => by simp at h
  | [_], _ => rfl
  | a :: b :: r, h => by
    have := unhx_odd r (by simp at h; omega)
    unfold unhx
    rw [this]
    split <;> rfl
def hxV (o : Option (List UInt8)) : Value := match o with
  | some s => .tuple #[tx s, .bool true]
  | none => .tuple #[tx [], .bool false]
shelf_lay Lays.n137 Nm 137 at Tryd as Tryd.laysIB
theorem ib_any (b : UInt8) (w : World) : Calls Tryd.prog 104 #[.string ⟨#[48, 49, 50, 51, 52, 53, 54, 55, 56, 57, 97, 98, 99, 100, 101, 102]⟩, .int .u8 (b.toNat : Int)] w fun e w' => e = .returned (.int .i64 (hv b)) ∧ w' = w := by
  have := Any.strings_IndexByte Tryd.laysIB ⟨#[48, 49, 50, 51, 52, 53, 54, 55, 56, 57, 97, 98, 99, 100, 101, 102]⟩ (b.toNat : Int) w
  have e : (b.toNat : Int).toNat.toUInt8 = b := by simp
  rw [e] at this
  exact this
theorem byte_all : ∀ x y : Fin 16, IntKind.u8.wrap (bits BinOp.or IntKind.i64 ((x.val : Int) * 16) (y.val : Int)) = ((16 * x.val + y.val : Nat) : Int) := by decide +kernel
theorem nu_byte {m : Nat} (h : m < 256) : nu [UInt8.ofNat m] = [(m : Int)] := by
  simp [nu]
  omega
theorem drop_two {l : List UInt8} {k : Nat} {a b : UInt8} (ha : l[k]? = some a) (hb : l[k + 1]? = some b) : l.drop k = a :: b :: l.drop (k + 2) := by
  obtain ⟨h1, e1⟩ := List.getElem?_eq_some_iff.1 ha
  obtain ⟨h2, e2⟩ := List.getElem?_eq_some_iff.1 hb
  rw [List.drop_eq_getElem_cons h1, List.drop_eq_getElem_cons h2, e1, e2]

set_option maxRecDepth 100000 in
theorem unhex_any (l : List UInt8) (w : World) (hl : l.length ≤ 150000000000000) : Calls Tryd.prog 95 #[tx l] w fun e w' => e = .returned (hxV (unhx l)) ∧ Kept w w' := by
  have HIB : Hid (∀ b w, _) := ib_any
  by_cases ho : l.length % 2 = 1
  · have R : Hid (unhx l = none) := unhx_odd l ho
    have q : (((l.length : Int)) % 2 != 0) = true := by simp; omega
    clear ho
    go_enter Tryd.func95, Tryd.ntmps95
    go_wp2_with fail
    go_ret2
    rw [R.out]
    exact ⟨rfl, Same.refl _ _⟩
  have q : (((l.length : Int)) % 2 != 0) = false := by simp; omega
  obtain ⟨N, hN⟩ : ∃ N, l.length = 2 * N := ⟨l.length / 2, by omega⟩
  have hmk : ∀ w, (Instr.makeSlice 32 (.int .i64 0) (.int .i64 (N : Int))).run Tryd.prog w = _ := fun w => make_room w N (by omega)
  have HOM : Hid (∀ w, OwnB _ _ _ _) := fun w => own_made w N (by omega)
  have HN : Hid _ := hN
  go_enter Tryd.func95, Tryd.ntmps95
  go_wp2_with fail
  clear hmk hN
  go_loopw [4, 5] (fun v i wr => ∃ (k : Nat) (acc : List UInt8), i = .int .i64 ((2 * k : Nat) : Int) ∧ 2 * k ≤ l.length ∧ acc.length = k ∧ OwnB w.heap.size wr v (nu acc) ∧ unhx l = (unhx (l.drop (2 * k))).map (acc ++ ·) ∧ Kept w wr) (fun _ i _ => l.length - (intOf i).toNat)
  case atStart => exact ⟨0, [], rfl, Nat.zero_le _, rfl, HOM.out w, by simp, (Same.refl _ w).alloc _⟩
  case round =>
    obtain ⟨k, acc, rfl, hk, hac, how, hun, hkp⟩ := hrel
    have HOW : Hid _ := how
    have HUN : Hid _ := hun
    have HKP : Hid _ := hkp
    have HAC : Hid _ := hac
    clear how hun hkp hac HOM
    rename World => W
    by_cases hkn : 2 * k < l.length
    · have c1 : decide (((2 * k : Nat) : Int) < (l.length : Int)) = true := decide_eq_true (by omega)
      have hkn2 : ((2 * k : Nat) : Int) < (l.length : Int) := by omega
      obtain ⟨a, ha⟩ : ∃ b, l[2 * k]? = some b := ⟨_, List.getElem?_eq_getElem hkn⟩
      obtain ⟨b, hb⟩ : ∃ b, l[2 * k + 1]? = some b := ⟨_, List.getElem?_eq_getElem (by have := HN.out; omega)⟩
      have hix : ∀ w, (Instr.index 9 (tx l) (.int .i64 ((2 * k : Nat) : Int))).run Tryd.prog w = _ := idx_tx ha
      have hix1 : ∀ w, (Instr.index 9 (tx l) (.int .i64 (((2 * k : Nat) : Int) + 1))).run Tryd.prog w = _ := idx_tx hb
      have HDR : Hid (l.drop (2 * k) = a :: b :: l.drop (2 * (k + 1))) := drop_two ha hb
      clear ha hb
      have hw1 : wrap64 (((2 * k : Nat) : Int) + 1) = ((2 * k : Nat) : Int) + 1 := by unfold wrap64; omega
      have hw2 : wrap64 (((2 * k : Nat) : Int) + 2) = ((2 * k : Nat) : Int) + 2 := by unfold wrap64; omega
      have HK1 : Hid (2 * (k + 1) ≤ l.length) := by show 2 * (k + 1) ≤ _; have := HN.out; omega
      have HKE : Hid (∀ kk, kk = 2 * k → ((kk : Nat) : Int) + 2 = ((2 * (k + 1) : Nat) : Int)) := fun kk e => by omega
      have HKK : Hid (∃ kk, kk = 2 * k) := ⟨_, rfl⟩
      generalize hkk : 2 * k = kk at hkn c1 hkn2 hix hix1 hw1 hw2
      have HKF : Hid _ := HKE.out kk hkk.symm
      clear hkk
      go_wp2_with fail
      refine Calls.mono (HIB.out _ _) ?_
      rintro e w1 ⟨rfl, e1⟩
      subst e1
      go_wp2_with fail
      refine Calls.mono (HIB.out _ _) ?_
      rintro e w1 ⟨rfl, e1⟩
      subst e1
      rcases hv_or a with ea | ⟨ea0, ea1, -⟩
      · have R : Hid (unhx l = none) := by show _ = _; rw [HUN.out, HDR.out]; unfold unhx; rw [if_pos (.inl (by omega))]; rfl
        rw [ea]
        go_wp2_with fail
        go_ret2
        rw [R.out]
        exact ⟨rfl, HKP.out⟩
      · have ea2 : ¬ hv a < 0 := by omega
        rcases hv_or b with eb | ⟨eb0, eb1, -⟩
        · have R : Hid (unhx l = none) := by show _ = _; rw [HUN.out, HDR.out]; unfold unhx; rw [if_pos (.inr (by omega))]; rfl
          rw [eb]
          go_wp2_with fail
          go_ret2
          rw [R.out]
          exact ⟨rfl, HKP.out⟩
        · obtain ⟨x, hx⟩ : ∃ x : Nat, hv a = (x : Int) := ⟨(hv a).toNat, by omega⟩
          obtain ⟨y, hy⟩ : ∃ y : Nat, hv b = (y : Int) := ⟨(hv b).toNat, by omega⟩
          have HB : Hid (unhx (l.drop (2 * k)) = (unhx (l.drop (2 * (k + 1)))).map (UInt8.ofNat (16 * x + y) :: ·)) := by
            show _ = _
            rw [HDR.out]
            conv => lhs; unfold unhx
            rw [if_neg (by omega), hx, hy]
            rfl
          have hx16 : x < 16 := by omega
          have hy16 : y < 16 := by omega
          have hor := byte_all ⟨x, hx16⟩ ⟨y, hy16⟩
          simp only at hor
          rw [hx, hy]
          have hx0 : ¬ (x : Int) < 0 := by omega
          have hy0 : ¬ (y : Int) < 0 := by omega
          clear hx hy ea0 ea1 ea2 eb0 eb1
          have HAP : Hid _ := app_one ((16 * x + y : Nat) : Int) HOW.out (by rw [nu_len, HAC.out]; omega) HKP.out.size
          have dx0 : decide ((x : Int) < 0) = false := decide_eq_false hx0
          have dy0 : decide ((y : Int) < 0) = false := decide_eq_false hy0
          go_wp2_with (at_builtin; refine wpList_app rfl (.tmp 37) (.tmp 43) 32 32 rfl _ _ rfl rfl _ HAP.out ?_; rintro v5 w5 ⟨r5, s5⟩)
          refine ⟨⟨k + 1, acc ++ [UInt8.ofNat (16 * x + y)], by rw [HKF.out], HK1.out, by simp [HAC.out], ?_, ?_, ?_⟩, ?_⟩
          · rw [nu_app, nu_byte (by omega)]
            exact r5
          · rw [HUN.out, HB.out, Option.map_map]
            congr 1
            funext z
            simp
          · exact Same.trans HKP.out s5 (fun i hi e => by omega)
          · simp only [intOf]
            omega
    · have c1 : decide (((2 * k : Nat) : Int) < (l.length : Int)) = false := decide_eq_false (by omega)
      have hkn2 : ¬ ((2 * k : Nat) : Int) < (l.length : Int) := by omega
      have hst := own_str HOW.out
      have R : Hid (unhx l = some acc) := by
        show _ = _
        rw [HUN.out, List.drop_of_length_le (by omega)]
        simp [unhx]
      generalize 2 * k = kk at hkn c1 hkn2
      go_wp2_with fail
      go_ret2
      rw [R.out]
      exact ⟨rfl, HKP.out⟩
end Go.Proofs.YtfhaiklfbnfdlaaDoor

namespace Go.Proofs.YtfhaiklfbnfdlaaDoor
open Go.RowKit

theorem from_tx (l : List UInt8) (k : Nat) (h : k ≤ l.length) (w : World) : (Instr.slice 9 (tx l) (some (.int .i64 (k : Int))) none none).run Tryd.prog w = .ok (tx (l.drop k)) w := by
  rw [run_slice_string_from_if w 9 _ .i64 _ Tryd.underlying9, if_pos (by rw [sz]; omega)]
  congr 2
  apply ByteArray.ext
  simp [ByteArray.data_extract, sz]
  exact List.take_of_length_le (by simp)
theorem to_tx (l : List UInt8) (k : Nat) (h : k ≤ l.length) (w : World) : (Instr.slice 9 (tx l) none (some (.int .i64 (k : Int))) none).run Tryd.prog w = .ok (tx (l.take k)) w := by
  rw [run_slice_string_to_if w 9 _ .i64 _ Tryd.underlying9, if_pos (by rw [sz]; omega)]
  congr 2
  apply ByteArray.ext
  simp [ByteArray.data_extract]

/-- The bytes that a word stands for. -/
def uwd (l : List UInt8) : Option (List UInt8) := if pln l = true then some l else match l with
  | [] => none
  | a :: r => if a = 35 then (match unhx r with | some s => if pln s = true then none else some s | none => none) else none
def uwV (o : Option (List UInt8)) : Value := match o with
  | some s => .tuple #[tx s, .int .i64 0]
  | none => .tuple #[tx [], .int .i64 210]

set_option maxRecDepth 100000 in
theorem unword_any (l : List UInt8) (w : World) (hl : l.length ≤ 150000000000000) : Calls Tryd.prog 89 #[tx l] w fun e w' => e = .returned (uwV (uwd l)) ∧ Kept w w' := by
  have HP : Hid (∀ l w, _) := plain_any21
  have HCL : Hid (∀ w, _) := fun w => clone_tx l w (by omega)
  by_cases hp : pln l = true
  · have R : Hid (uwd l = some l) := by show _ = _; unfold uwd; rw [if_pos hp]
    go_enter Tryd.func89, Tryd.ntmps89
    go_wp2_with fail
    refine Calls.mono (HP.out _ _) ?_
    rintro e w1 ⟨rfl, k1⟩
    rw [hp]
    have K1 : Hid _ := k1
    clear k1
    go_wp2_with fail
    refine Calls.mono (HCL.out _) ?_
    rintro e w2 ⟨rfl, k2⟩
    have K2 : Hid _ := K1.out.trans' k2
    clear k2
    go_wp2_with fail
    go_ret2
    rw [R.out]
    exact ⟨rfl, K2.out⟩
  have hp' : pln l = false := by simpa using hp
  rcases l with _ | ⟨a, r⟩
  · go_enter Tryd.func89, Tryd.ntmps89
    go_wp2_with fail
    refine Calls.mono (HP.out _ _) ?_
    rintro e w1 ⟨rfl, k1⟩
    rw [hp']
    have K1 : Hid _ := k1
    clear k1
    go_wp2_with fail
    go_ret2
    exact ⟨rfl, K1.out⟩
  have hix : ∀ w, (Instr.index 9 (tx (a :: r)) (.int .i64 0)).run Tryd.prog w = _ := idx_tx (i := 0) rfl
  have hem : ((⟨(a :: r).toArray⟩ : ByteArray).toList == ByteArray.toList ⟨#[]⟩) = false := by rw [ByteArray.toList_eq, ByteArray.toList_eq]; simp
  have hem2 : (a :: r).isEmpty = false := rfl
  have HU : Hid _ := unhex_any r
  generalize hL : a :: r = L at *
  by_cases ha : a = 35
  · have q35 : ((a.toNat : Int) != 35) = false := by rw [ha]; rfl
    have q35' : ((a.toNat : Int) == 35) = true := by rw [ha]; rfl
    have hsl : ∀ w, (Instr.slice 9 (tx L) (some (.int .i64 1)) none none).run Tryd.prog w = .ok (tx r) w := fun w => by
      have := from_tx L 1 (by rw [← hL]; simp) w
      rw [← hL] at this ⊢
      exact this
    have RR : Hid (∀ o, unhx r = o → uwd L = match o with | some s => if pln s = true then none else some s | none => none) := fun o eo => by
      rw [← hL, uwd, hL, if_neg hp]
      simp only [ha, if_true]
      rw [eo]
    have HUR : Hid (∀ w, _) := fun w => HU.out w (by have e9 : L.length = r.length + 1 := (by rw [← hL]; rfl); omega)
    clear hL ha HU
    go_enter Tryd.func89, Tryd.ntmps89
    go_wp2_with fail
    refine Calls.mono (HP.out _ _) ?_
    rintro e w1 ⟨rfl, k1⟩
    rw [hp']
    have K1 : Hid _ := k1
    clear k1
    go_wp2_with fail
    refine Calls.mono (HUR.out _) ?_
    rintro e w2 ⟨rfl, k2⟩
    have K2 : Hid _ := K1.out.trans' k2
    clear k2
    cases hu : unhx r with
    | none =>
      have R : Hid _ := RR.out _ hu
      simp only [hxV]
      go_wp2_with fail
      go_ret2
      rw [R.out]
      exact ⟨rfl, K2.out⟩
    | some s =>
      have R : Hid _ := RR.out _ hu
      simp only [hxV]
      go_wp2_with fail
      refine Calls.mono (HP.out _ _) ?_
      rintro e w3 ⟨rfl, k3⟩
      have K3 : Hid _ := K2.out.trans' k3
      clear k3
      cases hs : pln s
      · go_wp2_with fail
        go_ret2
        rw [R.out]
        simp only [hs]
        exact ⟨rfl, K3.out⟩
      · go_wp2_with fail
        go_ret2
        rw [R.out]
        simp only [hs]
        exact ⟨rfl, K3.out⟩
  · have q35 : ((a.toNat : Int) != 35) = true := by
      have := (eq_b a 35).trans (beq_eq_false_iff_ne.2 ha)
      rw [bne, show (35 : Int) = ((35 : UInt8).toNat : Int) from rfl, this]
      rfl
    have q35' : ((a.toNat : Int) == 35) = false := (eq_b a 35).trans (beq_eq_false_iff_ne.2 ha)
    have R : Hid (uwd L = none) := by
      show _ = _
      rw [← hL, uwd, hL, if_neg hp]
      simp only [ha, if_false]
    clear hL ha HU
    go_enter Tryd.func89, Tryd.ntmps89
    go_wp2_with fail
    refine Calls.mono (HP.out _ _) ?_
    rintro e w1 ⟨rfl, k1⟩
    rw [hp']
    have K1 : Hid _ := k1
    clear k1
    go_wp2_with fail
    go_ret2
    rw [R.out]
    exact ⟨rfl, K1.out⟩
end Go.Proofs.YtfhaiklfbnfdlaaDoor

namespace Go.Proofs.YtfhaiklfbnfdlaaDoor
open Go.RowKit

theorem step_app {P : Program} {ops : Array Oper} {o : Oper} {a : Act} {w : World} {K : Act → World → Prop} {Q : Exit → Act → World → Prop} {E : Prop} (hg : o.guard = none) (s x : Operand) (t : TypeId)
    (ho : o.op = .call { callee := .builtin .append, args := #[s, x], argTypes := #[t, t] }) (vs vx : Value) (hs : a.eval s = vs) (hx : a.eval x = vx) (R : Value → World → Prop)
    (hrun : ∀ ty, ∃ v' w', (Builtin.append_ #[t, t] ty #[vs, vx]).run P w = .ok v' w' ∧ R v' w') (h : ∀ v' w', R v' w' → K (a.put o.dst v') w') : if Region.wanted o (yielded ops a.tmps) = true then Oper.wp P o a w K Q else E := by
  have hw : Region.wanted o (yielded ops a.tmps) = true := by simp [Region.wanted, hg]
  rw [if_pos hw]
  obtain ⟨v', w', hr, hR⟩ := hrun o.type
  unfold Oper.wp
  simp [execOp, ho, resolve, invoke, builtin, hs, hx, hr, Result.andThen]
  exact h v' w' hR

def hx (n : Nat) : UInt8 := hexL.getD n 0
def hexs (l : List UInt8) : List UInt8 := l.flatMap fun b => [hx (b.toNat / 16), hx (b.toNat % 16)]
/-- The word for the bytes. -/
def wd (l : List UInt8) : List UInt8 := if pln l = true then l else 35 :: hexs l
theorem hexs_len (l : List UInt8) : (hexs l).length = 2 * l.length := by
  induction l with
  | nil => rfl
  | cons a l ih =>
    rw [hexs, List.flatMap_cons, List.length_append]
    unfold hexs at ih
    rw [ih]
    simp
    omega
theorem hexs_snoc (l : List UInt8) (b : UInt8) : hexs (l ++ [b]) = hexs l ++ [hx (b.toNat / 16), hx (b.toNat % 16)] := by simp [hexs]
theorem hix_hex {n : Nat} (h : n < 16) (w : World) : (Instr.index 9 (.string ⟨#[48, 49, 50, 51, 52, 53, 54, 55, 56, 57, 97, 98, 99, 100, 101, 102]⟩) (.int .u8 (n : Int))).run Tryd.prog w = .ok (.int .u8 ((hx n).toNat : Int)) w := by
  rw [run_index_string w 9 _ .u8 _ Tryd.underlying9]
  have hc : 0 ≤ (n : Int) ∧ (n : Int) < ((⟨#[48, 49, 50, 51, 52, 53, 54, 55, 56, 57, 97, 98, 99, 100, 101, 102]⟩ : ByteArray).size : Nat) := by
    rw [show (⟨#[48, 49, 50, 51, 52, 53, 54, 55, 56, 57, 97, 98, 99, 100, 101, 102]⟩ : ByteArray).size = 16 from rfl]
    omega
  rw [dif_pos hc]
  have : (⟨#[48, 49, 50, 51, 52, 53, 54, 55, 56, 57, 97, 98, 99, 100, 101, 102]⟩ : ByteArray)[(n : Int).toNat]'(by omega) = hx n := by
    show hexL[n]'(by simpa [hexL] using h) = hexL.getD n 0
    simp [List.getD, List.getElem?_eq_getElem (show n < hexL.length by simpa [hexL] using h)]
  rw [this]

theorem and15 : ∀ n : Fin 256, bits BinOp.and IntKind.u8 (n.val : Int) 15 = ((n.val % 16 : Nat) : Int) := by decide +kernel
theorem app_two {w : World} {base : Nat} {v : Value} {xs : List Int} (hown : OwnB base w v xs) (hb : xs.length + 2 ≤ 140737488355328) (hbase : base ≤ w.heap.size) (x y : Int) :
    ∀ W, Kept w W → ∀ b, W.heap[b]? = some (.cells #[.int .u8 x, .int .u8 y] 5 (0, 0)) → ∀ ty, ∃ v' w', (Builtin.append_ #[32, 32] ty #[v, .slice (some ⟨b, 0, none⟩) 2 2]).run Tryd.prog W = .ok v' w' ∧ AppR base w (xs ++ [x, y]) v' w' := fun W k b hW ty => by
  obtain ⟨v', w', h1, h2⟩ := app_bytes (c := 2) (l := [x, y]) (hown.kept k (fun _ _ h => h)) (fun i z hz => by
    refine ⟨b, 0, rfl, lt_of_heap hW, ?_⟩
    rw [cell_of hW, Nat.zero_add]
    rcases i with _ | _ | i
    · cases hz; rfl
    · cases hz; rfl
    · simp at hz) (fun e => by cases e) hb (Nat.le_trans hbase k.size) ty
  exact ⟨v', w', h1, h2.old k⟩

set_option maxRecDepth 100000 in
set_option maxHeartbeats 1600000 in
theorem word_any (l : List UInt8) (w : World) (hl : l.length ≤ 70368744177000) : Calls Tryd.prog 71 #[tx l] w fun e w' => e = .returned (tx (wd l)) ∧ Kept w w' := by
  have HP : Hid (∀ l w, _) := plain_any21
  have HCL : Hid (∀ w, _) := fun w => clone_tx l w (by omega)
  by_cases hp : pln l = true
  · have R : Hid (wd l = l) := by show _ = _; unfold wd; rw [if_pos hp]
    go_enter Tryd.func71, Tryd.ntmps71
    go_wp2_with fail
    refine Calls.mono (HP.out _ _) ?_
    rintro e w1 ⟨rfl, k1⟩
    rw [hp]
    have K1 : Hid _ := k1
    clear k1
    go_wp2_with fail
    refine Calls.mono (HCL.out _) ?_
    rintro e w2 ⟨rfl, k2⟩
    have K2 : Hid _ := K1.out.trans' k2
    clear k2
    go_wp2_with fail
    go_ret
    rw [R.out]
    exact ⟨rfl, K2.out⟩
  have hp' : pln l = false := by simpa using hp
  have R : Hid (wd l = 35 :: hexs l) := by show _ = _; unfold wd; rw [if_neg hp]
  clear hp HCL
  have hw1 : wrap64 (2 * (l.length : Int)) = 2 * (l.length : Int) := by unfold wrap64; omega
  have hw2 : wrap64 (1 + 2 * (l.length : Int)) = 1 + 2 * (l.length : Int) := by unfold wrap64; omega
  have hmk : ∀ w, (Instr.makeSlice 32 (.int .i64 0) (.int .i64 (1 + 2 * (l.length : Int)))).run Tryd.prog w = .ok (.slice (some ⟨w.heap.size, 0, none⟩) 0 (1 + 2 * l.length)) (w.alloc (.cells (madeCells #[.int .u8 0] (1 + 2 * l.length)) 5)) := fun w => by
    have := make_room w (1 + 2 * l.length) (by omega)
    rw [show ((1 + 2 * l.length : Nat) : Int) = 1 + 2 * (l.length : Int) by omega] at this
    exact this
  obtain ⟨M, eM⟩ : ∃ M : Array Value, M = madeCells #[.int .u8 0] (1 + 2 * l.length) := ⟨_, rfl⟩
  have HOM : Hid (∀ w : World, ∀ g, g = (w.alloc (.cells M 5)).heap.size → ∀ ty, ∃ v' w', (Builtin.append_ #[32, 32] ty #[.slice (some ⟨w.heap.size, 0, none⟩) 0 (1 + 2 * l.length), .slice (some ⟨g, 0, none⟩) 1 1]).run Tryd.prog ((w.alloc (.cells M 5)).alloc (.cells #[.int .u8 35] 5)) = .ok v' w' ∧ AppR w.heap.size (w.alloc (.cells M 5)) [35] v' w') := fun w g hg ty => by
    rw [hg, eM]
    exact app_one (base := w.heap.size) 35 (own_made w (1 + 2 * l.length) (by omega)) (by simp) (by simp) ty
  simp only [← eM] at hmk
  clear eM
  go_enter Tryd.func71, Tryd.ntmps71
  go_wp2_with fail
  refine Calls.mono (HP.out _ _) ?_
  rintro e w1 ⟨rfl, k1⟩
  rw [hp']
  have K1 : Hid _ := k1
  clear k1 HP
  go_wp2_with (at_builtin; refine wpList_app rfl (.tmp 14) (.tmp 15) 32 32 rfl (.slice (some ⟨w1.heap.size, 0, none⟩) 0 (1 + 2 * l.length)) (.slice (some ⟨_, 0, none⟩) 1 1) rfl rfl _ (HOM.out w1 _ (by first | rfl | simp)) ?_; rintro v2 w2 ⟨o2, s2⟩)
  have O2 : Hid (OwnB w1.heap.size w2 v2 (nu [35])) := o2
  have K2 : Hid (Kept w w2) := K1.out.trans' (Same.trans ((Same.refl _ w1).alloc _) s2 (fun i hi e => by omega))
  have Z2 : Hid (w1.heap.size ≤ w2.heap.size) := Nat.le_trans (by simp) s2.size
  clear o2 s2 hmk HOM hw1 hw2
  go_loopw [3, 19] (fun v i wr => ∃ k : Nat, i = .int .i64 (k : Int) ∧ k ≤ l.length ∧ OwnB w1.heap.size wr v (nu (35 :: hexs (l.take k))) ∧ Same (fun i => w1.heap.size ≤ i) w2 wr) (fun _ i _ => l.length - (intOf i).toNat)
  case atStart => exact ⟨0, rfl, Nat.zero_le _, O2.out, Same.refl _ _⟩
  case round =>
    obtain ⟨k, rfl, hk, how, hkp⟩ := hrel
    have HOW : Hid _ := how
    have HKP : Hid _ := hkp
    clear how hkp O2
    rename World => W
    by_cases hkn : k < l.length
    · have c1 : decide ((k : Int) < (l.length : Int)) = true := decide_eq_true (by omega)
      have hkn2 : (k : Int) < (l.length : Int) := by omega
      obtain ⟨b, hb⟩ : ∃ b, l[k]? = some b := ⟨_, List.getElem?_eq_getElem hkn⟩
      have hix : ∀ w, (Instr.index 9 (tx l) (.int .i64 (k : Int))).run Tryd.prog w = _ := idx_tx hb
      have HT : Hid _ := take_snoc hb
      have hB := b.toNat_lt
      have h15 := and15 ⟨b.toNat, hB⟩
      simp only at h15
      have hi1 : ∀ w, _ := hix_hex (n := b.toNat / 16) (by omega)
      have hi2 : ∀ w, _ := hix_hex (n := b.toNat % 16) (by omega)
      have HAP : Hid (∀ W', Kept W W' → ∀ b, _ → ∀ ty, _) := app_two HOW.out (by rw [nu_len, List.length_cons, hexs_len, List.length_take]; omega) (Nat.le_trans Z2.out HKP.out.size) ((hx (b.toNat / 16)).toNat : Int) ((hx (b.toNat % 16)).toNat : Int)
      clear hb
      have hi1' : ∀ w, (Instr.index 9 (.string ⟨#[48, 49, 50, 51, 52, 53, 54, 55, 56, 57, 97, 98, 99, 100, 101, 102]⟩) (.int .u8 ((b.toNat : Int) / 16))).run Tryd.prog w = .ok (.int .u8 ((hx (b.toNat / 16)).toNat : Int)) w := hi1
      have hi2' : ∀ w, (Instr.index 9 (.string ⟨#[48, 49, 50, 51, 52, 53, 54, 55, 56, 57, 97, 98, 99, 100, 101, 102]⟩) (.int .u8 ((b.toNat : Int) % 16))).run Tryd.prog w = .ok (.int .u8 ((hx (b.toNat % 16)).toNat : Int)) w := hi2
      generalize hX : ((hx (b.toNat / 16)).toNat : Int) = X at *
      generalize hY : ((hx (b.toNat % 16)).toNat : Int) = Y at *
      have HXY : Hid (nu [hx (b.toNat / 16), hx (b.toNat % 16)] = [X, Y]) := by rw [← hX, ← hY]; rfl
      clear hX hY
      go_upto_region 8 with fail
      go_region_law ((refine step_app rfl (.tmp 22) (.tmp 33) 32 rfl _ (.slice (some ⟨W.heap.size, 0, none⟩) 2 2) rfl rfl _ (HAP.out _ (by (repeat (first | assumption | exact Same.refl _ _ | apply Same.alloc | apply Same.drew | apply Same.drewN)); done) _ (by exact heap_new _ _)) ?_); rintro v5 w5 ⟨r5, s5⟩)
      all_goals
        go_wp2_with fail
        go_roundw
        case rel => exact ⟨k + 1, by simp, hkn, by rw [HT.out, hexs_snoc, ← List.cons_append, nu_app, HXY.out]; exact r5, Same.trans' HKP.out s5⟩
        case measure => simp only [intOf]; omega
    · have c1 : decide ((k : Int) < (l.length : Int)) = false := decide_eq_false (by omega)
      have hkn2 : ¬ (k : Int) < (l.length : Int) := by omega
      have hst := own_str HOW.out
      have E : Hid (l.take k = l) := List.take_of_length_le (by omega)
      go_wp2_with fail
      go_ret
      rw [R.out, E.out]
      exact ⟨rfl, Same.trans K2.out HKP.out (fun i hi e => by have := K1.out.size; omega)⟩
end Go.Proofs.YtfhaiklfbnfdlaaDoor
