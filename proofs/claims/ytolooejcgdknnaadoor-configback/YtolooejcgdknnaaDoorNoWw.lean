/- What is proved: the code's plain, Word, Unword, Number and what they stand on; conditions: the texts' lengths. -/
import Derived.Test.YtolooejcgdknnaaDoorNoPl
import Derived.Test.YtolooejcgdknnaaDoorNoApp
import Derived.Test.YtolooejcgdknnaaDoorRText
import Derived.Shelf.Small.Strs
import Derived.Deep.RegionHeld3
import Derived.Deep.RegionLaw
import Derived.Deep.DeepCutAuto
namespace Go.Proofs.YtolooejcgdknnaaDoor
open Go.RowKit

def nu (l : List UInt8) : List Int := l.map fun b => (b.toNat : Int)
theorem nu_len (l : List UInt8) : (nu l).length = l.length := by simp [nu]
theorem nu_app (a b : List UInt8) : nu (a ++ b) = nu a ++ nu b := by simp [nu]
theorem nums_tx (l : List UInt8) : nums ⟨l.toArray⟩ = nu l := rfl
theorem str_nu (l : List UInt8) : Value.string (strOfNums (nu l)) = tx l := by rw [← nums_tx, strOf_nums]
theorem own_str {base : Nat} {w : World} {v : Value} {l : List UInt8} (h : OwnB base w v (nu l)) : (convert 41 9 v).run Tryd.prog w = .ok (tx l) w := by
  obtain ⟨a, cap, rfl, hb, hn⟩ := OwnB.bytes h
  cases a with
  | none =>
    obtain ⟨e, -⟩ := hn.2.1 rfl
    rw [nu_len] at e
    have : l = [] := List.eq_nil_of_length_eq_zero e
    subst this
    rw [run_convert_bytes_string w 41 9 5 _ _ _ Tryd.underlying41 Tryd.underlying5 Tryd.underlying9]
    simp [Conv.bytesToString, tx, ByteArray.empty, ByteArray.emptyWithCapacity, Sem.run_pure]
    rfl
  | some ad =>
    obtain ⟨b, off, c⟩ := ad
    rcases l with _ | ⟨x, l⟩
    · rcases h.2 with ⟨e, -⟩ | ⟨g, cp, cur, e, -⟩
      · simp at e
      · simp only [Value.slice.injEq, Option.some.injEq, Addr.mk.injEq] at e
        obtain ⟨⟨rfl, rfl, rfl⟩, -, -⟩ := e
        rw [convert_bytes hb, str_nu]
    · obtain ⟨b', off', e', -, -⟩ := hb 0 _ rfl
      cases e'
      rw [convert_bytes hb, str_nu]
theorem app_tx {w : World} {base : Nat} {v : Value} {xs : List Int} (l : List UInt8) (hown : OwnB base w v xs) (hb : xs.length + l.length ≤ 140737488355328) (hbase : base ≤ w.heap.size) (ty : TypeId) :
    ∃ v' w', (Builtin.append_ #[41, 9] ty #[v, tx l]).run Tryd.prog w = .ok v' w' ∧ AppR base w (xs ++ nu l) v' w' := by
  obtain ⟨i0, hi0, hz0, hz1, hz2⟩ := info_parts Tryd.infoByte
  obtain ⟨v', w', hr, r1, r2, _⟩ := Lib.run_append_own_string (P := Tryd.prog) w base 41 9 ty 5 i0 Tryd.underlying41 Tryd.underlying9 hi0 hz0 hz1 hz2 v xs.length _ hown ⟨l.toArray⟩ (by unfold maxLen; rw [sz]; omega) (by rw [sz]; exact hb) hbase
  rw [strCells_nums, ← byt_append, nums_tx, sz] at r1
  refine ⟨v', w', hr, ?_, Same.of_grown r2 (fun k e => (hown.block e).1)⟩
  rw [OwnB, List.length_append, nu_len]
  exact r1

theorem eq_b (a b : UInt8) : ((a.toNat : Int) == (b.toNat : Int)) = (a == b) := by
  by_cases h : a = b
  · subst h; simp
  · have : ¬ a.toNat = b.toNat := fun e => h (UInt8.toNat_inj.1 e)
    rw [beq_eq_false_iff_ne.2 h, beq_eq_false_iff_ne.2 (fun e => this (by omega))]

def wch (b : UInt8) : Bool := (b == 35) || sm b
theorem w32b (b : UInt8) : wrap32 (b.toNat : Int) = (b.toNat : Int) := by
  have := b.toNat_lt
  unfold wrap32
  omega
end Go.Proofs.YtolooejcgdknnaaDoor

namespace Go.Proofs.YtolooejcgdknnaaDoor
open Go.RowKit

theorem val_snoc (n : Nat) (l : List UInt8) (b : UInt8) : val n (l ++ [b]) = 10 * val n l + (b.toNat - 48) := by simp [val]
theorem val_le : ∀ (l : List UInt8) (n : Nat), (∀ b ∈ l, b.toNat ≤ 57) → val n l < (n + 1) * 10 ^ l.length
  | [], n, _ => by simp [val]
  | a :: l, n, h => by
    have ih := val_le l (10 * n + (a.toNat - 48)) (fun b hb => h b (List.mem_cons_of_mem _ hb))
    have h1 := h a (List.mem_cons_self ..)
    have : val n (a :: l) = val (10 * n + (a.toNat - 48)) l := rfl
    rw [this, List.length_cons, Nat.pow_succ]
    have h2 : (10 * n + (a.toNat - 48) + 1) * 10 ^ l.length ≤ (n + 1) * (10 ^ l.length * 10) := by
      rw [Nat.mul_comm (10 ^ l.length) 10, ← Nat.mul_assoc]
      exact Nat.mul_le_mul_right _ (by omega)
    omega
theorem take_snoc {l : List UInt8} {k : Nat} {b : UInt8} (h : l[k]? = some b) : l.take (k + 1) = l.take k ++ [b] := by
  rw [List.take_add_one, h]
  rfl
theorem lead_all {f : UInt8 → Bool} : ∀ {l : List UInt8}, (lead f l < l.length) = (l.all f = false)
  | [] => by simp [lead]
  | a :: l => by
    have ih := lead_all (f := f) (l := l)
    unfold lead at ih ⊢
    rw [List.takeWhile_cons, List.all_cons]
    cases h : f a
    · simp
    · simp at ih ⊢
      exact ih
theorem sub_dig {b : UInt8} (h : dg b = true) : IntKind.u8.wrap ((b.toNat : Int) - 48) = ((b.toNat - 48 : Nat) : Int) := by
  unfold dg at h
  rw [Bool.and_eq_true, decide_eq_true_eq, decide_eq_true_eq] at h
  simp [IntKind.wrap, IntKind.signed, IntKind.bits]
  omega

def numV (o : Option Nat) : Value := match o with
  | some n => .tuple #[.int .i64 (n : Int), .int .i64 0]
  | none => .tuple #[.int .i64 0, .int .i64 210]
theorem number_any21 (l : List UInt8) (w : World) (hl : l.length ≤ 281474976710656) : Calls Tryd.prog 32 #[tx l] w fun e w' => e = .returned (numV (numb l)) ∧ w' = w := by
  have HDA : Hid _ := digits_any l w hl
  by_cases h0 : l.length = 0
  · have e0 : l = [] := List.eq_nil_of_length_eq_zero h0
    subst e0
    clear HDA
    go_enter Tryd.func32, Tryd.ntmps32
    go_wp2_with fail
    go_ret2
    exact ⟨rfl, rfl⟩
  have q0 : ((l.length : Int) == 0) = false := beq_eq_false_iff_ne.2 (by omega)
  have hne : ¬ l = [] := fun e => h0 (by rw [e]; rfl)
  by_cases h15 : 15 < l.length
  · have q15 : (15 : Int) < (l.length : Int) := by omega
    have R : Hid (numb l = none) := by show _ = _; unfold numb; rw [if_pos (.inr (.inl h15))]
    clear HDA
    go_enter Tryd.func32, Tryd.ntmps32
    go_wp2_with fail
    go_ret2
    rw [R.out]
    exact ⟨rfl, rfl⟩
  have q15 : ¬ (15 : Int) < (l.length : Int) := by omega
  by_cases hd : l.all dg = false
  · have ql : (lead dg l : Int) < (l.length : Int) := by
      have := lead_all (f := dg) (l := l)
      rw [← this] at hd
      omega
    have R : Hid (numb l = none) := by show _ = _; unfold numb; rw [if_pos (.inr (.inr (.inl hd)))]
    go_enter Tryd.func32, Tryd.ntmps32
    go_wp2_with fail
    refine Calls.mono HDA.out ?_
    rintro e w1 ⟨rfl, e1⟩
    subst e1
    go_wp2_with fail
    go_ret2
    rw [R.out]
    exact ⟨rfl, rfl⟩
  have ql : ¬ (lead dg l : Int) < (l.length : Int) := by
    have := lead_all (f := dg) (l := l)
    rw [← this] at hd
    omega
  have hall : l.all dg = true := by simpa using hd
  have HALL : Hid (∀ b ∈ l, dg b = true) := fun b hb => List.all_eq_true.1 hall b hb
  clear hd hall
  obtain ⟨b0, hb0⟩ : ∃ b, l[0]? = some b := ⟨_, List.getElem?_eq_getElem (by omega)⟩
  have hix0 : ∀ w, (Instr.index 9 (tx l) (.int .i64 0)).run Tryd.prog w = _ := idx_tx hb0
  by_cases hz : b0 = 48 ∧ 1 < l.length
  · have q48 : ((b0.toNat : Int) == 48) = true := by rw [hz.1]; rfl
    have q1 : (1 : Int) < (l.length : Int) := by omega
    have R : Hid (numb l = none) := by show _ = _; unfold numb; rw [if_pos (.inr (.inr (.inr ⟨by rw [List.head?_eq_getElem?, hb0, hz.1], hz.2⟩)))]
    clear hz hb0
    go_enter Tryd.func32, Tryd.ntmps32
    go_wp2_with fail
    refine Calls.mono HDA.out ?_
    rintro e w1 ⟨rfl, e1⟩
    subst e1
    go_wp2_with fail
    go_ret2
    rw [R.out]
    exact ⟨rfl, rfl⟩
  have R : Hid (numb l = some (val 0 l)) := by
    show _ = _
    unfold numb
    rw [if_neg]
    rintro (h | h | h | ⟨h, h'⟩)
    · exact h0 h
    · exact h15 h
    · rw [List.all_eq_false] at h
      obtain ⟨b, hb, hn⟩ := h
      exact hn (HALL.out b hb)
    · rw [List.head?_eq_getElem?, hb0] at h
      cases h
      exact hz ⟨rfl, h'⟩
  have HNZ : Hid ((((b0.toNat : Int) == 48) = true ∧ ¬ (1 : Int) < (l.length : Int)) ∨ ((b0.toNat : Int) == 48) = false) := by
    by_cases h : b0 = 48
    · exact .inl ⟨by rw [h]; rfl, fun e => hz ⟨h, by omega⟩⟩
    · exact .inr ((eq_b b0 48).trans (beq_eq_false_iff_ne.2 h))
  clear hz hb0
  have FIN : Hid (∀ k, k ≤ l.length → val 0 (l.take k) < 1000000000000000) := fun k hk => by
    have h1 := val_le (l.take k) 0 (fun b hb => by
      have := HALL.out b (List.mem_of_mem_take hb)
      unfold dg at this
      rw [Bool.and_eq_true, decide_eq_true_eq, decide_eq_true_eq] at this
      exact this.2)
    have h2 : (l.take k).length ≤ 15 := by rw [List.length_take]; omega
    have h3 : 10 ^ (l.take k).length ≤ 10 ^ 15 := Nat.pow_le_pow_right (by omega) h2
    omega
  go_enter Tryd.func32, Tryd.ntmps32
  rcases HNZ.out with ⟨q48, q1⟩ | q48 <;>
  · clear HNZ
    go_wp2_with fail
    refine Calls.mono HDA.out ?_
    rintro e w1 ⟨rfl, e1⟩
    subst e1
    clear HDA
    go_wp2_with fail
    clear hix0 q48
    go_loopw [4, 31] (fun v i w' => ∃ k : Nat, i = .int .i64 (k : Int) ∧ k ≤ l.length ∧ w' = w1 ∧ v = .int .i64 (val 0 (l.take k) : Int)) (fun _ i _ => l.length - (intOf i).toNat)
    case atStart => exact ⟨0, rfl, Nat.zero_le _, rfl, rfl⟩
    case round =>
      obtain ⟨k, rfl, hk, rfl, rfl⟩ := hrel
      by_cases hkn : k < l.length
      · have c1 : decide ((k : Int) < (l.length : Int)) = true := decide_eq_true (by omega)
        have hkn2 : (k : Int) < (l.length : Int) := by omega
        obtain ⟨b, hb⟩ : ∃ b, l[k]? = some b := ⟨_, List.getElem?_eq_getElem hkn⟩
        have hix : ∀ w, (Instr.index 9 (tx l) (.int .i64 (k : Int))).run Tryd.prog w = _ := idx_tx hb
        have hsub := sub_dig (HALL.out b (List.mem_of_getElem? hb))
        have hv1 := FIN.out k hk
        have HV : Hid (val 0 (l.take (k + 1)) = 10 * val 0 (l.take k) + (b.toNat - 48)) := by show _ = _; rw [take_snoc hb, val_snoc]
        have hb9 : b.toNat - 48 < 256 := by have := b.toNat_lt; omega
        clear hb
        generalize val 0 (l.take k) = V at HV hv1
        generalize hdd : b.toNat - 48 = dd at HV hsub hb9
        have h10 : wrap64 (10 * (V : Int)) = 10 * (V : Int) := by unfold wrap64; omega
        have h11 : wrap64 (10 * (V : Int) + (dd : Int)) = 10 * (V : Int) + (dd : Int) := by unfold wrap64; omega
        have h12 : wrap64 (dd : Int) = (dd : Int) := by unfold wrap64; omega
        clear hdd
        go_wp2_with fail
        go_roundw
        case rel => exact ⟨k + 1, by simp, hkn, by trivial, by rw [HV.out]; simp⟩
        case measure => simp only [intOf]; omega
      · have c1 : decide ((k : Int) < (l.length : Int)) = false := decide_eq_false (by omega)
        have hkn2 : ¬ (k : Int) < (l.length : Int) := by omega
        have : Hid (l.take k = l) := List.take_of_length_le (by omega)
        go_wp2_with fail
        go_ret2
        rw [R.out, this.out]
        exact ⟨rfl, rfl⟩
end Go.Proofs.YtolooejcgdknnaaDoor

namespace Go.Proofs.YtolooejcgdknnaaDoor
open Go.RowKit

def hexL : List UInt8 := [48, 49, 50, 51, 52, 53, 54, 55, 56, 57, 97, 98, 99, 100, 101, 102]
def hv (b : UInt8) : Int := Lib.indexByte hexL b
theorem hv_all : ∀ n : Fin 256, hv (UInt8.ofNat n.val) = -1 ∨ (0 ≤ hv (UInt8.ofNat n.val) ∧ hv (UInt8.ofNat n.val) < 16 ∧ hexL[(hv (UInt8.ofNat n.val)).toNat]? = some (UInt8.ofNat n.val)) := by decide +kernel
theorem hv_or (b : UInt8) : hv b = -1 ∨ (0 ≤ hv b ∧ hv b < 16 ∧ hexL[(hv b).toNat]? = some b) := by
  have := hv_all ⟨b.toNat, b.toNat_lt⟩
  simpa using this
theorem hv_dig : ∀ n : Fin 16, ∃ b, hexL[n.val]? = some b ∧ hv b = (n.val : Int) := by decide +kernel
/-- Pairs of digits, read. -/
def unhx : List UInt8 → Option (List UInt8)
  | [] => some []
  | [_] => none
  | a :: b :: r => if hv a < 0 ∨ hv b < 0 then none else (unhx r).map (UInt8.ofNat (16 * (hv a).toNat + (hv b).toNat) :: ·)
theorem unhx_odd : ∀ (l : List UInt8), l.length % 2 = 1 → unhx l = none
  | [], h => by simp at h
  | [_], _ => rfl
  | a :: b :: r, h => by
    have := unhx_odd r (by simp at h; omega)
    unfold unhx
    rw [this]
    split <;> rfl
def hxV (o : Option (List UInt8)) : Value := match o with
  | some s => .tuple #[tx s, .bool true]
  | none => .tuple #[tx [], .bool false]
theorem byte_all : ∀ x y : Fin 16, IntKind.u8.wrap (bits BinOp.or IntKind.i64 ((x.val : Int) * 16) (y.val : Int)) = ((16 * x.val + y.val : Nat) : Int) := by decide +kernel
theorem nu_byte {m : Nat} (h : m < 256) : nu [UInt8.ofNat m] = [(m : Int)] := by
  simp [nu]
  omega
theorem drop_two {l : List UInt8} {k : Nat} {a b : UInt8} (ha : l[k]? = some a) (hb : l[k + 1]? = some b) : l.drop k = a :: b :: l.drop (k + 2) := by
  obtain ⟨h1, e1⟩ := List.getElem?_eq_some_iff.1 ha
  obtain ⟨h2, e2⟩ := List.getElem?_eq_some_iff.1 hb
  rw [List.drop_eq_getElem_cons h1, List.drop_eq_getElem_cons h2, e1, e2]

end Go.Proofs.YtolooejcgdknnaaDoor

namespace Go.Proofs.YtolooejcgdknnaaDoor
open Go.RowKit

theorem from_tx (l : List UInt8) (k : Nat) (h : k ≤ l.length) (w : World) : (Instr.slice 9 (tx l) (some (.int .i64 (k : Int))) none none).run Tryd.prog w = .ok (tx (l.drop k)) w := by
  rw [run_slice_string_from_if w 9 _ .i64 _ Tryd.underlying9, if_pos (by rw [sz]; omega)]
  congr 2
  apply ByteArray.ext
  simp [ByteArray.data_extract, sz]
  exact List.take_of_length_le (by simp)
theorem to_tx (l : List UInt8) (k : Nat) (h : k ≤ l.length) (w : World) : (Instr.slice 9 (tx l) none (some (.int .i64 (k : Int))) none).run Tryd.prog w = .ok (tx (l.take k)) w := by
  rw [run_slice_string_to_if w 9 _ .i64 _ Tryd.underlying9, if_pos (by rw [sz]; omega)]
  congr 2
  apply ByteArray.ext
  simp [ByteArray.data_extract]

/-- The bytes that a word stands for. -/
def uwd (l : List UInt8) : Option (List UInt8) := if pln l = true then some l else match l with
  | [] => none
  | a :: r => if a = 35 then (match unhx r with | some s => if pln s = true then none else some s | none => none) else none
def uwV (o : Option (List UInt8)) : Value := match o with
  | some s => .tuple #[tx s, .int .i64 0]
  | none => .tuple #[tx [], .int .i64 210]

end Go.Proofs.YtolooejcgdknnaaDoor

namespace Go.Proofs.YtolooejcgdknnaaDoor
open Go.RowKit

theorem step_app {P : Program} {ops : Array Oper} {o : Oper} {a : Act} {w : World} {K : Act → World → Prop} {Q : Exit → Act → World → Prop} {E : Prop} (hg : o.guard = none) (s x : Operand) (t : TypeId)
    (ho : o.op = .call { callee := .builtin .append, args := #[s, x], argTypes := #[t, t] }) (vs vx : Value) (hs : a.eval s = vs) (hx : a.eval x = vx) (R : Value → World → Prop)
    (hrun : ∀ ty, ∃ v' w', (Builtin.append_ #[t, t] ty #[vs, vx]).run P w = .ok v' w' ∧ R v' w') (h : ∀ v' w', R v' w' → K (a.put o.dst v') w') : if Region.wanted o (yielded ops a.tmps) = true then Oper.wp P o a w K Q else E := by
  have hw : Region.wanted o (yielded ops a.tmps) = true := by simp [Region.wanted, hg]
  rw [if_pos hw]
  obtain ⟨v', w', hr, hR⟩ := hrun o.type
  unfold Oper.wp
  simp [execOp, ho, resolve, invoke, builtin, hs, hx, hr, Result.andThen]
  exact h v' w' hR

def hx (n : Nat) : UInt8 := hexL.getD n 0
def hexs (l : List UInt8) : List UInt8 := l.flatMap fun b => [hx (b.toNat / 16), hx (b.toNat % 16)]
/-- The word for the bytes. -/
def wd (l : List UInt8) : List UInt8 := if pln l = true then l else 35 :: hexs l
theorem hexs_len (l : List UInt8) : (hexs l).length = 2 * l.length := by
  induction l with
  | nil => rfl
  | cons a l ih =>
    rw [hexs, List.flatMap_cons, List.length_append]
    unfold hexs at ih
    rw [ih]
    simp
    omega
theorem hexs_snoc (l : List UInt8) (b : UInt8) : hexs (l ++ [b]) = hexs l ++ [hx (b.toNat / 16), hx (b.toNat % 16)] := by simp [hexs]
theorem hix_hex {n : Nat} (h : n < 16) (w : World) : (Instr.index 9 (.string ⟨#[48, 49, 50, 51, 52, 53, 54, 55, 56, 57, 97, 98, 99, 100, 101, 102]⟩) (.int .u8 (n : Int))).run Tryd.prog w = .ok (.int .u8 ((hx n).toNat : Int)) w := by
  rw [run_index_string w 9 _ .u8 _ Tryd.underlying9]
  have hc : 0 ≤ (n : Int) ∧ (n : Int) < ((⟨#[48, 49, 50, 51, 52, 53, 54, 55, 56, 57, 97, 98, 99, 100, 101, 102]⟩ : ByteArray).size : Nat) := by
    rw [show (⟨#[48, 49, 50, 51, 52, 53, 54, 55, 56, 57, 97, 98, 99, 100, 101, 102]⟩ : ByteArray).size = 16 from rfl]
    omega
  rw [dif_pos hc]
  have : (⟨#[48, 49, 50, 51, 52, 53, 54, 55, 56, 57, 97, 98, 99, 100, 101, 102]⟩ : ByteArray)[(n : Int).toNat]'(by omega) = hx n := by
    show hexL[n]'(by simpa [hexL] using h) = hexL.getD n 0
    simp [List.getD, List.getElem?_eq_getElem (show n < hexL.length by simpa [hexL] using h)]
  rw [this]

theorem and15 : ∀ n : Fin 256, bits BinOp.and IntKind.u8 (n.val : Int) 15 = ((n.val % 16 : Nat) : Int) := by decide +kernel
theorem app_two {w : World} {base : Nat} {v : Value} {xs : List Int} (hown : OwnB base w v xs) (hb : xs.length + 2 ≤ 140737488355328) (hbase : base ≤ w.heap.size) (x y : Int) :
    ∀ W, Kept w W → ∀ b, W.heap[b]? = some (.cells #[.int .u8 x, .int .u8 y] 5 (0, 0)) → ∀ ty, ∃ v' w', (Builtin.append_ #[41, 41] ty #[v, .slice (some ⟨b, 0, none⟩) 2 2]).run Tryd.prog W = .ok v' w' ∧ AppR base w (xs ++ [x, y]) v' w' := fun W k b hW ty => by
  obtain ⟨v', w', h1, h2⟩ := app_bytes (c := 2) (l := [x, y]) (hown.kept k (fun _ _ h => h)) (fun i z hz => by
    refine ⟨b, 0, rfl, lt_of_heap hW, ?_⟩
    rw [cell_of hW, Nat.zero_add]
    rcases i with _ | _ | i
    · cases hz; rfl
    · cases hz; rfl
    · simp at hz) (fun e => by cases e) hb (Nat.le_trans hbase k.size) ty
  exact ⟨v', w', h1, h2.old k⟩

end Go.Proofs.YtolooejcgdknnaaDoor
