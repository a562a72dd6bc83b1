/- What is proved: words and numbers in plain, and the code's plain, plainRune, digitsAhead, wordAhead, Number and strings.Clone; no condition but a text's length. -/
import Derived.Test.YtfhaiklfbnfdlaaDoorRVal
import Derived.Laws.RangeString
import Derived.Laws.RangeAny
import Derived.Shelf.Strconv.Clone
import Derived.Shelf.Lay
import Derived.Ground.NamesProg
namespace Go.Proofs.YtfhaiklfbnfdlaaDoor
open Go.RowKit

/-- A text. -/
abbrev tx (l : List UInt8) : Value := .string ⟨l.toArray⟩
def smI (r : Int) : Bool := (decide (97 ≤ r) && decide (r ≤ 122)) || (decide (48 ≤ r) && decide (r ≤ 57))
def sm (b : UInt8) : Bool := smI (b.toNat : Int)
def dg (b : UInt8) : Bool := decide (48 ≤ b.toNat) && decide (b.toNat ≤ 57)
/-- Can the bytes stand as they are? -/
def pln (l : List UInt8) : Bool := l.all sm && !l.isEmpty
/-- A number's value so far. -/
def val (n : Nat) (l : List UInt8) : Nat := l.foldl (fun a b => 10 * a + (b.toNat - 48)) n
/-- The number that a text is. -/
def numb (l : List UInt8) : Option Nat := if l.length = 0 ∨ 15 < l.length ∨ l.all dg = false ∨ (l.head? = some 48 ∧ 1 < l.length) then none else some (val 0 l)
/-- How many bytes of a kind stand ahead. -/
def lead (f : UInt8 → Bool) (l : List UInt8) : Nat := (l.takeWhile f).length
theorem lead_le (f : UInt8 → Bool) (l : List UInt8) : lead f l ≤ l.length := by
  unfold lead
  exact List.Sublist.length_le (List.takeWhile_sublist f)
theorem lead_eq {f : UInt8 → Bool} : ∀ {l : List UInt8} {k : Nat}, (∀ i, i < k → ∃ b, l[i]? = some b ∧ f b = true) → (∀ b, l[k]? = some b → f b = false) → lead f l = k
  | [], 0, _, _ => rfl
  | [], k + 1, h, _ => by obtain ⟨b, hb, _⟩ := h 0 (by omega); simp at hb
  | a :: l, 0, _, h => by
    have := h a rfl
    simp [lead, this]
  | a :: l, k + 1, h, h2 => by
    obtain ⟨b, hb, hf⟩ := h 0 (by omega)
    simp at hb
    subst hb
    have ih := lead_eq (f := f) (l := l) (k := k) (fun i hi => by simpa using h (i + 1) (by omega)) (fun b hb => h2 b (by simpa using hb))
    unfold lead at ih ⊢
    rw [List.takeWhile_cons, hf]
    simp [ih]
theorem sz (l : List UInt8) : (⟨l.toArray⟩ : ByteArray).size = l.length := by simp [ByteArray.size]
theorem at_ (l : List UInt8) (i : Nat) (h : i < (⟨l.toArray⟩ : ByteArray).size) : (⟨l.toArray⟩ : ByteArray)[i] = l[i]'(by rw [sz] at h; exact h) := rfl
theorem tx_of (s : ByteArray) : Value.string s = tx s.data.toList := rfl
theorem idx_tx {l : List UInt8} {i : Nat} {b : UInt8} (h : l[i]? = some b) (w : World) : (Instr.index 9 (tx l) (.int .i64 (i : Int))).run Tryd.prog w = .ok (.int .u8 (b.toNat : Int)) w := by
  obtain ⟨h1, h2⟩ := List.getElem?_eq_some_iff.1 h
  rw [run_index_string w 9 _ .i64 _ Tryd.underlying9]
  have hc : 0 ≤ (i : Int) ∧ (i : Int) < ((⟨l.toArray⟩ : ByteArray).size : Nat) := by rw [sz]; omega
  rw [dif_pos hc]
  simp only [Int.toNat_natCast, at_, h2]
theorem len_tx (l : List UInt8) : ((⟨l.toArray⟩ : ByteArray).size : Int) = (l.length : Int) := by rw [sz]

theorem plainRune_any (r : Int) (w : World) : Calls Tryd.prog 91 #[.int .i32 r] w fun e w' => e = .returned (.bool (smI r)) ∧ w' = w := by
  by_cases h1 : 97 ≤ r <;> by_cases h2 : r ≤ 122 <;> by_cases h3 : 48 ≤ r <;> by_cases h4 : r ≤ 57 <;>
  · go_enter Tryd.func91, Tryd.ntmps91
    go_wp2_with fail
    go_ret
    refine ⟨?_, rfl⟩
    simp [smI, h1, h2, h3, h4]

theorem dec_sm (s : ByteArray) (pos : Nat) (h : pos < s.size) : smI (Utf8.decode s pos).1 = sm (s[pos]'h) ∧ (sm (s[pos]'h) = true → (Utf8.decode s pos).2 = 1) ∧ 1 ≤ (Utf8.decode s pos).2 := by
  by_cases ha : (s[pos]'h).toNat < 128
  · rw [decode_ascii s pos h ha]
    exact ⟨rfl, fun _ => rfl, Nat.le_refl _⟩
  · have := decode_high s pos h (by omega)
    have e1 : smI (Utf8.decode s pos).1 = false := by
      unfold smI
      rw [Bool.or_eq_false_iff, Bool.and_eq_false_iff, Bool.and_eq_false_iff]
      exact ⟨.inr (decide_eq_false (by omega)), .inr (decide_eq_false (by omega))⟩
    have e2 : sm (s[pos]'h) = false := by
      unfold sm smI
      rw [Bool.or_eq_false_iff, Bool.and_eq_false_iff, Bool.and_eq_false_iff]
      exact ⟨.inr (decide_eq_false (by omega)), .inr (decide_eq_false (by omega))⟩
    rw [e1, e2]
    exact ⟨rfl, fun e => by simp at e, this.2⟩

theorem all_sm {l : List UInt8} (h : ∀ i, i < l.length → ∃ b, l[i]? = some b ∧ sm b = true) : l.all sm = true := by
  rw [List.all_eq_true]
  intro x hx
  obtain ⟨i, hi, e⟩ := List.getElem_of_mem hx
  obtain ⟨b, hb, hs⟩ := h i hi
  rw [List.getElem?_eq_getElem hi] at hb
  cases hb
  rw [← e]
  exact hs
theorem Kept.iter (w : World) (s : ByteArray) (pos : Nat) : Kept w (w.iter s pos) := (Same.refl _ w).alloc _

theorem plain_any21 (l : List UInt8) (w : World) : Calls Tryd.prog 84 #[tx l] w fun e w' => e = .returned (.bool (pln l)) ∧ Kept w w' := by
  obtain ⟨s, es⟩ : ∃ s : ByteArray, s = ⟨l.toArray⟩ := ⟨_, rfl⟩
  have ES : Hid _ := es
  have HPR : Hid (∀ r w, _) := plainRune_any
  show Calls _ _ #[.string (⟨l.toArray⟩ : ByteArray)] _ _
  rw [← es]
  clear es
  go_enter Tryd.func84, Tryd.ntmps84
  go_wp2_with fail
  go_loopw [7] (fun _ w' => ∃ pos : Nat, pos ≤ s.size ∧ w' = w.iter s pos ∧ ∀ i, i < pos → ∃ b, l[i]? = some b ∧ sm b = true) (fun _ w' => s.size - w'.iterPos w.heap.size)
  case atStart => exact ⟨0, Nat.zero_le _, rfl, fun i hi => absurd hi (by omega)⟩
  case round =>
    obtain ⟨pos, hle, rfl, hal⟩ := hrel
    have HAL : Hid _ := hal
    clear hal
    by_cases hp : pos < s.size
    · have hnx : ∀ ty, (Instr.next (.pointer (some ⟨w.heap.size, 0, none⟩)) true ty).run Tryd.prog (w.iter s pos) = _ := fun ty => run_next_any w s pos ty hp
      obtain ⟨d1, d2, d3⟩ := dec_sm s pos hp
      have hb : Hid (l[pos]? = some (s[pos]'hp)) := by
        obtain rfl := ES.out
        show l[pos]? = some _
        rw [at_, List.getElem?_eq_getElem]
      generalize (s[pos]'hp) = bb at d1 d2 hb
      generalize Utf8.decode s pos = dd at d1 d2 d3 hnx
      obtain ⟨r, wd⟩ := dd
      simp only at d1 d2 d3 hnx
      have D2 : Hid _ := d2
      clear d2
      go_wp2_with fail
      refine Calls.mono (HPR.out _ _) ?_
      rintro e w1 ⟨rfl, e1⟩
      subst e1
      rw [d1]
      cases hs : sm bb
      · go_wp2_with fail
        go_ret
        refine ⟨?_, Kept.iter _ _ _⟩
        have : l.all sm = false := by
          rw [List.all_eq_false]
          exact ⟨bb, List.mem_of_getElem? hb.out, by rw [hs]; simp⟩
        unfold pln
        rw [this]
        rfl
      · obtain rfl := D2.out hs
        go_wp2_with fail
        go_roundw
        case rel =>
          refine ⟨pos + 1, hp, rfl, fun i hi => ?_⟩
          by_cases h : i < pos
          · exact HAL.out i h
          · obtain rfl : i = pos := by omega
            exact ⟨bb, hb.out, hs⟩
        case measure =>
          simp
          omega
    · have hnx : ∀ ty, (Instr.next (.pointer (some ⟨w.heap.size, 0, none⟩)) true ty).run Tryd.prog (w.iter s pos) = _ := fun ty => run_next_end w s pos ty hp
      go_wp2_with fail
      go_ret
      refine ⟨?_, Kept.iter _ _ _⟩
      obtain rfl := ES.out
      rw [sz] at hp hle
      have : l.all sm = true := all_sm fun i hi => HAL.out i (by omega)
      unfold pln
      rw [this]
      simp [ByteArray.toList_eq]

shelf_lay LaysM.n316 Nm 316 at Tryd as Tryd.laysClone
theorem clone_tx (l : List UInt8) (w : World) (h : l.length ≤ 281474976710656) : Calls Tryd.prog 85 #[tx l] w fun e w' => e = .returned (tx l) ∧ Kept w w' := by
  have HC : Hid _ := Any.stringslite_Clone Tryd.laysClone ⟨l.toArray⟩ w (by rw [sz]; exact h)
  go_enter Tryd.func85, Tryd.ntmps85
  go_wp2_with fail
  refine Calls.mono HC.out ?_
  rintro e w1 ⟨rfl, hb⟩
  go_wp2_with fail
  go_ret
  exact ⟨rfl, Same.of_below hb _⟩

theorem digits_any (l : List UInt8) (w : World) (hl : l.length ≤ 281474976710656) : Calls Tryd.prog 77 #[tx l] w fun e w' => e = .returned (.int .i64 (lead dg l : Int)) ∧ w' = w := by
  go_enter Tryd.func77, Tryd.ntmps77
  go_wp2_with fail
  go_loopw [3] (fun i w' => ∃ k : Nat, i = .int .i64 (k : Int) ∧ k ≤ l.length ∧ w' = w ∧ ∀ i, i < k → ∃ b, l[i]? = some b ∧ dg b = true) (fun i _ => l.length - (intOf i).toNat)
  case atStart => exact ⟨0, rfl, Nat.zero_le _, rfl, fun i hi => absurd hi (by omega)⟩
  case round =>
    obtain ⟨k, rfl, hk, rfl, hal⟩ := hrel
    have HAL : Hid _ := hal
    clear hal
    by_cases hkn : k < l.length
    · have c1 : decide ((k : Int) < (l.length : Int)) = true := decide_eq_true (by omega)
      have hkn2 : (k : Int) < (l.length : Int) := by omega
      obtain ⟨b, hb⟩ : ∃ b, l[k]? = some b := ⟨_, List.getElem?_eq_getElem hkn⟩
      have hix : ∀ w, (Instr.index 9 (tx l) (.int .i64 (k : Int))).run Tryd.prog w = _ := idx_tx hb
      have HB : Hid _ := hb
      clear hb
      by_cases h1 : (48 : Int) ≤ (b.toNat : Int)
      · by_cases h2 : (b.toNat : Int) ≤ 57
        · have hd : Hid (dg b = true) := by
            show _ = _
            unfold dg
            rw [decide_eq_true (by omega), decide_eq_true (by omega)]
            rfl
          go_wp2_with fail
          go_roundw
          case rel =>
            refine ⟨k + 1, by simp, hkn, by trivial, fun i hi => ?_⟩
            by_cases h : i < k
            · exact HAL.out i h
            · obtain rfl : i = k := by omega
              exact ⟨b, HB.out, hd.out⟩
          case measure => simp only [intOf]; omega
        · have hd : Hid (dg b = false) := by
            show _ = _
            unfold dg
            rw [decide_eq_false (p := b.toNat ≤ 57) (by omega), Bool.and_false]
          go_wp2_with fail
          go_ret
          exact ⟨by rw [lead_eq HAL.out (fun b' hb' => by rw [HB.out] at hb'; cases hb'; exact hd.out)]; rfl, rfl⟩
      · have hd : Hid (dg b = false) := by
          show _ = _
          unfold dg
          rw [decide_eq_false (p := 48 ≤ b.toNat) (by omega), Bool.false_and]
        go_wp2_with fail
        go_ret
        exact ⟨by rw [lead_eq HAL.out (fun b' hb' => by rw [HB.out] at hb'; cases hb'; exact hd.out)]; rfl, rfl⟩
    · have c1 : decide ((k : Int) < (l.length : Int)) = false := decide_eq_false (by omega)
      have hkn2 : ¬ (k : Int) < (l.length : Int) := by omega
      go_wp2_with fail
      go_ret
      exact ⟨by rw [lead_eq HAL.out (fun b' hb' => by rw [List.getElem?_eq_none (by omega)] at hb'; cases hb')]; rfl, rfl⟩
theorem add_bytes (a b : List UInt8) : (⟨a.toArray⟩ : ByteArray) ++ (⟨b.toArray⟩ : ByteArray) = ⟨(a ++ b).toArray⟩ := by
  apply ByteArray.ext
  simp [ByteArray.data_append]
theorem add_tx (a b : List UInt8) (w : World) (h : a.length + b.length ≤ 9223372036854775807) : (binOp .add 9 (tx a) (tx b)).run Tryd.prog w = .ok (tx (a ++ b)) w := by
  go_simp
  rw [if_neg (by omega), add_bytes]
theorem tx_beq (a b : List UInt8) : ((⟨a.toArray⟩ : ByteArray).toList == (⟨b.toArray⟩ : ByteArray).toList) = decide (a = b) := by
  rw [ByteArray.toList_eq, ByteArray.toList_eq]
  by_cases h : a = b
  · subst h; simp
  · rw [decide_eq_false h]
    exact beq_eq_false_iff_ne.2 (by simpa using h)
end Go.Proofs.YtfhaiklfbnfdlaaDoor
