/- What is proved: the code's Number, wordAhead, unhex; rows of bytes as texts; conditions: lengths. -/
import Derived.Test.YtlldgibpajbabaaDoorNoPl
import Derived.Test.YtlldgibpajbabaaDoorNoApp
import Derived.Test.YtlldgibpajbabaaDoorRText
import Derived.Shelf.Small.Strs
import Derived.Deep.RegionHeld3
import Derived.Deep.RegionLaw
import Derived.Deep.DeepCutAuto
namespace Go.Proofs.YtlldgibpajbabaaDoor
open Go.RowKit

def nu (l : List UInt8) : List Int := l.map fun b => (b.toNat : Int)
theorem nu_len (l : List UInt8) : (nu l).length = l.length := by simp [nu]
theorem nu_app (a b : List UInt8) : nu (a ++ b) = nu a ++ nu b := by simp [nu]
theorem nums_tx (l : List UInt8) : nums ⟨l.toArray⟩ = nu l := rfl
theorem str_nu (l : List UInt8) : Value.string (strOfNums (nu l)) = tx l := by rw [← nums_tx, strOf_nums]
theorem own_str {base : Nat} {w : World} {v : Value} {l : List UInt8} (h : OwnB base w v (nu l)) : (convert 39 9 v).run Tryd.prog w = .ok (tx l) w := by
  obtain ⟨a, cap, rfl, hb, hn⟩ := OwnB.bytes h
  cases a with
  | none =>
    obtain ⟨e, -⟩ := hn.2.1 rfl
    rw [nu_len] at e
    have : l = [] := List.eq_nil_of_length_eq_zero e
    subst this
    rw [run_convert_bytes_string w 39 9 5 _ _ _ Tryd.underlying39 Tryd.underlying5 Tryd.underlying9]
    simp [Conv.bytesToString, tx, ByteArray.empty, ByteArray.emptyWithCapacity, Sem.run_pure]
    rfl
  | some ad =>
    obtain ⟨b, off, c⟩ := ad
    rcases l with _ | ⟨x, l⟩
    · rcases h.2 with ⟨e, -⟩ | ⟨g, cp, cur, e, -⟩
      · simp at e
      · simp only [Value.slice.injEq, Option.some.injEq, Addr.mk.injEq] at e
        obtain ⟨⟨rfl, rfl, rfl⟩, -, -⟩ := e
        rw [convert_bytes hb, str_nu]
    · obtain ⟨b', off', e', -, -⟩ := hb 0 _ rfl
      cases e'
      rw [convert_bytes hb, str_nu]
theorem app_tx {w : World} {base : Nat} {v : Value} {xs : List Int} (l : List UInt8) (hown : OwnB base w v xs) (hb : xs.length + l.length ≤ 140737488355328) (hbase : base ≤ w.heap.size) (ty : TypeId) :
    ∃ v' w', (Builtin.append_ #[39, 9] ty #[v, tx l]).run Tryd.prog w = .ok v' w' ∧ AppR base w (xs ++ nu l) v' w' := by
  obtain ⟨i0, hi0, hz0, hz1, hz2⟩ := info_parts Tryd.infoByte
  obtain ⟨v', w', hr, r1, r2, _⟩ := Lib.run_append_own_string (P := Tryd.prog) w base 39 9 ty 5 i0 Tryd.underlying39 Tryd.underlying9 hi0 hz0 hz1 hz2 v xs.length _ hown ⟨l.toArray⟩ (by unfold maxLen; rw [sz]; omega) (by rw [sz]; exact hb) hbase
  rw [strCells_nums, ← byt_append, nums_tx, sz] at r1
  refine ⟨v', w', hr, ?_, Same.of_grown r2 (fun k e => (hown.block e).1)⟩
  rw [OwnB, List.length_append, nu_len]
  exact r1

theorem eq_b (a b : UInt8) : ((a.toNat : Int) == (b.toNat : Int)) = (a == b) := by
  by_cases h : a = b
  · subst h; simp
  · have : ¬ a.toNat = b.toNat := fun e => h (UInt8.toNat_inj.1 e)
    rw [beq_eq_false_iff_ne.2 h, beq_eq_false_iff_ne.2 (fun e => this (by omega))]

def wch (b : UInt8) : Bool := (b == 35) || sm b
theorem w32b (b : UInt8) : wrap32 (b.toNat : Int) = (b.toNat : Int) := by
  have := b.toNat_lt
  unfold wrap32
  omega
theorem wordAhead_any (l : List UInt8) (w : World) (hl : l.length ≤ 281474976710656) : Calls Tryd.prog 66 #[tx l] w fun e w' => e = .returned (.int .i64 (lead wch l : Int)) ∧ w' = w := by
  have HPR : Hid (∀ r w, _) := plainRune_any
  go_enter Tryd.func66, Tryd.ntmps66
  go_wp2_with fail
  go_loopw [3] (fun i w' => ∃ k : Nat, i = .int .i64 (k : Int) ∧ k ≤ l.length ∧ w' = w ∧ ∀ i, i < k → ∃ b, l[i]? = some b ∧ wch b = true) (fun i _ => l.length - (intOf i).toNat)
  case atStart => exact ⟨0, rfl, Nat.zero_le _, rfl, fun i hi => absurd hi (by omega)⟩
  case round =>
    obtain ⟨k, rfl, hk, rfl, hal⟩ := hrel
    have HAL : Hid _ := hal
    clear hal
    by_cases hkn : k < l.length
    · have c1 : decide ((k : Int) < (l.length : Int)) = true := decide_eq_true (by omega)
      have hkn2 : (k : Int) < (l.length : Int) := by omega
      obtain ⟨b, hb⟩ : ∃ b, l[k]? = some b := ⟨_, List.getElem?_eq_getElem hkn⟩
      have hix : ∀ w, (Instr.index 9 (tx l) (.int .i64 (k : Int))).run Tryd.prog w = _ := idx_tx hb
      have HB : Hid _ := hb
      clear hb
      by_cases h35 : b = 35
      · have q35 : ((b.toNat : Int) == 35) = true := by rw [h35]; rfl
        have hd : Hid (wch b = true) := by rw [h35]; rfl
        clear h35
        go_wp2_with fail
        go_roundw
        case rel =>
          refine ⟨k + 1, by simp, hkn, by trivial, fun i hi => ?_⟩
          by_cases h : i < k
          · exact HAL.out i h
          · obtain rfl : i = k := by omega
            exact ⟨b, HB.out, hd.out⟩
        case measure => simp only [intOf]; omega
      · have q35 : ((b.toNat : Int) == 35) = false := (eq_b b 35).trans (beq_eq_false_iff_ne.2 h35)
        have hd : Hid (wch b = sm b) := by show _ = _; unfold wch; rw [beq_eq_false_iff_ne.2 h35, Bool.false_or]
        clear h35
        go_wp2_with fail
        refine Calls.mono (HPR.out _ _) ?_
        rintro e w1 ⟨rfl, e1⟩
        subst e1
        have hsm : smI (wrap32 (b.toNat : Int)) = sm b := by rw [w32b]; rfl
        rw [hsm]
        cases hs : sm b
        · go_wp2_with fail
          go_ret
          exact ⟨by rw [lead_eq HAL.out (fun b' hb' => by rw [HB.out] at hb'; cases hb'; exact hd.out.trans hs)]; rfl, rfl⟩
        · go_wp2_with fail
          go_roundw
          case rel =>
            refine ⟨k + 1, by simp, hkn, by trivial, fun i hi => ?_⟩
            by_cases h : i < k
            · exact HAL.out i h
            · obtain rfl : i = k := by omega
              exact ⟨b, HB.out, hd.out.trans hs⟩
          case measure => simp only [intOf]; omega
    · have c1 : decide ((k : Int) < (l.length : Int)) = false := decide_eq_false (by omega)
      have hkn2 : ¬ (k : Int) < (l.length : Int) := by omega
      go_wp2_with fail
      go_ret
      exact ⟨by rw [lead_eq HAL.out (fun b' hb' => by rw [List.getElem?_eq_none (by omega)] at hb'; cases hb')]; rfl, rfl⟩
end Go.Proofs.YtlldgibpajbabaaDoor
