/- What is proved: the law ViolMemory answers true of every list that lies in memory; no condition. -/
import Derived.Test.YtnfkjblhnpnaeaaVMmP
import Derived.Test.YtnfkjblhnpnaeaaVStb
import Derived.Test.YtnfkjblhnpnaeaaVSame
import Derived.Test.YtnfkjblhnpnaeaaVOpen
namespace Go.Proofs.Ytnfkjblhnpnaeaa
open Go.RowKit

theorem put18_no2 {w W : World} {tb lim : Nat} {vs : List Vl} (h : TpN w W tb lim vs) {x : Vl} (hx : okV x = false) : Calls Try.prog 11 #[.pointer (some ⟨tb, 0, none⟩), vlV x] W fun e w' => e = .returned (.int .i64 181) ∧ Kept W w' := by
  obtain ⟨⟨v, L, t⟩, k0⟩ := h
  exact put18_no t hx
theorem am18 : Am Try.prog 12 vl1 :=
  ⟨by kernel_rfl, ekV, fun _ => rfl, Try.func8, Try.call9, Try.call10, Try.call11, Try.call18, Try.call14, Try.call16, Try.call19, Try.call13, anchor18, fun W => new18_ok 10000 (by decide) W, fun _ _ _ _ _ h1 h2 h3 => h1.put2 h2 h3, fun _ _ _ _ _ h1 h2 => put18_no2 h1 h2, fun _ _ _ _ h => h.list, fun _ _ _ _ h => h.total,
    fun _ _ _ _ h1 h2 h3 => sort18 h1 h2 h3, fun _ _ _ _ h1 h2 h3 h4 => rsort18 h1 h2 h3 h4, fun W a b n c d l h1 h2 h3 h4 => same18 W a b n c d l h1 h2 h3 h4, Try.underlying3, Try.underlying4, Try.underlying24, Try.underlying25, Try.underlying28, rfl, Try.underlying48, Try.isAgg3, Try.isAgg4, Try.isAgg24, Try.isAgg25, Try.isAgg28, Try.isAgg30, Try.isAgg48, Try.sizeOf3, Try.sizeOf4, Try.sizeOf9, Try.sizeOf24, Try.sizeOf25, Try.sizeOf28, Try.sizeOf30, Try.sizeOf48, Try.zeroValue28,
    ⟨[.int .i64 0, .int .i64 0, .int .i64 0, .int .i64 0, .int .i64 0, .string .empty, .bool false, .string .empty, .bool false, .string .empty, .int .i64 0, .int .i64 0], rfl, Try.zeroValue30, fun _ => rfl⟩, by decide, _, 120, Try.infoViol, rfl, by decide⟩
set_option maxRecDepth 100000 in
set_option maxHeartbeats 1600000 in
theorem memory_out (w : World) (a : Option Addr) (cap n : Nat) (h : n < 1 ∨ 100 < n) (hm : n ≤ 1172812402961) : Calls Try.prog 8 #[.slice a n cap] w fun e w' => e = .returned (.bool true) ∧ Kept w w' := by
  have HA : Hid _ := anchor18 w
  have HN : Hid (∀ W, _) := fun W => new18_ok 10000 (by decide) W
  have HT : Hid (∀ W, Kept w W → Kept w (W.alloc (tpO 10000 0 (.slice none 0 0)))) := fun W k => k.alloc _
  by_cases h1 : n < 1
  · have d1 : decide ((n : Int) < 1) = true := decide_eq_true (by omega)
    have d1' : (n : Int) < 1 := by omega
    clear h h1
    go_enter Try.func8, Try.ntmps8
    go_wp2_with fail
    refine Calls.mono HA.out ?_
    rintro r w1 ⟨rfl, k1⟩
    have K1 : Hid _ := HT.out w1 k1
    clear k1 HA
    go_wp2_with fail
    refine Calls.mono (HN.out _) ?_
    rintro r w2 ⟨rfl, rfl⟩
    go_wp2_with fail
    go_ret
    exact ⟨rfl, K1.out⟩
  · have d1 : decide ((n : Int) < 1) = false := decide_eq_false (by omega)
    have d1' : ¬ (n : Int) < 1 := by omega
    have d2 : decide ((n : Int) > 100) = true := decide_eq_true (by omega)
    have d2' : (100 : Int) < (n : Int) := by omega
    clear h h1
    go_enter Try.func8, Try.ntmps8
    go_wp2_with fail
    refine Calls.mono HA.out ?_
    rintro r w1 ⟨rfl, k1⟩
    have K1 : Hid _ := HT.out w1 k1
    clear k1 HA
    go_wp2_with fail
    refine Calls.mono (HN.out _) ?_
    rintro r w2 ⟨rfl, rfl⟩
    go_wp2_with fail
    go_ret
    exact ⟨rfl, K1.out⟩
theorem memory_law (w : World) (a : Option Addr) (cap : Nat) (l : List Vl) (h : ArgV w a cap l) (hc : l.length ≤ cap) : Calls Try.prog 8 #[.slice a l.length cap] w fun e w' => e = .returned (.bool true) ∧ Kept w w' := by
  by_cases hl : l.length < 1 ∨ 100 < l.length
  · exact memory_out w a cap l.length hl h.len
  · exact memory_p am18 w a cap l h.at_ hc h.nil (by omega) (by omega)
theorem cap_argM {H : Type} {enc : TypeId × Value → H} {W : World} {fuel : Nat} {sa : Option Addr} {len cap : Nat} {d : DataW H} {p : List MemPlace}
    (h : DataW.trod enc Try.prog W 0 (fun _ => true) true fuel 28 [.slice sa len cap] = some (d, p)) : len ≤ cap := by
  rcases Go.Deep.open_slice Try.underlying28 h with ⟨hcs, hd⟩ | ⟨a, len', cap', m, n, D, Pl, hcs, _, hl, hm, hmm, hd, hx⟩
  · simp only [List.cons.injEq, Value.slice.injEq, and_true] at hcs
    omega
  · simp only [List.cons.injEq, Value.slice.injEq, and_true] at hcs
    omega
end Go.Proofs.Ytnfkjblhnpnaeaa
