/- What is proved: the law ViolSorts answers true of every list that lies in memory; no condition. -/
import Derived.Test.YtnfkjblhnpnaeaaVSoP
import Derived.Test.YtnfkjblhnpnaeaaVStb
import Derived.Test.YtnfkjblhnpnaeaaVFst
import Derived.Test.YtnfkjblhnpnaeaaVRef
import Derived.Test.YtnfkjblhnpnaeaaVOpen
import Derived.ChangeKeysEq
namespace Go.Proofs.Ytnfkjblhnpnaeaa
open Go.RowKit

set_option maxRecDepth 100000 in
set_option maxHeartbeats 3200000 in
theorem equalT (f : Nat → Nat) (W : World) : Sem.run Try.prog (Op.equalIn 10000 42 (.agg (ta f).toArray) (.agg (ta f).toArray)) W = .ok true W := by
  obtain ⟨i, hi⟩ : ∃ i, Try.prog.info? 3 = some i := Option.isSome_iff_exists.1 (by kernel_rfl)
  have he := run_equalIn_array W 9999 (ta f).toArray (ta f).toArray Try.underlying42 hi
  have hc : Try.prog.cellsOf 3 = 1 := by kernel_rfl
  rw [hc] at he
  refine Eq.trans he ?_
  simp only [show List.range 11 = [0, 1, 2, 3, 4, 5, 6, 7, 8, 9, 10] from rfl, Op.eqItems, ta]
  go_simp
set_option maxRecDepth 100000 in
set_option maxHeartbeats 3200000 in
theorem guardT (i j : Nat) (f : Nat → Nat) (W : World) : Sem.run Try.prog (eqGuard .eql 42 (.tmp i) (.tmp j) (.agg (ta f).toArray) (.agg (ta f).toArray)) W = .ok () W := by
  unfold ta
  go_simp
theorem grw_alloc (w : World) (o : Obj) : Grw w (w.alloc o) := (Grw.refl w).alloc o
theorem av18 : Av Try.prog 12 11 vl1 :=
  ⟨tl18, Try.func4, Try.call9, Try.call18, Try.call19, Try.call17, Try.call13, Try.call20, Try.call12, Try.call21, Try.call22, anchor18, fun _ _ _ _ h1 h2 h3 => sort18 h1 h2 h3, fun _ _ _ _ h1 h2 h3 h4 => rsort18 h1 h2 h3 h4, fun W a b n c d l h1 h2 h3 h4 => same18 W a b n c d l h1 h2 h3 h4, compare18, before18,
    fun x W => (valid18 x W).mono fun _ _ h => ⟨h.1, h.2 ▸ grw_alloc _ _⟩, fun x W => (rvalid18 x W).mono fun _ _ h => ⟨h.1, h.2 ▸ grw_alloc _ _⟩, equalT, guardT, Try.underlying4, Try.isAgg4, Try.sizeOf4, Try.sizeOf9, Try.zeroValue30, rfl, rfl, rfl⟩
theorem sorts_law (w : World) (a : Option Addr) (cap : Nat) (l : List Vl) (h : ArgV w a cap l) (hc : l.length ≤ cap) : Calls Try.prog 4 #[.slice a l.length cap] w fun e w' => e = .returned (.bool true) ∧ Kept w w' :=
  sorts_p av18 w a cap l h.at_ hc h.nil h.len
theorem cap_argV {H : Type} {enc : TypeId × Value → H} {W : World} {fuel : Nat} {sa : Option Addr} {len cap : Nat} {d : DataW H} {p : List MemPlace}
    (h : DataW.trod enc Try.prog W 0 (fun _ => true) true fuel 28 [.slice sa len cap] = some (d, p)) : len ≤ cap := by
  rcases Go.Deep.open_slice Try.underlying28 h with ⟨hcs, hd⟩ | ⟨a, len', cap', m, n, D, Pl, hcs, _, hl, hm, hmm, hd, hx⟩
  · simp only [List.cons.injEq, Value.slice.injEq, and_true] at hcs
    omega
  · simp only [List.cons.injEq, Value.slice.injEq, and_true] at hcs
    omega
end Go.Proofs.Ytnfkjblhnpnaeaa
