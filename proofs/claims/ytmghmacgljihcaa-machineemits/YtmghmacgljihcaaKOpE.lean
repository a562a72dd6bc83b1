/- What is proved: a list of steps that is an argument and can be read lies in memory as the walks ask it, within the bounds that a machine's memory sets; no condition. -/
import Derived.Test.YtmghmacgljihcaaKAnch
import Derived.ChangeMaps5
import Derived.Deep.Slices
import Derived.SizedLaws
import Derived.ProofKit
import Derived.OpenShut
namespace Go.Proofs.Ytmghmacgljihcaa
open Go.ChangeShapes Go.WideShapes Go.ChangeAt Go.RowKit

theorem Try.laid5 : laidOutB Try.prog = true := by kernel_rfl
theorem Try.cellsI : Try.prog.cellsOf 3 = 1 := by kernel_rfl
theorem Try.cellsS : Try.prog.cellsOf 9 = 1 := by kernel_rfl
theorem Try.cellsO15 : Try.prog.cellsOf 32 = 5 := by kernel_rfl
theorem Try.bytesO15 : Try.prog.bytesOf 32 = 56 := by kernel_rfl
theorem list_of {α : Type} (n : Nat) (q : Nat → α) : ((List.range n).map q).length = n ∧ ∀ i x, ((List.range n).map q)[i]? = some x → i < n ∧ x = q i := by
  refine ⟨by simp, fun i x h => ?_⟩
  have hi := (List.getElem?_eq_some_iff.1 h).1
  simp only [List.length_map, List.length_range] at hi
  rw [List.getElem?_map, List.getElem?_range hi] at h
  simp only [Option.map_some, Option.some.injEq] at h
  exact ⟨hi, h.symm⟩
set_option maxRecDepth 100000 in
theorem step_of {H : Type} {enc : TypeId × Value → H} {W : World} {fuel : Nat} {cl : List Value} {d : DataW H} {p : List MemPlace} (hsz : cl.length = 5)
    (h : DataW.trod enc Try.prog W 0 (fun _ => true) true fuel 32 cl = some (d, p)) : ∃ s : Stp, cl = [.int .i64 s.kind, .int .i64 s.ses, .int .i64 s.gap, .string s.key, .string s.value] ∧ s.key.size ≤ maxLen ∧ s.value.size ≤ maxLen := by
  obtain ⟨xs, k, hk, hxy, _, hxl, hf⟩ := DataW.trod_struct Try.underlying32 h
  match xs, hxl, cl, hsz with
  | [y0, y1, y2, y3, y4], _, [v0, v1, v2, v3, v4], _ =>
    have g0 := hf 0 _ rfl
    have g1 := hf 1 _ rfl
    have g2 := hf 2 _ rfl
    have g3 := hf 3 _ rfl
    have g4 := hf 4 _ rfl
    simp [Try.cellsI, Try.cellsS] at g0 g1 g2 g3 g4
    obtain ⟨n0, e0, _⟩ := DataW.trod_int Try.underlying3 g0
    obtain ⟨n1, e1, _⟩ := DataW.trod_int Try.underlying3 g1
    obtain ⟨n2, e2, _⟩ := DataW.trod_int Try.underlying3 g2
    obtain ⟨n3, e3, _, hs3⟩ := DataW.trod_string Try.underlying9 g3
    obtain ⟨n4, e4, _, hs4⟩ := DataW.trod_string Try.underlying9 g4
    simp only [List.cons.injEq, and_true] at e0 e1 e2 e3 e4
    subst e0 e1 e2 e3 e4
    exact ⟨⟨n0, n1, n2, n3, n4⟩, rfl, hs3, hs4⟩
instance : Inhabited Stp := ⟨⟨0, 0, 0, ⟨#[]⟩, ⟨#[]⟩⟩⟩
/-- A script that can be read. -/
def ArgS (W : World) (a : Option Addr) (l : List Stp) : Prop := StepsAt W a l ∧ SmallS l ∧ l.length ≤ 2513169434918
set_option maxRecDepth 100000 in
theorem open_steps {H : Type} {enc : TypeId × Value → H} {W : World} {fuel : Nat} {sa : Option Addr} {len cap : Nat} {d : DataW H} {p : List MemPlace}
    (h : DataW.trod enc Try.prog W 0 (fun _ => true) true fuel 22 [.slice sa len cap] = some (d, p)) : ∃ l : List Stp, len = l.length ∧ ((∀ n ∈ d.weights Try.prog 22, n ≤ reachBytes) → ArgS W sa l) := by
  rcases Go.Deep.open_slice Try.underlying22 h with ⟨hcs, hd⟩ | ⟨a, len', cap', m, n, D, Pl, hcs, _, hl, hm, hmm, hd, hx⟩
  · simp only [List.cons.injEq, Value.slice.injEq, and_true] at hcs
    obtain ⟨rfl, rfl, rfl⟩ := hcs
    exact ⟨[], rfl, fun _ => ⟨fun i o ho => by simp at ho, fun o ho => by simp at ho, by simp⟩⟩
  · simp only [List.cons.injEq, Value.slice.injEq, and_true] at hcs
    obtain ⟨rfl, rfl, rfl⟩ := hcs
    simp only [if_true] at hmm
    simp only [Prod.mk.injEq] at hd
    have each : ∀ i, i < len → ∃ o : Stp, (W.cell? (a.add (i * 5)) = some (.int .i64 o.kind) ∧ W.cell? (a.add (i * 5 + 1)) = some (.int .i64 o.ses) ∧ W.cell? (a.add (i * 5 + 2)) = some (.int .i64 o.gap) ∧ W.cell? (a.add (i * 5 + 3)) = some (.string o.key) ∧ W.cell? (a.add (i * 5 + 4)) = some (.string o.value)) ∧ o.key.size ≤ maxLen ∧ o.value.size ≤ maxLen := by
      intro i hi
      obtain ⟨cs', h1, h2⟩ := hx i (by omega)
      rw [Try.cellsO15] at h1
      obtain ⟨_, hlen, hcell⟩ := World.cells?_some h1
      obtain ⟨o, rfl, hs⟩ := step_of hlen h2
      have c0 := hcell 0 (by omega)
      have c1 := hcell 1 (by omega)
      have c2 := hcell 2 (by omega)
      have c3 := hcell 3 (by omega)
      have c4 := hcell 4 (by omega)
      rw [Go.Deep.add_add] at c0 c1 c2 c3 c4
      exact ⟨o, ⟨by simpa using c0, by simpa using c1, by simpa using c2, by simpa using c3, by simpa using c4⟩, hs⟩
    obtain ⟨q, hq⟩ := Go.Deep.choose_lt each
    obtain ⟨e1, e2⟩ := list_of len q
    refine ⟨(List.range len).map q, e1.symm, fun hw => ⟨fun i x hi => ?_, fun o ho => ?_, ?_⟩⟩
    · obtain ⟨hi', rfl⟩ := e2 i x hi
      obtain ⟨⟨h0, h1, h2, h3, h4⟩, -⟩ := hq i hi'
      obtain ⟨⟨h00, _⟩, _⟩ := hq 0 (by omega)
      obtain ⟨b, off, spot⟩ := a
      have hspot : spot = none := by simpa [Addr.add] using World.cell?_spot h00
      subst hspot
      rw [Go.WideShapes.add_plain] at h0 h1 h2 h3 h4
      exact ⟨b, off, rfl, World.block_lt_of_cell? W _ h0, h0, h1, h2, h3, h4⟩
    · obtain ⟨i, hi, rfl⟩ := List.mem_map.1 ho
      exact (hq i (List.mem_range.1 hi)).2
    · rw [e1]
      have := hw ((len + (m - len)) * 56) (by
        rw [hd.1]
        simp only [DataW.weights, Try.underlying22, Try.bytesO15, List.length_map, List.length_range]
        exact List.mem_cons_self)
      unfold reachBytes at this
      omega
end Go.Proofs.Ytmghmacgljihcaa

namespace Go.Proofs.Ytmghmacgljihcaa
open Go.ChangeShapes Go.WideShapes Go.ChangeAt Go.RowKit

/-- The same, and a list that is none has no room. -/
def ArgC (W : World) (a : Option Addr) (cap : Nat) (l : List Stp) : Prop := ArgS W a l ∧ (a = none → cap = 0)
theorem open_stepsC {H : Type} {enc : TypeId × Value → H} {W : World} {fuel : Nat} {sa : Option Addr} {len cap : Nat} {d : DataW H} {p : List MemPlace}
    (h : DataW.trod enc Try.prog W 0 (fun _ => true) true fuel 22 [.slice sa len cap] = some (d, p)) : ∃ l : List Stp, len = l.length ∧ ((∀ n ∈ d.weights Try.prog 22, n ≤ reachBytes) → ArgC W sa cap l) := by
  obtain ⟨l, h1, h2⟩ := open_steps h
  refine ⟨l, h1, fun hw => ⟨h2 hw, fun hn => ?_⟩⟩
  rcases Go.Deep.open_slice Try.underlying22 h with ⟨hcs, _⟩ | ⟨a, len', cap', m, n, D, Pl, hcs, _⟩
  · simp only [List.cons.injEq, Value.slice.injEq, and_true] at hcs
    exact hcs.2.2
  · simp only [List.cons.injEq, Value.slice.injEq, and_true] at hcs
    rw [hcs.1] at hn
    cases hn
end Go.Proofs.Ytmghmacgljihcaa
