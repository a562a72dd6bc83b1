/- What is proved: an argument that is a list of transactions, and can be read, lies in memory as the walks ask it, within the bounds that a machine's memory sets; no condition. -/
import Derived.Test.YtbjmdpfoeeadeaaROpenT
import Derived.Test.YtbjmdpfoeeadeaaLTxs
namespace Go.Proofs.Ytbjmdpfoeeadeaa
open Go.ChangeShapes Go.WideShapes Go.ChangeAt Go.RowKit

instance : Inhabited TxR := ⟨⟨(⟨0, 0, 0, 0, 0, 0, 0, []⟩ : TxM), none, 0⟩⟩
theorem Try.cellsT : Try.prog.cellsOf 24 = 8 := by kernel_rfl
theorem Try.bytesT : Try.prog.bytesOf 24 = 80 := by kernel_rfl
theorem mem_weightsAll {H : Type} {P : Program} {e : TypeId} {d : DataW H} {n : Nat} (hn : n ∈ d.weights P e) : ∀ {l : List (DataW H)}, d ∈ l → n ∈ DataW.weightsAll P e l
  | a :: r, h => by
    simp only [DataW.weightsAll, List.mem_append]
    rcases List.mem_cons.1 h with rfl | h
    · exact .inl hn
    · exact .inr (mem_weightsAll hn h)
/-- What is known of an argument that is a list of transactions. -/
structure ArgL (w : World) (a : Option Addr) (c : Nat) (l : List TxR) : Prop where
  txs : TxsAt w a l
  nil : a = none → l.length = 0 ∧ c = 0
  len : l.length * 80 ≤ reachBytes
  each : ∀ r ∈ l, ArgT w r.t r.a r.c
theorem ArgL.on {w w' : World} {a : Option Addr} {c : Nat} {l : List TxR} (h : ArgL w a c l) (k : Kept w w') : ArgL w' a c l := ⟨h.txs.on k, h.nil, h.len, fun r hr => (h.each r hr).on k⟩
theorem ArgL.deep {w : World} {a : Option Addr} {c : Nat} {l : List TxR} (h : ArgL w a c l) : Deep w l := fun r hr => (h.each r hr).ops
theorem ArgL.le {w : World} {a : Option Addr} {c : Nat} {l : List TxR} (h : ArgL w a c l) : l.length * 80 ≤ 140737488351232 := by
  have := h.len
  unfold reachBytes at this
  omega
theorem open_argL {H : Type} {enc : TypeId × Value → H} {W : World} {fuel : Nat} {sa : Option Addr} {len cap : Nat} {d : DataW H} {p : List MemPlace}
    (h : DataW.trod enc Try.prog W 0 (fun _ => true) true fuel 59 [.slice sa len cap] = some (d, p)) : ∃ l : List TxR, len = l.length ∧ ((∀ n ∈ d.weights Try.prog 59, n ≤ reachBytes) → ArgL W sa cap l) := by
  rcases Go.Deep.open_slice Try.underlying59 h with ⟨hcs, hd⟩ | ⟨a, len', cap', m, n, D, Pl, hcs, _, hl, hm, hmm, hd, hx⟩
  · simp only [List.cons.injEq, Value.slice.injEq, and_true] at hcs
    obtain ⟨rfl, rfl, rfl⟩ := hcs
    exact ⟨[], rfl, fun _ => ⟨TxsAt.nil _ _, fun _ => ⟨rfl, rfl⟩, by simp, fun r h => (by cases h)⟩⟩
  · simp only [List.cons.injEq, Value.slice.injEq, and_true] at hcs
    obtain ⟨rfl, rfl, rfl⟩ := hcs
    simp only [if_true] at hmm
    simp only [Prod.mk.injEq] at hd
    have each : ∀ i, i < len → ∃ r : TxR, (∀ j, j < 8 → W.cell? (a.add (i * 8 + j)) = r.cells[j]?) ∧ ((∀ n ∈ (D i).weights Try.prog 24, n ≤ reachBytes) → ArgT W r.t r.a r.c) := by
      intro i hi
      obtain ⟨cs', h1, h2⟩ := hx i (by omega)
      rw [Try.cellsT] at h1
      obtain ⟨_, hlen, hcell⟩ := World.cells?_some h1
      obtain ⟨t, ta, tc, e, hw⟩ := open_txn (cs := cs'.toArray) (by rw [Try.cellsT]; simpa using hlen) h2
      refine ⟨⟨t, ta, tc⟩, fun j hj => ?_, hw⟩
      have e2 : cs' = TxR.cells ⟨t, ta, tc⟩ := by
        have := congrArg (fun v => match v with | Value.agg x => x.toList | _ => []) e
        simpa [txV, TxR.cells] using this
      have c0 := hcell j (by omega)
      rw [Go.Deep.add_add] at c0
      rw [c0, ← e2]
    obtain ⟨q, hq⟩ := Go.Deep.choose_lt each
    obtain ⟨e1, e2⟩ := list_of len q
    refine ⟨(List.range len).map q, e1.symm, fun hw => ⟨fun i x hi => ?_, fun e => (by cases e), ?_, fun r hr => ?_⟩⟩
    · obtain ⟨hi', rfl⟩ := e2 i x hi
      obtain ⟨h0, -⟩ := hq i hi'
      have h00 := (hq 0 (by omega)).1 0 (by decide)
      obtain ⟨b, off, spot⟩ := a
      have hspot : spot = none := by
        have : (W.cell? ((⟨b, off, spot⟩ : Addr).add (0 * 8 + 0))).isSome = true := by rw [h00]; rfl
        obtain ⟨v, hv⟩ := Option.isSome_iff_exists.1 this
        simpa [Addr.add] using World.cell?_spot hv
      subst hspot
      have h1 := h0 0 (by decide)
      refine ⟨b, off, rfl, ?_, fun j hj => ?_⟩
      · have : (W.cell? ((⟨b, off, none⟩ : Addr).add (i * 8 + 0))).isSome = true := by rw [h1]; rfl
        obtain ⟨v, hv⟩ := Option.isSome_iff_exists.1 this
        rw [Go.WideShapes.add_plain] at hv
        exact World.block_lt_of_cell? W _ hv
      · have := h0 j hj
        rw [Go.WideShapes.add_plain] at this
        rw [Nat.add_assoc]
        exact this
    · rw [e1]
      have := hw ((len + (m - len)) * 80) (by
        rw [hd.1]
        simp only [DataW.weights, Try.underlying59, Try.bytesT, List.length_map, List.length_range]
        exact List.mem_cons_self)
      omega
    · obtain ⟨i, hi, rfl⟩ := List.mem_map.1 hr
      have hi' := List.mem_range.1 hi
      exact (hq i hi').2 fun n hn => hw n (by
        rw [hd.1]
        simp only [DataW.weights, Try.underlying59]
        exact List.mem_cons_of_mem _ (List.mem_append_left _ (mem_weightsAll hn (List.mem_map.2 ⟨i, hi, rfl⟩))))
end Go.Proofs.Ytbjmdpfoeeadeaa
