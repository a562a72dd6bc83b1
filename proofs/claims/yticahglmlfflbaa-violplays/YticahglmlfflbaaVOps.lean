/- What is proved: an argument that is a list of steps, and can be read, lies in memory as the walks ask it, within the bounds that a machine's memory sets; no condition. -/
import Derived.Test.YticahglmlfflbaaVOpen
namespace Go.Proofs.Yticahglmlfflbaa
open Go.ChangeShapes Go.WideShapes Go.ChangeAt Go.RowKit

structure OpV where
  kind : Int
  v : Vl
  deriving Inhabited
abbrev ov1 (x : OpV) : List Value := [.int .i64 x.kind, .int .i64 x.v.kd, .int .i64 x.v.tm, .int .i64 x.v.tx, .int .i64 x.v.op, .int .i64 x.v.wi, .string x.v.key, .bool x.v.wa, .string x.v.ex, .bool x.v.go, .string x.v.ob, .int .i64 x.v.fr, .int .i64 x.v.tt]
theorem Try.cellsO18 : Try.prog.cellsOf 32 = 13 := by kernel_rfl
theorem Try.bytesO18 : Try.prog.bytesOf 32 = 128 := by kernel_rfl
set_option maxRecDepth 100000 in
theorem opv_of {H : Type} {enc : TypeId × Value → H} {W : World} {fuel : Nat} {cl : List Value} {d : DataW H} {p : List MemPlace} (hsz : cl.length = 13)
    (h : DataW.trod enc Try.prog W 0 (fun _ => true) true fuel 32 cl = some (d, p)) : ∃ o : OpV, cl = ov1 o := by
  obtain ⟨xs, k, hk, hxy, _, hxl, hf⟩ := DataW.trod_struct Try.underlying32 h
  match xs, hxl, cl, hsz with
  | [y0, y1], _, [v0, v1, v2, v3, v4, v5, v6, v7, v8, v9, v10, v11, v12], _ =>
    have g0 := hf 0 _ rfl
    have g1 := hf 1 _ rfl
    simp [Try.cellsI, Try.cellsV] at g0 g1
    obtain ⟨n0, e0, _⟩ := DataW.trod_int Try.underlying3 g0
    obtain ⟨r, e1⟩ := viol_of rfl g1
    simp only [List.cons.injEq, and_true] at e0 e1
    obtain ⟨rfl, rfl, rfl, rfl, rfl, rfl, rfl, rfl, rfl, rfl, rfl, rfl⟩ := e1
    subst e0
    exact ⟨⟨n0, r⟩, rfl⟩
set_option maxRecDepth 100000 in
theorem open_ops {H : Type} {enc : TypeId × Value → H} {W : World} {fuel : Nat} {sa : Option Addr} {len cap : Nat} {d : DataW H} {p : List MemPlace}
    (h : DataW.trod enc Try.prog W 0 (fun _ => true) true fuel 22 [.slice sa len cap] = some (d, p)) : ∃ l : List OpV, len = l.length ∧ ((∀ n ∈ d.weights Try.prog 22, n ≤ reachBytes) → At ov1 13 W sa l ∧ l.length ≤ 1099511627776) := by
  rcases Go.Deep.open_slice Try.underlying22 h with ⟨hcs, hd⟩ | ⟨a, len', cap', m, n, D, Pl, hcs, _, hl, hm, hmm, hd, hx⟩
  · simp only [List.cons.injEq, Value.slice.injEq, and_true] at hcs
    obtain ⟨rfl, rfl, rfl⟩ := hcs
    exact ⟨[], rfl, fun _ => ⟨At.nil _ _ _ _, by simp⟩⟩
  · simp only [List.cons.injEq, Value.slice.injEq, and_true] at hcs
    obtain ⟨rfl, rfl, rfl⟩ := hcs
    simp only [if_true] at hmm
    simp only [Prod.mk.injEq] at hd
    have each : ∀ i, i < len → ∃ r : OpV, ∀ c v, (ov1 r)[c]? = some v → W.cell? (a.add (i * 13 + c)) = some v := by
      intro i hi
      obtain ⟨cs', h1, h2⟩ := hx i (by omega)
      rw [Try.cellsO18] at h1
      obtain ⟨_, hlen, hcell⟩ := World.cells?_some h1
      obtain ⟨r, rfl⟩ := opv_of hlen h2
      refine ⟨r, fun c v hv => ?_⟩
      have hc : c < 13 := by have := (List.getElem?_eq_some_iff.1 hv).1; rwa [hlen] at this
      have c0 := hcell c hc
      rw [Go.Deep.add_add] at c0
      rw [c0]
      exact hv
    obtain ⟨q, hq⟩ := Go.Deep.choose_lt each
    obtain ⟨e1, e2⟩ := list_of len q
    refine ⟨(List.range len).map q, e1.symm, fun hw => ⟨fun i x hi => ?_, ?_⟩⟩
    · obtain ⟨hi', rfl⟩ := e2 i x hi
      have h0 := hq i hi'
      have h00 := hq 0 (by omega) 0 _ rfl
      obtain ⟨b, off, spot⟩ := a
      have hspot : spot = none := by simpa [Addr.add] using World.cell?_spot h00
      subst hspot
      simp only [Go.WideShapes.add_plain, ← Nat.add_assoc] at h0
      exact ⟨b, off, rfl, World.block_lt_of_cell? W _ (h0 0 _ rfl), h0⟩
    · rw [e1]
      have := hw ((len + (m - len)) * 128) (by
        rw [hd.1]
        simp only [DataW.weights, Try.underlying22, Try.bytesO18, List.length_map, List.length_range]
        exact List.mem_cons_self)
      unfold reachBytes at this
      omega
end Go.Proofs.Yticahglmlfflbaa
