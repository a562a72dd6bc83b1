/- What is proved: an argument that is a list of steps and can be read lies in memory as the walks ask it, within the bounds that a machine's memory sets; no condition. -/
import Derived.Test.YtagkgenhgllglaaDOpen
import Derived.Test.YtagkgenhgllglaaDRvO
namespace Go.Proofs.Ytagkgenhgllglaa
open Go.ChangeShapes Go.WideShapes Go.ChangeAt Go.RowKit

instance : Inhabited St := ⟨⟨0, 0, none, 0, []⟩⟩
theorem Try.cellsO : Try.prog.cellsOf 55 = 3 := by kernel_rfl
theorem Try.bytesO : Try.prog.bytesOf 55 = 40 := by kernel_rfl
theorem Try.cellsBs : Try.prog.cellsOf 22 = 1 := by kernel_rfl

theorem mem_weightsAll {H : Type} {P : Program} {e : TypeId} {d : DataW H} {n : Nat} (hn : n ∈ d.weights P e) : ∀ {l : List (DataW H)}, d ∈ l → n ∈ DataW.weightsAll P e l
  | a :: r, h => by
    simp only [DataW.weightsAll, List.mem_append]
    rcases List.mem_cons.1 h with rfl | h
    · exact .inl hn
    · exact .inr (mem_weightsAll hn h)

theorem open_steps {H : Type} {enc : TypeId × Value → H} {W : World} {fuel : Nat} {sa : Option Addr} {len cap : Nat} {d : DataW H} {p : List MemPlace}
    (h : DataW.trod enc Try.prog W 0 (fun _ => true) true fuel 26 [.slice sa len cap] = some (d, p)) : ∃ ls : List St, len = ls.length ∧ ((∀ n ∈ d.weights Try.prog 26, n ≤ reachBytes) → StepsAt W sa ls ∧ ls.length * 40 ≤ reachBytes) := by
  rcases Go.Deep.open_slice Try.underlying26 h with ⟨hcs, hd⟩ | ⟨a, len', cap', m, n, D, Pl, hcs, _, hl, hm, hmm, hd, hx⟩
  · simp only [List.cons.injEq, Value.slice.injEq, and_true] at hcs
    obtain ⟨rfl, rfl, rfl⟩ := hcs
    exact ⟨[], rfl, fun _ => ⟨fun i o ho => by simp at ho, by simp⟩⟩
  · simp only [List.cons.injEq, Value.slice.injEq, and_true] at hcs
    obtain ⟨rfl, rfl, rfl⟩ := hcs
    simp only [if_true] at hmm
    simp only [Prod.mk.injEq] at hd
    have each : ∀ i, i < len → ∃ o : St, W.cell? (a.add (i * 3)) = some (.int .i64 o.k) ∧ W.cell? (a.add (i * 3 + 1)) = some (.int .i64 o.at') ∧ W.cell? (a.add (i * 3 + 2)) = some (.slice o.da o.d.length o.dc) ∧
        BytesAt W o.da o.d ∧ (o.da = none → o.d.length = 0 ∧ o.dc = 0) ∧ ((∀ n ∈ (D i).weights Try.prog 55, n ≤ reachBytes) → o.d.length ≤ reachBytes) := by
      intro i hi
      obtain ⟨cs', h1, h2⟩ := hx i (by omega)
      rw [Try.cellsO] at h1
      obtain ⟨_, hlen, hcell⟩ := World.cells?_some h1
      obtain ⟨xs, k, hk, hxy, _, hxl, hf⟩ := DataW.trod_struct Try.underlying55 h2
      match xs, hxl, cs', hlen with
      | [y0, y1, (d2, p2)], _, [v0, v1, v2], _ =>
        have g0 := hf 0 _ rfl
        have g1 := hf 1 _ rfl
        have g2 := hf 2 _ rfl
        simp [Try.cellsI, Try.cellsBs] at g0 g1 g2
        obtain ⟨n0, e0, _⟩ := DataW.trod_int Try.underlying3 g0
        obtain ⟨n1, e1, _⟩ := DataW.trod_int Try.underlying3 g1
        obtain ⟨da, nd, dc, rfl⟩ : ∃ a n c, v2 = .slice a n c := by
          rcases Go.Deep.open_slice Try.underlying22 g2 with ⟨hcs, _⟩ | ⟨a, len', cap', m, n, D, Pl, hcs, _⟩
          · simp only [List.cons.injEq, and_true] at hcs; exact ⟨_, _, _, hcs⟩
          · simp only [List.cons.injEq, and_true] at hcs; exact ⟨_, _, _, hcs⟩
        obtain ⟨l, rfl, r1, r2, _, r3⟩ := open_bytes g2
        have c0 := hcell 0 (by omega)
        have c1 := hcell 1 (by omega)
        have c2 := hcell 2 (by omega)
        rw [Go.Deep.add_add] at c0 c1 c2
        simp only [List.cons.injEq, and_true] at e0 e1
        subst e0 e1
        simp only [Prod.mk.injEq] at hxy
        refine ⟨⟨n0, n1, da, dc, l⟩, by simpa using c0, by simpa using c1, by simpa using c2, r1, r2, fun hw => r3 fun n hn => hw n ?_⟩
        rw [hxy.1]
        simp only [DataW.weights, Try.underlying55, List.map_cons, List.map_nil, DataW.weightsEach, List.mem_append]
        simp [hn]
    obtain ⟨q, hq⟩ := Go.Deep.choose_lt each
    obtain ⟨e1, e2⟩ := list_of len q
    refine ⟨(List.range len).map q, e1.symm, fun hw => ⟨fun i o hi => ?_, ?_⟩⟩
    · obtain ⟨hi', rfl⟩ := e2 i o hi
      obtain ⟨h0, h1, h2, h3, h4, h5⟩ := hq i hi'
      obtain ⟨h00, _⟩ := hq 0 (by omega)
      obtain ⟨b, off, spot⟩ := a
      have hspot : spot = none := by simpa [Addr.add] using World.cell?_spot h00
      subst hspot
      rw [Go.WideShapes.add_plain] at h0 h1 h2
      have hbound := h5 fun n hn => hw n (by
        rw [hd.1]
        simp only [DataW.weights, Try.underlying26]
        exact List.mem_cons_of_mem _ (List.mem_append_left _ (mem_weightsAll hn (List.mem_map.2 ⟨i, List.mem_range.2 hi', rfl⟩))))
      have hreach : reachBytes ≤ 140737488355328 := by decide
      exact ⟨b, off, rfl, World.block_lt_of_cell? W _ h0, h0, h1, h2, h3, h4, Nat.le_trans hbound hreach⟩
    · rw [e1]
      have := hw ((len + (m - len)) * 40) (by
        rw [hd.1]
        simp only [DataW.weights, Try.underlying26, Try.bytesO, List.length_map, List.length_range]
        exact List.mem_cons_self)
      omega
end Go.Proofs.Ytagkgenhgllglaa
