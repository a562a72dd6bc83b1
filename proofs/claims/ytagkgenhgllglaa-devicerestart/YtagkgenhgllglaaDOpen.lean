/- What is proved: arguments that are lists of bytes, lists of faults or a Setup, and can be read, lie in memory as the walks ask it, within the bounds that a machine's memory sets; no condition. -/
import Derived.Test.YtagkgenhgllglaaDSet
import Derived.Deep.Slices
import Derived.Deep.SlicePairs
import Derived.SizedLaws
namespace Go.Proofs.Ytagkgenhgllglaa
open Go.ChangeShapes Go.WideShapes Go.ChangeAt Go.RowKit

instance : Inhabited Fl := ⟨⟨0, 0, 0, 0⟩⟩
theorem Try.cellsB : Try.prog.cellsOf 5 = 1 := by kernel_rfl
theorem Try.cellsF : Try.prog.cellsOf 41 = 4 := by kernel_rfl
theorem Try.cellsI : Try.prog.cellsOf 3 = 1 := by kernel_rfl
theorem Try.bytesB : Try.prog.bytesOf 5 = 1 := by kernel_rfl
theorem Try.bytesF : Try.prog.bytesOf 41 = 32 := by kernel_rfl

theorem list_of (n : Nat) {α : Type} (f : Nat → α) : ((List.range n).map f).length = n ∧ ∀ i x, ((List.range n).map f)[i]? = some x → i < n ∧ x = f i := by
  refine ⟨by simp, fun i x h => ?_⟩
  have hi := (List.getElem?_eq_some_iff.1 h).1
  simp at hi
  rw [List.getElem?_map, List.getElem?_range hi] at h
  simp at h
  exact ⟨hi, h.symm⟩

theorem open_bytes {H : Type} {enc : TypeId × Value → H} {W : World} {fuel : Nat} {sa : Option Addr} {len cap : Nat} {d : DataW H} {p : List MemPlace}
    (h : DataW.trod enc Try.prog W 0 (fun _ => true) true fuel 22 [.slice sa len cap] = some (d, p)) : ∃ l : List Int, len = l.length ∧ BytesAt W sa l ∧ (sa = none → l.length = 0 ∧ cap = 0) ∧ l.length ≤ cap ∧ ((∀ n ∈ d.weights Try.prog 22, n ≤ reachBytes) → l.length ≤ reachBytes) := by
  rcases Go.Deep.open_slice1 Try.underlying22 Try.cellsB h with ⟨hcs, hd⟩ | ⟨a, len', cap', m, n, V, D, Pl, hcs, _, hl, hm, hmm, hd, hx⟩
  · simp only [List.cons.injEq, Value.slice.injEq, and_true] at hcs
    obtain ⟨rfl, rfl, rfl⟩ := hcs
    exact ⟨[], rfl, BytesAt.nil _ _, fun _ => ⟨rfl, rfl⟩, Nat.le_refl _, fun _ => by simp⟩
  · simp only [List.cons.injEq, Value.slice.injEq, and_true] at hcs
    obtain ⟨rfl, rfl, rfl⟩ := hcs
    simp only [if_true] at hmm
    simp only [Prod.mk.injEq] at hd
    have each : ∀ i, i < len → ∃ x : Int, W.cell? (a.add i) = some (.int .u8 x) := by
      intro i hi
      obtain ⟨h1, h2⟩ := hx i (by omega)
      obtain ⟨x, e, _⟩ := DataW.trod_int Try.underlying5 h2
      simp only [List.cons.injEq, and_true] at e
      rw [e] at h1
      exact ⟨x, h1⟩
    obtain ⟨q, hq⟩ := Go.Deep.choose_lt each
    obtain ⟨e1, e2⟩ := list_of len q
    refine ⟨(List.range len).map q, e1.symm, fun i x hi => ?_, fun e => (by cases e), by rw [e1]; exact hl, fun hw => ?_⟩
    · obtain ⟨hi', rfl⟩ := e2 i x hi
      have h0 := hq i hi'
      have h00 := hq 0 (by omega)
      obtain ⟨b, off, spot⟩ := a
      have hspot : spot = none := by simpa [Addr.add] using World.cell?_spot h00
      subst hspot
      rw [Go.WideShapes.add_plain] at h0
      exact ⟨b, off, rfl, World.block_lt_of_cell? W _ h0, h0⟩
    · rw [e1]
      have := hw ((len + (m - len)) * 1) (by
        rw [hd.1]
        simp only [DataW.weights, Try.underlying22, Try.bytesB, List.length_map, List.length_range]
        exact List.mem_cons_self)
      omega
theorem open_faults {H : Type} {enc : TypeId × Value → H} {W : World} {fuel : Nat} {sa : Option Addr} {len cap : Nat} {d : DataW H} {p : List MemPlace}
    (h : DataW.trod enc Try.prog W 0 (fun _ => true) true fuel 23 [.slice sa len cap] = some (d, p)) : ∃ l : List Fl, len = l.length ∧ FaultsAt W sa l ∧ (sa = none → l.length = 0 ∧ cap = 0) ∧ ((∀ n ∈ d.weights Try.prog 23, n ≤ reachBytes) → l.length * 32 ≤ reachBytes) := by
  rcases Go.Deep.open_slice Try.underlying23 h with ⟨hcs, hd⟩ | ⟨a, len', cap', m, n, D, Pl, hcs, _, hl, hm, hmm, hd, hx⟩
  · simp only [List.cons.injEq, Value.slice.injEq, and_true] at hcs
    obtain ⟨rfl, rfl, rfl⟩ := hcs
    exact ⟨[], rfl, FaultsAt.nil _ _, fun _ => ⟨rfl, rfl⟩, fun _ => by simp⟩
  · simp only [List.cons.injEq, Value.slice.injEq, and_true] at hcs
    obtain ⟨rfl, rfl, rfl⟩ := hcs
    simp only [if_true] at hmm
    simp only [Prod.mk.injEq] at hd
    have each : ∀ i, i < len → ∃ f : Fl, W.cell? (a.add (i * 4)) = some (.int .i64 f.k) ∧ W.cell? (a.add (i * 4 + 1)) = some (.int .i64 f.b) ∧ W.cell? (a.add (i * 4 + 2)) = some (.int .i64 f.n) ∧ W.cell? (a.add (i * 4 + 3)) = some (.int .i64 f.p) := by
      intro i hi
      obtain ⟨cs', h1, h2⟩ := hx i (by omega)
      rw [Try.cellsF] at h1
      obtain ⟨_, hlen, hcell⟩ := World.cells?_some h1
      obtain ⟨xs, k, hk, hxy, _, hxl, hf⟩ := DataW.trod_struct Try.underlying41 h2
      match xs, hxl, cs', hlen with
      | [y0, y1, y2, y3], _, [v0, v1, v2, v3], _ =>
        have g0 := hf 0 _ rfl
        have g1 := hf 1 _ rfl
        have g2 := hf 2 _ rfl
        have g3 := hf 3 _ rfl
        simp [Try.cellsI] at g0 g1 g2 g3
        obtain ⟨n0, e0, _⟩ := DataW.trod_int Try.underlying3 g0
        obtain ⟨n1, e1, _⟩ := DataW.trod_int Try.underlying3 g1
        obtain ⟨n2, e2, _⟩ := DataW.trod_int Try.underlying3 g2
        obtain ⟨n3, e3, _⟩ := DataW.trod_int Try.underlying3 g3
        have c0 := hcell 0 (by omega)
        have c1 := hcell 1 (by omega)
        have c2 := hcell 2 (by omega)
        have c3 := hcell 3 (by omega)
        rw [Go.Deep.add_add] at c0 c1 c2 c3
        simp only [List.cons.injEq, and_true] at e0 e1 e2 e3
        subst e0 e1 e2 e3
        exact ⟨⟨n0, n1, n2, n3⟩, by simpa using c0, by simpa using c1, by simpa using c2, by simpa using c3⟩
    obtain ⟨q, hq⟩ := Go.Deep.choose_lt each
    obtain ⟨e1, e2⟩ := list_of len q
    refine ⟨(List.range len).map q, e1.symm, fun i x hi => ?_, fun e => (by cases e), fun hw => ?_⟩
    · obtain ⟨hi', rfl⟩ := e2 i x hi
      obtain ⟨h0, h1, h2, h3⟩ := hq i hi'
      obtain ⟨h00, _, _, _⟩ := hq 0 (by omega)
      obtain ⟨b, off, spot⟩ := a
      have hspot : spot = none := by simpa [Addr.add] using World.cell?_spot h00
      subst hspot
      rw [Go.WideShapes.add_plain] at h0 h1 h2 h3
      exact ⟨b, off, rfl, World.block_lt_of_cell? W _ h0, h0, h1, h2, h3⟩
    · rw [e1]
      have := hw ((len + (m - len)) * 32) (by
        rw [hd.1]
        simp only [DataW.weights, Try.underlying23, Try.bytesF, List.length_map, List.length_range]
        exact List.mem_cons_self)
      omega

theorem open_setup {H : Type} {enc : TypeId × Value → H} {W : World} {fuel : Nat} {cs : Array Value} {d : DataW H} {p : List MemPlace} (hsz : cs.size = Try.prog.cellsOf 25)
    (h : DataW.trod enc Try.prog W 0 (fun _ => true) true fuel 25 cs.toList = some (d, p)) : ∃ (B S : Int) (ia ga fa : Option Addr) (ic gc fc : Nat) (l lg : List Int) (F : List Fl), Value.agg cs = setupV B S ia ga fa l.length ic lg.length gc F.length fc ∧ I64 B ∧ I64 S ∧
      BytesAt W ia l ∧ (ia = none → l.length = 0 ∧ ic = 0) ∧ BytesAt W ga lg ∧ (ga = none → lg.length = 0 ∧ gc = 0) ∧ FaultsAt W fa F ∧ (fa = none → F.length = 0 ∧ fc = 0) ∧
      ((∀ n ∈ d.weights Try.prog 25, n ≤ reachBytes) → l.length ≤ reachBytes ∧ lg.length ≤ reachBytes ∧ F.length * 32 ≤ reachBytes) := by
  have cS : Try.prog.cellsOf 25 = 5 := by kernel_rfl
  have cB : Try.prog.cellsOf 22 = 1 := by kernel_rfl
  have cF : Try.prog.cellsOf 23 = 1 := by kernel_rfl
  rw [cS] at hsz
  obtain ⟨xs, k, hk, hxy, _, hxl, hf⟩ := DataW.trod_struct Try.underlying25 h
  obtain ⟨cl⟩ := cs
  match xs, hxl, cl, hsz with
  | [y0, y1, y2, y3, y4], _, [v0, v1, v2, v3, v4], _ =>
    have g0 := hf 0 _ rfl
    have g1 := hf 1 _ rfl
    have g2 := hf 2 _ rfl
    have g3 := hf 3 _ rfl
    have g4 := hf 4 _ rfl
    simp [Try.cellsI, cB, cF] at g0 g1 g2 g3 g4
    obtain ⟨n0, e0, _, w0⟩ := DataW.trod_int Try.underlying3 g0
    obtain ⟨n1, e1, _, w1⟩ := DataW.trod_int Try.underlying3 g1
    have sl : ∀ {t e : TypeId} {v : Value} {y : DataW H × List MemPlace}, Try.prog.underlying t = some (.slice e) → DataW.trod enc Try.prog W 0 (fun _ => true) true k t [v] = some y → ∃ a n c, v = .slice a n c := by
      intro t e v y hu hh
      rcases Go.Deep.open_slice hu hh with ⟨hcs, _⟩ | ⟨a, len', cap', m, n, D, Pl, hcs, _⟩
      · simp only [List.cons.injEq, and_true] at hcs; exact ⟨_, _, _, hcs⟩
      · simp only [List.cons.injEq, and_true] at hcs; exact ⟨_, _, _, hcs⟩
    obtain ⟨ia, ni, ic, rfl⟩ := sl Try.underlying22 g2
    obtain ⟨ga, ng, gc, rfl⟩ := sl Try.underlying22 g3
    obtain ⟨fa, nf, fc, rfl⟩ := sl Try.underlying23 g4
    obtain ⟨d2, p2⟩ := y2
    obtain ⟨d3, p3⟩ := y3
    obtain ⟨d4, p4⟩ := y4
    obtain ⟨l, rfl, r1, r2, _, r3⟩ := open_bytes g2
    obtain ⟨lg, rfl, s1, s2, _, s3⟩ := open_bytes g3
    obtain ⟨F, rfl, u1, u2, u3⟩ := open_faults g4
    simp only [List.cons.injEq, and_true] at e0 e1
    subst e0 e1
    simp only [Prod.mk.injEq] at hxy
    refine ⟨n0, n1, ia, ga, fa, ic, gc, fc, l, lg, F, rfl, w0, w1, r1, r2, s1, s2, u1, u2, fun hw => ?_⟩
    have hw' : ∀ n, n ∈ d2.weights Try.prog 22 ∨ n ∈ d3.weights Try.prog 22 ∨ n ∈ d4.weights Try.prog 23 → n ≤ reachBytes := fun n hn => hw n (by
      rw [hxy.1]
      simp only [DataW.weights, Try.underlying25, List.map_cons, List.map_nil, DataW.weightsEach, List.mem_append]
      simp
      rcases hn with hn | hn | hn <;> simp [hn])
    exact ⟨r3 fun n hn => hw' n (.inl hn), s3 fun n hn => hw' n (.inr (.inl hn)), u3 fun n hn => hw' n (.inr (.inr hn))⟩
end Go.Proofs.Ytagkgenhgllglaa
