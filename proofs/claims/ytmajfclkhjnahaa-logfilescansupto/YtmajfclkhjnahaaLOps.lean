/- What is proved: an argument that is a list of steps of small bulk lies in memory as the walks ask it; no condition but the bulk's. -/
import Derived.Test.YtmajfclkhjnahaaLOpenU
namespace Go.Proofs.Ytmajfclkhjnahaa
open Go.ChangeShapes Go.WideShapes Go.ChangeAt Go.RowKit

structure Op7 where
  kind : Int
  da : Option Addr
  dc : Nat
  d : List Int
instance : Inhabited Op7 := ⟨⟨0, none, 0, []⟩⟩
/-- The steps l lie in w from address a on. -/
def Ops7At (w : World) (a : Option Addr) (l : List Op7) : Prop :=
  ∀ i o, l[i]? = some o → ∃ b off, a = some ⟨b, off, none⟩ ∧ b < w.heap.size ∧ w.cell? ⟨b, off + i * 2, none⟩ = some (.int .i64 o.kind) ∧ w.cell? ⟨b, off + i * 2 + 1, none⟩ = some (.slice o.da o.d.length o.dc) ∧ ArgB w o.da o.dc o.d
/-- The bytes of the steps. -/
def fed7 (l : List Op7) : Nat := (l.map fun o => o.d.length).sum
theorem Try.cellsO7 : Try.prog.cellsOf 31 = 2 := by kernel_rfl
theorem Try.cellsI7 : Try.prog.cellsOf 3 = 1 := by kernel_rfl
theorem Try.cellsBs7 : Try.prog.cellsOf 27 = 1 := by kernel_rfl
theorem bulk_mem {H : Type} {x : DataW H} : ∀ {l : List (DataW H)}, x ∈ l → Rows.uptoBulk x ≤ Rows.uptoBulkAll l
  | a :: r, h => by
    simp only [Rows.uptoBulkAll]
    rcases List.mem_cons.1 h with rfl | h
    · omega
    · have := bulk_mem h
      omega
theorem bulk_sum {H : Type} (D : Nat → DataW H) (f : Nat → Nat) : ∀ (l : List Nat), (∀ i ∈ l, f i + 1 ≤ Rows.uptoBulk (D i)) → (l.map f).sum + l.length ≤ Rows.uptoBulkAll (l.map D)
  | [], _ => by simp
  | a :: r, h => by
    have h1 := h a List.mem_cons_self
    have h2 := bulk_sum D f r fun i hi => h i (List.mem_cons_of_mem _ hi)
    simp only [List.map_cons, List.sum_cons, List.length_cons, Rows.uptoBulkAll]
    omega
set_option maxRecDepth 100000 in
theorem open_ops7 {H : Type} {enc : TypeId × Value → H} {W : World} {fuel : Nat} {sa : Option Addr} {len cap : Nat} {d : DataW H} {p : List MemPlace}
    (h : DataW.trod enc Try.prog W 0 (fun _ => true) true fuel 22 [.slice sa len cap] = some (d, p)) : ∃ l : List Op7, len = l.length ∧ (Rows.uptoBulk d ≤ 1048576 → Ops7At W sa l) ∧ fed7 l + l.length ≤ Rows.uptoBulk d := by
  rcases Go.Deep.open_slice Try.underlying22 h with ⟨hcs, hd⟩ | ⟨a, len', cap', m, n, D, Pl, hcs, _, hl, hm, hmm, hd, hx⟩
  · simp only [List.cons.injEq, Value.slice.injEq, and_true] at hcs
    obtain ⟨rfl, rfl, rfl⟩ := hcs
    exact ⟨[], rfl, fun _ i o ho => by simp at ho, by simp [fed7]⟩
  · simp only [List.cons.injEq, Value.slice.injEq, and_true] at hcs
    obtain ⟨rfl, rfl, rfl⟩ := hcs
    simp only [if_true] at hmm
    simp only [Prod.mk.injEq] at hd
    have each : ∀ i, i < len → ∃ o : Op7, W.cell? (a.add (i * 2)) = some (.int .i64 o.kind) ∧ W.cell? (a.add (i * 2 + 1)) = some (.slice o.da o.d.length o.dc) ∧
        (Rows.uptoBulk (D i) ≤ 1048576 → ArgB W o.da o.dc o.d) ∧ o.d.length + 1 ≤ Rows.uptoBulk (D i) := by
      intro i hi
      obtain ⟨cs', h1, h2⟩ := hx i (by omega)
      rw [Try.cellsO7] at h1
      obtain ⟨_, hlen, hcell⟩ := World.cells?_some h1
      obtain ⟨xs, k, hk, hxy, _, hxl, hf⟩ := DataW.trod_struct Try.underlying31 h2
      match xs, hxl, cs', hlen with
      | [(d1, p1), (d2, p2)], _, [v0, v2], _ =>
        have g0 := hf 0 _ rfl
        have g2 := hf 1 _ rfl
        simp [Try.cellsI7, Try.cellsBs7] at g0 g2
        obtain ⟨n0, e0, _⟩ := DataW.trod_int Try.underlying3 g0
        obtain ⟨da, nd, dc, rfl⟩ : ∃ a n c, v2 = .slice a n c := by
          rcases Go.Deep.open_slice Try.underlying27 g2 with ⟨hcs, _⟩ | ⟨a, len', cap', m, n, D, Pl, hcs, _⟩
          · simp only [List.cons.injEq, and_true] at hcs; exact ⟨_, _, _, hcs⟩
          · simp only [List.cons.injEq, and_true] at hcs; exact ⟨_, _, _, hcs⟩
        obtain ⟨l, rfl, r1, r2⟩ := open_argU g2
        have c0 := hcell 0 (by omega)
        have c2 := hcell 1 (by omega)
        rw [Go.Deep.add_add] at c0 c2
        simp only [List.cons.injEq, and_true] at e0
        subst e0
        simp only [Prod.mk.injEq] at hxy
        have hbk : Rows.uptoBulk d2 + 1 ≤ Rows.uptoBulk (D i) := by
          rw [hxy.1]
          simp only [Rows.uptoBulk, Rows.uptoBulkAll, List.map_cons, List.map_nil]
          omega
        exact ⟨⟨n0, da, dc, l⟩, by simpa using c0, by simpa using c2, fun hb => r1 (by omega), by show l.length + 1 ≤ _; omega⟩
    obtain ⟨q, hq⟩ := Go.Deep.choose_lt each
    obtain ⟨e1, e2⟩ := list_of len q
    have hsum := bulk_sum D (fun i => (q i).d.length) (List.range len) (fun i hi => (hq i (List.mem_range.1 hi)).2.2.2)
    have hbk : Rows.uptoBulkAll ((List.range len).map D) + 1 ≤ Rows.uptoBulk d := by
      rw [hd.1]
      simp only [Rows.uptoBulk]
      omega
    refine ⟨(List.range len).map q, e1.symm, fun hb i o hi => ?_, ?_⟩
    · obtain ⟨hi', rfl⟩ := e2 i o hi
      obtain ⟨h0, h1, h2, h3⟩ := hq i hi'
      obtain ⟨h00, _⟩ := hq 0 (by omega)
      have hm1 := bulk_mem (x := D i) (l := (List.range len).map D) (List.mem_map.2 ⟨i, List.mem_range.2 hi', rfl⟩)
      obtain ⟨b, off, spot⟩ := a
      have hspot : spot = none := by simpa [Addr.add] using World.cell?_spot h00
      subst hspot
      rw [Go.WideShapes.add_plain] at h0 h1
      exact ⟨b, off, rfl, World.block_lt_of_cell? W _ h0, h0, h1, h2 (by omega)⟩
    · rw [e1]
      unfold fed7
      rw [List.map_map]
      simp only [List.length_range] at hsum
      have : (List.map ((fun o : Op7 => o.d.length) ∘ q) (List.range len)).sum = (List.map (fun i => (q i).d.length) (List.range len)).sum := rfl
      omega
end Go.Proofs.Ytmajfclkhjnahaa
