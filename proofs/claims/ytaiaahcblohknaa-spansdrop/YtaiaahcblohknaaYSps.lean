/- What is proved: a list of spans of small bulk that can be read lies in memory as the walks ask it, how many overlap when one more is there, and that none ends before the first; no condition but the bulk's. -/
import Derived.Test.YtaiaahcblohknaaYFst
import Derived.Test.YtaiaahcblohknaaYRem
import Derived.Test.YtaiaahcblohknaaYOpen
namespace Go.Proofs.Ytaiaahcblohknaa
open Go.ChangeShapes Go.WideShapes Go.ChangeAt Go.RowKit

/-- The spans l lie in w from address a on. -/
def SpsAt (w : World) (a : Option Addr) (l : List Sp) : Prop :=
  ∀ i x, l[i]? = some x → ∃ b off, a = some ⟨b, off, none⟩ ∧ b < w.heap.size ∧ w.cell? ⟨b, off + i * 3, none⟩ = some (.int .i64 x.f) ∧ w.cell? ⟨b, off + i * 3 + 1, none⟩ = some (.int .i64 x.t) ∧ w.cell? ⟨b, off + i * 3 + 2, none⟩ = some (.int .i64 x.i)
theorem SpsAt.on {w w' : World} {a : Option Addr} {l : List Sp} (h : SpsAt w a l) (k : Kept w w') : SpsAt w' a l := fun i x hx => by
  obtain ⟨b, off, rfl, hb, c0, c1, c2⟩ := h i x hx
  have hk : ∀ o, w'.cell? ⟨b, o, none⟩ = w.cell? ⟨b, o, none⟩ := fun o => k.cell (p := ⟨b, o, none⟩) hb (fun e => e)
  exact ⟨b, off, rfl, Nat.lt_of_lt_of_le hb k.size, (hk _).trans c0, (hk _).trans c1, (hk _).trans c2⟩
theorem filter_putL (p : Sp → Bool) (l : List Sp) (x : Sp) : ((putL l x).filter p).length = (l.filter p).length + (if p x = true then 1 else 0) := by
  induction l with
  | nil =>
    simp only [putL, List.filter_cons, List.filter_nil]
    split <;> rfl
  | cons a r ih =>
    simp only [putL]
    split
    · rw [List.filter_cons (x := x)]
      split
      · rfl
      · rfl
    · rw [List.filter_cons (x := a), List.filter_cons (x := a)]
      split
      · rw [List.length_cons, List.length_cons, ih]; omega
      · exact ih
theorem ov_put {A : List Ks} (hw : Wks A) (k : ByteArray) (x : Sp) (fm tl : Int) : (ovK (rput A ⟨k, x⟩) k fm tl).length = (ovK A k fm tl).length + (if ovl fm tl x = true then 1 else 0) := by
  unfold ovK
  rw [rput_same hw rfl]
  exact filter_putL _ _ _
theorem bst_min {l : List Sp} {b : Sp} (h : bst l = some b) : ∀ y ∈ l, fl y b = false := by
  induction l generalizing b with
  | nil => cases h
  | cons a r ih =>
    have h' : bet (some a) (bst r) = some b := h
    intro y hy
    cases hr : bst r with
    | none =>
      rw [hr] at h'
      simp only [bet, Option.some.injEq] at h'
      subst h'
      rw [bst_none hr] at hy
      obtain rfl : y = a := by simpa using hy
      simp [fl]
    | some c =>
      rw [hr] at h'
      simp only [bet] at h'
      have h9 := ih hr
      split at h'
      · rename_i hc
        simp only [Option.some.injEq] at h'
        subst h'
        rcases List.mem_cons.1 hy with rfl | hy
        · simp only [fl, decide_eq_true_eq, decide_eq_false_iff_not] at hc ⊢
          omega
        · exact h9 y hy
      · rename_i hc
        simp only [Option.some.injEq] at h'
        subst h'
        rcases List.mem_cons.1 hy with rfl | hy
        · simp [fl]
        · have h8 := h9 y hy
          simp only [fl, decide_eq_true_eq, decide_eq_false_iff_not] at hc h8 ⊢
          omega
theorem bulk_one {H : Type} (d : DataW H) : 1 ≤ Rows.uptoBulk d := by
  cases d with
  | lit l => cases l <;> simp [Rows.uptoBulk]
  | nil => simp [Rows.uptoBulk]
  | ptr d => simp [Rows.uptoBulk]
  | slice elems spare => simp [Rows.uptoBulk]
  | agg parts => simp [Rows.uptoBulk]
  | iface t d => simp [Rows.uptoBulk]
  | map entries => simp [Rows.uptoBulk]
  | held h => simp [Rows.uptoBulk]
theorem bulk_len {H : Type} (l : List (DataW H)) : l.length ≤ Rows.uptoBulkAll l := by
  induction l with
  | nil => simp [Rows.uptoBulkAll]
  | cons x r ih => have := bulk_one x; simp only [Rows.uptoBulkAll, List.length_cons]; omega
theorem listS {α : Type} (n : Nat) (q : Nat → α) : ((List.range n).map q).length = n ∧ ∀ i x, ((List.range n).map q)[i]? = some x → i < n ∧ x = q i := by
  refine ⟨by simp, fun i x h => ?_⟩
  have hi := (List.getElem?_eq_some_iff.1 h).1
  simp only [List.length_map, List.length_range] at hi
  rw [List.getElem?_map, List.getElem?_range hi] at h
  simp only [Option.map_some, Option.some.injEq] at h
  exact ⟨hi, h.symm⟩
set_option maxRecDepth 100000 in
theorem open_sps {H : Type} {enc : TypeId × Value → H} {W : World} {fuel : Nat} {sa : Option Addr} {len cap : Nat} {d : DataW H} {p : List MemPlace}
    (h : DataW.trod enc Try.prog W 0 (fun _ => true) true fuel 36 [.slice sa len cap] = some (d, p)) : ∃ l : List Sp, len = l.length ∧ (Rows.uptoBulk d ≤ 1048576 → SpsAt W sa l ∧ l.length ≤ 1048576) ∧ l.length ≤ Rows.uptoBulk d := by
  rcases Go.Deep.open_slice Try.underlying36 h with ⟨hcs, hd⟩ | ⟨a, len', cap', m, n, D, Pl, hcs, _, hl, hm, hmm, hd, hx⟩
  · simp only [List.cons.injEq, Value.slice.injEq, and_true] at hcs
    obtain ⟨rfl, rfl, rfl⟩ := hcs
    exact ⟨[], rfl, fun _ => ⟨fun i o ho => by simp at ho, by simp⟩, Nat.zero_le _⟩
  · simp only [List.cons.injEq, Value.slice.injEq, and_true] at hcs
    obtain ⟨rfl, rfl, rfl⟩ := hcs
    simp only [if_true] at hmm
    simp only [Prod.mk.injEq] at hd
    have each : ∀ i, i < len → ∃ o : Sp, W.cell? (a.add (i * 3)) = some (.int .i64 o.f) ∧ W.cell? (a.add (i * 3 + 1)) = some (.int .i64 o.t) ∧ W.cell? (a.add (i * 3 + 2)) = some (.int .i64 o.i) := by
      intro i hi
      obtain ⟨cs', h1, h2⟩ := hx i (by omega)
      rw [Try.cellsSp] at h1
      obtain ⟨_, hlen, hcell⟩ := World.cells?_some h1
      obtain ⟨o, rfl⟩ := span_of hlen h2
      have c0 := hcell 0 (by omega)
      have c1 := hcell 1 (by omega)
      have c2 := hcell 2 (by omega)
      rw [Go.Deep.add_add] at c0 c1 c2
      exact ⟨o, by simpa using c0, by simpa using c1, by simpa using c2⟩
    haveI : Inhabited Sp := ⟨⟨0, 0, 0⟩⟩
    obtain ⟨q, hq⟩ := Go.Deep.choose_lt each
    obtain ⟨e1, e2⟩ := listS len q
    have hbk : len ≤ Rows.uptoBulk d := by
      rw [hd.1]
      simp only [Rows.uptoBulk]
      have := bulk_len ((List.range len).map D)
      simp only [List.length_map, List.length_range] at this
      omega
    refine ⟨(List.range len).map q, e1.symm, fun hw => ⟨fun i x hi => ?_, by rw [e1]; omega⟩, by rw [e1]; exact hbk⟩
    obtain ⟨hi', rfl⟩ := e2 i x hi
    obtain ⟨h0, h1, h2⟩ := hq i hi'
    obtain ⟨h00, _⟩ := hq 0 (by omega)
    obtain ⟨b, off, spot⟩ := a
    have hspot : spot = none := by simpa [Addr.add] using World.cell?_spot h00
    subst hspot
    rw [Go.WideShapes.add_plain] at h0 h1 h2
    exact ⟨b, off, rfl, World.block_lt_of_cell? W _ h0, h0, h1, h2⟩
end Go.Proofs.Ytaiaahcblohknaa
