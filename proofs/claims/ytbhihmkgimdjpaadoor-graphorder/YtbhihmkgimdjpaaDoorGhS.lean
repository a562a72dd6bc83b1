/- What is proved: the order of edges, and lists of edges, of numbers and of words in memory; no condition. -/
import Derived.Test.YtbhihmkgimdjpaaDoorGhM
import Derived.Test.YtbhihmkgimdjpaaDoorVRow
namespace Go.Proofs.YtbhihmkgimdjpaaDoor
open Go.RowKit

/-- The order of edges. -/
def ltE (a b : Eg) : Bool := decide (a.f < b.f) || (decide (a.f = b.f) && (decide (a.t < b.t) || (decide (a.t = b.t) && decide (a.l < b.l))))
theorem ltE_iff {a b : Eg} : ltE a b = true ↔ a.f < b.f ∨ (a.f = b.f ∧ (a.t < b.t ∨ (a.t = b.t ∧ a.l < b.l))) := by simp [ltE]
theorem ltE_not {a b : Eg} : ltE a b = false ↔ ¬ (a.f < b.f ∨ (a.f = b.f ∧ (a.t < b.t ∨ (a.t = b.t ∧ a.l < b.l)))) := by rw [← ltE_iff]; simp
theorem ltE_irr (a : Eg) : ltE a a = false := by rw [ltE_not]; omega
theorem ltE_asym {a b : Eg} (h : ltE a b = true) : ltE b a = false := by rw [ltE_iff] at h; rw [ltE_not]; omega
theorem ltE_ntr {a b c : Eg} (h : ltE a b = false) (k : ltE b c = false) : ltE a c = false := by rw [ltE_not] at *; omega
theorem ltE_trans {a b c : Eg} (h : ltE a b = true) (k : ltE b c = true) : ltE a c = true := by rw [ltE_iff] at *; omega
theorem ltE_tot {a b : Eg} (h : ltE a b = false) (k : ltE b a = false) : a = b := by
  rw [ltE_not] at *
  obtain ⟨f, t, l⟩ := a
  obtain ⟨f', t', l'⟩ := b
  simp only at h k
  obtain rfl : f = f' := by omega
  obtain rfl : t = t' := by omega
  obtain rfl : l = l' := by omega
  rfl
theorem ltE_swo : SWO ltE := ⟨ltE_asym, ltE_ntr⟩
/-- A list in order is the sort of what it holds. -/
theorem srt_of {l E : List Eg} (hp : l.Perm E) (hw : l.Pairwise fun a b => ltE b a = false) : l = srt ltE E := by
  refine List.Perm.eq_of_pairwise (le := fun a b => ltE b a = false) (fun a b _ _ h1 h2 => ltE_tot h2 h1) hw (srt_pw ltE_swo E) (hp.trans (srt_perm ltE E).symm)
instance : Inhabited Eg := ⟨⟨0, 0, 0⟩⟩
abbrev eg1 (x : Eg) : List Value := [.int .i64 x.f, .int .i64 x.t, .int .i64 x.l]
abbrev egV (x : Eg) : Value := .agg #[.int .i64 x.f, .int .i64 x.t, .int .i64 x.l]
abbrev egO (x : Eg) : Obj := .cells #[.int .i64 x.f, .int .i64 x.t, .int .i64 x.l] 33 (0, 0)
theorem ekE : Ek eg1 3 := ⟨fun _ => rfl, fun x v hv => by
  simp only [List.mem_cons, List.not_mem_nil, or_false] at hv
  rcases hv with rfl | rfl | rfl <;> rfl, by decide⟩
theorem Tryd.infoEdg : (Tryd.prog.info? 33).map (fun i => (i.zero, i.size, i.bytes)) = some (some (.agg #[.int .i64 0, .int .i64 0, .int .i64 0]), 3, 24) := by kernel_rfl
abbrev OwnE (base : Nat) (w : World) (v : Value) (l : List Eg) : Prop := Own eg1 3 33 base w v l
abbrev i1 (x : Int) : List Value := [.int .i64 x]
theorem ekI : Ek i1 1 := ⟨fun _ => rfl, fun x v hv => by
  simp only [List.mem_cons, List.not_mem_nil, or_false] at hv
  subst hv; rfl, by decide⟩
theorem Tryd.infoInt : (Tryd.prog.info? 3).map (fun i => (i.zero, i.size, i.bytes)) = some (some (.int .i64 0), 1, 8) := by kernel_rfl
abbrev OwnI (base : Nat) (w : World) (v : Value) (l : List Int) : Prop := Own i1 1 3 base w v l
abbrev u1 (x : Nat) : List Value := [.int .u64 x]
theorem ekU : Ek u1 1 := ⟨fun _ => rfl, fun x v hv => by
  simp only [List.mem_cons, List.not_mem_nil, or_false] at hv
  subst hv; rfl, by decide⟩
theorem Tryd.infoU64 : (Tryd.prog.info? 93).map (fun i => (i.zero, i.size, i.bytes)) = some (some (.int .u64 0), 1, 8) := by kernel_rfl
abbrev OwnW (base : Nat) (w : World) (v : Value) (l : List Nat) : Prop := Own u1 1 93 base w v l
end Go.Proofs.YtbhihmkgimdjpaaDoor
