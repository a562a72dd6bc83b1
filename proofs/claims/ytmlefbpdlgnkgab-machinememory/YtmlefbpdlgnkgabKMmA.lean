/- What is proved: plain facts on logs that grow, and on rows of one's own that are marked or grown by two; no condition but the machine's bounds. -/
import Derived.Test.YtmlefbpdlgnkgabKClL
import Derived.Test.YtmlefbpdlgnkgabKSam
import Derived.Test.YtmlefbpdlgnkgabKLgA
namespace Go.Proofs.Ytmlefbpdlgnkgab
open Go.RowKit

theorem do_log (M : Mm) (s : Stp) : ∃ r, (doM M s).1.log = M.log ++ r := by
  by_cases hc : codeD M s = 0
  · rw [do_ok hc]
    unfold goM
    split
    · exact ⟨[], (List.append_nil _).symm⟩
    · split
      · exact ⟨[], (List.append_nil _).symm⟩
      split
      · exact ⟨[], (List.append_nil _).symm⟩
      split
      · exact ⟨[], (List.append_nil _).symm⟩
      split
      · unfold comtM
        split <;> exact ⟨_, rfl⟩
      · exact ⟨_, rfl⟩
  · rw [do_no hc]
    exact ⟨[], (List.append_nil _).symm⟩
theorem em_more (n : Nat) (fl : Int) (l : List Stp) : ∃ r, (emM n fl l).log = (plM (newM n fl) l).log ++ r := by
  have h : ∀ q M, ∃ r, (abM M q).log = M.log ++ r := fun q => by
    induction q with
    | zero => exact fun M => ⟨[], (List.append_nil _).symm⟩
    | succ q ih =>
      intro M
      obtain ⟨r, h1⟩ := ih M
      obtain ⟨r', h2⟩ := do_log (abM M q) ⟨6, q, 0, e0, e0⟩
      exact ⟨r ++ r', h2.trans (by rw [h1, List.append_assoc])⟩
  exact h n _
theorem step_alike (kd se gp : Int) (k v : ByteArray) (w : World) : (binOp .neq 33 (.agg #[.int .i64 kd, .int .i64 se, .int .i64 gp, .string k, .string v]) (.agg #[.int .i64 kd, .int .i64 se, .int .i64 gp, .string k, .string v])).run Try.prog w = .ok (.bool false) w := by
  go_simp
theorem StepsAt.kept {S : Nat → Prop} {w w' : World} {a : Option Addr} {l : List Stp} (h : StepsAt w a l) (hs : Same S w w') (hd : ∀ b, b < w.heap.size → ¬ S b) : StepsAt w' a l := h.on (hs.mono fun k hk hS => hd k hk hS)
/-- A row of any contents. -/
def Shp (base : Nat) (w : World) (e : TypeId) (sz : Nat) (v : Value) (n : Nat) : Prop := ∃ xs, w.ownsRow base e sz v n xs
theorem Shp.set {base : Nat} {w : World} {e : TypeId} {sz : Nat} {v : Value} {n : Nat} (h : Shp base w e sz v n) (g o : Nat) (u : Value) : Shp base (w.setCell ⟨g, o, none⟩ u) e sz v n := by
  obtain ⟨xs, h⟩ := h
  have hs : Same (fun k => k = g) w (w.setCell ⟨g, o, none⟩ u) := Same.setCell (S := fun k => k = g) (Same.refl _ w) ⟨g, o, none⟩ (.inr rfl) u
  by_cases hg : v.ownBlock = some g
  · obtain ⟨a, cap, rfl, -, -, h4⟩ := row_shape h
    cases a with
    | none => cases hg
    | some ad =>
      obtain ⟨g', rfl, -⟩ := h4 ad rfl
      cases hg
      exact ⟨_, (World.ownsRow.stored h o u).1⟩
  · exact ⟨xs, row_kept h hs fun k hk e => hg (by rw [hk, e])⟩
theorem Shp.put4 {base : Nat} {w : World} {e : TypeId} {sz : Nat} {v : Value} {n : Nat} (h : Shp base w e sz v n) (g o : Nat) (a b c d : Value) : Shp base ((((w.setCell ⟨g, o, none⟩ a).setCell ⟨g, o + 1, none⟩ b).setCell ⟨g, o + 2, none⟩ c).setCell ⟨g, o + 3, none⟩ d) e sz v n := (((h.set g o a).set g (o + 1) b).set g (o + 2) c).set g (o + 3) d
theorem Shp.kept {S : Nat → Prop} {base : Nat} {w w' : World} {e : TypeId} {sz : Nat} {v : Value} {n : Nat} (h : Shp base w e sz v n) (hs : Same S w w') (hn : ∀ k, v.ownBlock = some k → ¬ S k) : Shp base w' e sz v n := by
  obtain ⟨xs, h⟩ := h
  exact ⟨xs, row_kept h hs hn⟩
theorem Shp.cells {base : Nat} {w : World} {e : TypeId} {sz n : Nat} {v : Value} (h : Shp base w e sz v n) (hn : 0 < n) : ∃ g cap, v = .slice (some ⟨g, 0, none⟩) n cap ∧ base ≤ g ∧ g < w.heap.size ∧ (∀ j, j < n * sz → ∃ u, w.cell? ⟨g, j, none⟩ = some u) ∧ ∀ o, w.frozen? ⟨g, o, none⟩ = false := by
  obtain ⟨xs, h⟩ := h
  obtain ⟨a, cap, rfl, -, h3, h4⟩ := row_shape h
  cases a with
  | none => have := (h3 rfl).1; omega
  | some ad =>
    obtain ⟨g, rfl, hb, hl⟩ := h4 ad rfl
    refine ⟨g, cap, rfl, hb, hl, fun j hj => ?_, fun o => ?_⟩
    · have h1 : j < xs.length := by rw [h.1]; exact hj
      obtain ⟨b, eb, -, -, hc⟩ := row_cell h (List.getElem?_eq_getElem h1)
      cases eb
      exact ⟨_, hc⟩
    · obtain ⟨-, cur, hc⟩ := row_block h (k := g) rfl
      exact frozen_of hc o
theorem same_put4 {w : World} {g : Nat} (o : Nat) (a b c d : Value) : Same (fun k => k = g) w ((((w.setCell ⟨g, o, none⟩ a).setCell ⟨g, o + 1, none⟩ b).setCell ⟨g, o + 2, none⟩ c).setCell ⟨g, o + 3, none⟩ d) :=
  Same.setCell (Same.setCell (Same.setCell (Same.setCell (S := fun k => k = g) (Same.refl _ w) ⟨g, o, none⟩ (.inr rfl) a) ⟨g, o + 1, none⟩ (.inr rfl) b) ⟨g, o + 2, none⟩ (.inr rfl) c) ⟨g, o + 3, none⟩ (.inr rfl) d
/-- Eight cells of a row are written. -/
def put8 (w : World) (g o : Nat) (a b c d e f h i : Value) : World := (((((((w.setCell ⟨g, o, none⟩ a).setCell ⟨g, o + 1, none⟩ b).setCell ⟨g, o + 2, none⟩ c).setCell ⟨g, o + 3, none⟩ d).setCell ⟨g, o + 4, none⟩ e).setCell ⟨g, o + 5, none⟩ f).setCell ⟨g, o + 6, none⟩ h).setCell ⟨g, o + 7, none⟩ i
theorem row_put8 {w : World} {base : Nat} {ty : TypeId} {sz g n cap : Nat} {xs : List Value} (hr : w.ownsRow base ty sz (.slice (some ⟨g, 0, none⟩) n cap) n xs) (o : Nat) (a b c d e f h i : Value) :
    ∃ ys, (put8 w g o a b c d e f h i).ownsRow base ty sz (.slice (some ⟨g, 0, none⟩) n cap) n ys ∧ ∀ q, o + 8 ≤ q → ys[q]? = xs[q]? := by
  refine ⟨_, (World.ownsRow.stored (World.ownsRow.stored (World.ownsRow.stored (World.ownsRow.stored (World.ownsRow.stored (World.ownsRow.stored (World.ownsRow.stored (World.ownsRow.stored hr o a).1 (o + 1) b).1 (o + 2) c).1 (o + 3) d).1 (o + 4) e).1 (o + 5) f).1 (o + 6) h).1 (o + 7) i).1, fun q hq => ?_⟩
  rw [List.getElem?_set_ne (by omega), List.getElem?_set_ne (by omega), List.getElem?_set_ne (by omega), List.getElem?_set_ne (by omega), List.getElem?_set_ne (by omega), List.getElem?_set_ne (by omega), List.getElem?_set_ne (by omega), List.getElem?_set_ne (by omega)]
theorem same_put8 {w : World} {g : Nat} (o : Nat) (a b c d e f h i : Value) : Same (fun k => k = g) w (put8 w g o a b c d e f h i) :=
  Same.setCell (Same.setCell (Same.setCell (Same.setCell (Same.setCell (Same.setCell (Same.setCell (Same.setCell (S := fun k => k = g) (Same.refl _ w) ⟨g, o, none⟩ (.inr rfl) a) ⟨g, o + 1, none⟩ (.inr rfl) b) ⟨g, o + 2, none⟩ (.inr rfl) c) ⟨g, o + 3, none⟩ (.inr rfl) d) ⟨g, o + 4, none⟩ (.inr rfl) e) ⟨g, o + 5, none⟩ (.inr rfl) f) ⟨g, o + 6, none⟩ (.inr rfl) h) ⟨g, o + 7, none⟩ (.inr rfl) i
theorem Shp.put8 {base : Nat} {w : World} {ty : TypeId} {sz : Nat} {v : Value} {n : Nat} (hs : Shp base w ty sz v n) (g o : Nat) (a b c d e f h i : Value) : Shp base (put8 w g o a b c d e f h i) ty sz v n := (((((((hs.set g o a).set g (o + 1) b).set g (o + 2) c).set g (o + 3) d).set g (o + 4) e).set g (o + 5) f).set g (o + 6) h).set g (o + 7) i
abbrev two51 : List Value := [.int .i64 51, .string ⟨#[]⟩, .bool false, .string ⟨#[]⟩, .int .i64 52, .string ⟨#[]⟩, .bool false, .string ⟨#[]⟩]
/-- Two operations more behind a row of one's own. -/
theorem app_two51 {w : World} {base : Nat} {v : Value} {n : Nat} (hown : Shp base w 50 4 v n) (hn : n ≤ 4096) (hbase : base ≤ w.heap.size) (ty : TypeId) :
    ∃ v' w', (Builtin.append_ #[39, 39] ty #[v, .slice (some ⟨w.heap.size, 0, none⟩) 2 2]).run Try.prog (w.alloc (.cells #[.int .i64 51, .string ⟨#[]⟩, .bool false, .string ⟨#[]⟩, .int .i64 52, .string ⟨#[]⟩, .bool false, .string ⟨#[]⟩] 50 (0, 0))) = .ok v' w' ∧ ∃ a c, v' = .slice a (n + 2) c ∧ Same (fun k => v.ownBlock = some k) w w' := by
  obtain ⟨xs, h⟩ := hown
  have k0 : Kept w (w.alloc (.cells #[.int .i64 51, .string ⟨#[]⟩, .bool false, .string ⟨#[]⟩, .int .i64 52, .string ⟨#[]⟩, .bool false, .string ⟨#[]⟩] 50 (0, 0))) := (Same.refl _ w).alloc _
  obtain ⟨v', w', hr, r1, r2, -, -⟩ := app_wide (P := Try.prog) (t := 39) (ty := ty) (c := 2) (m := 2) (a := ⟨w.heap.size, 0, none⟩) (news := two51) Try.underlying39 Try.infoOp rfl (by decide) (row_kept h k0 fun _ _ e => e) rfl
    (fun j u hu => by
      rw [add_at, Nat.zero_add, cell_of (heap_new w _)]
      simpa using hu) (fun u hu => by
      simp only [two51, List.mem_cons, List.not_mem_nil, or_false] at hu
      rcases hu with rfl | rfl | rfl | rfl | rfl | rfl | rfl | rfl <;> rfl) (by unfold maxLen; omega) (by omega) (by rw [World.size_alloc]; omega)
  obtain ⟨a, c, rfl, -⟩ := row_shape r1
  exact ⟨_, w', hr, a, c, rfl, (k0.to _).trans' r2⟩
end Go.Proofs.Ytmlefbpdlgnkgab
