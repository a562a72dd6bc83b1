/- What is proved: lists of violations and of rows of one's own that are marked and grown; no condition. -/
import Derived.Test.YtbjmdpfoeeadeabJRrw
namespace Go.Proofs.Ytbjmdpfoeeadeab.Sw
open Go.RowKit

/-- A row of one's own, whatever it holds. -/
def Shp (base : Nat) (w : World) (e : TypeId) (sz : Nat) (v : Value) (n : Nat) : Prop := ∃ xs, w.ownsRow base e sz v n xs
theorem Shp.set {base : Nat} {w : World} {e : TypeId} {sz : Nat} {v : Value} {n : Nat} (h : Shp base w e sz v n) (g o : Nat) (u : Value) : Shp base (w.setCell ⟨g, o, none⟩ u) e sz v n := by
  obtain ⟨xs, h⟩ := h
  have hs : Same (fun k => k = g) w (w.setCell ⟨g, o, none⟩ u) := Same.setCell (S := fun k => k = g) (Same.refl _ w) ⟨g, o, none⟩ (.inr rfl) u
  by_cases hg : v.ownBlock = some g
  · obtain ⟨a, cap, rfl, -, -, h4⟩ := row_shape h
    cases a with
    | none => cases hg
    | some ad =>
      obtain ⟨g', rfl, -⟩ := h4 ad rfl
      cases hg
      exact ⟨_, (World.ownsRow.stored h o u).1⟩
  · exact ⟨xs, row_kept h hs fun k hk e => hg (by rw [hk, e])⟩
theorem Shp.kept {S : Nat → Prop} {base : Nat} {w w' : World} {e : TypeId} {sz : Nat} {v : Value} {n : Nat} (h : Shp base w e sz v n) (hs : Same S w w') (hn : ∀ k, v.ownBlock = some k → ¬ S k) : Shp base w' e sz v n := by
  obtain ⟨xs, h⟩ := h
  exact ⟨xs, row_kept h hs hn⟩
theorem Shp.cells {base : Nat} {w : World} {e : TypeId} {sz n : Nat} {v : Value} (h : Shp base w e sz v n) (hn : 0 < n) : ∃ g cap, v = .slice (some ⟨g, 0, none⟩) n cap ∧ base ≤ g ∧ g < w.heap.size ∧ (∀ j, j < n * sz → ∃ u, w.cell? ⟨g, j, none⟩ = some u) ∧ ∀ o, w.frozen? ⟨g, o, none⟩ = false := by
  obtain ⟨xs, h⟩ := h
  obtain ⟨a, cap, rfl, -, h3, h4⟩ := row_shape h
  cases a with
  | none => have := (h3 rfl).1; omega
  | some ad =>
    obtain ⟨g, rfl, hb, hl⟩ := h4 ad rfl
    refine ⟨g, cap, rfl, hb, hl, fun j hj => ?_, fun o => ?_⟩
    · have h1 : j < xs.length := by rw [h.1]; exact hj
      obtain ⟨b, eb, -, -, hc⟩ := row_cell h (List.getElem?_eq_getElem h1)
      cases eb
      exact ⟨_, hc⟩
    · obtain ⟨-, cur, hc⟩ := row_block h (k := g) rfl
      exact frozen_of hc o
def put12M (w : World) (g o : Nat) (v0 v1 v2 v3 v4 v5 v6 v7 v8 v9 v10 v11 : Value) : World := ((((((((((((w.setCell ⟨g, o, none⟩ v0).setCell ⟨g, o + 1, none⟩ v1).setCell ⟨g, o + 2, none⟩ v2).setCell ⟨g, o + 3, none⟩ v3).setCell ⟨g, o + 4, none⟩ v4).setCell ⟨g, o + 5, none⟩ v5).setCell ⟨g, o + 6, none⟩ v6).setCell ⟨g, o + 7, none⟩ v7).setCell ⟨g, o + 8, none⟩ v8).setCell ⟨g, o + 9, none⟩ v9).setCell ⟨g, o + 10, none⟩ v10).setCell ⟨g, o + 11, none⟩ v11)
theorem same12M (w : World) (g o : Nat) (v0 v1 v2 v3 v4 v5 v6 v7 v8 v9 v10 v11 : Value) : Same (fun k => k = g) w (put12M w g o v0 v1 v2 v3 v4 v5 v6 v7 v8 v9 v10 v11) := (((((((((((((Same.refl (fun k => k = g) w).setCell _ (.inr rfl) _).setCell _ (.inr rfl) _).setCell _ (.inr rfl) _).setCell _ (.inr rfl) _).setCell _ (.inr rfl) _).setCell _ (.inr rfl) _).setCell _ (.inr rfl) _).setCell _ (.inr rfl) _).setCell _ (.inr rfl) _).setCell _ (.inr rfl) _).setCell _ (.inr rfl) _).setCell _ (.inr rfl) _)
def put7M (w : World) (g o : Nat) (v0 v1 v2 v3 v4 v5 v6 : Value) : World := (((((((w.setCell ⟨g, o, none⟩ v0).setCell ⟨g, o + 1, none⟩ v1).setCell ⟨g, o + 2, none⟩ v2).setCell ⟨g, o + 3, none⟩ v3).setCell ⟨g, o + 4, none⟩ v4).setCell ⟨g, o + 5, none⟩ v5).setCell ⟨g, o + 6, none⟩ v6)
theorem same7M (w : World) (g o : Nat) (v0 v1 v2 v3 v4 v5 v6 : Value) : Same (fun k => k = g) w (put7M w g o v0 v1 v2 v3 v4 v5 v6) := ((((((((Same.refl (fun k => k = g) w).setCell _ (.inr rfl) _).setCell _ (.inr rfl) _).setCell _ (.inr rfl) _).setCell _ (.inr rfl) _).setCell _ (.inr rfl) _).setCell _ (.inr rfl) _).setCell _ (.inr rfl) _)
theorem Shp.put12M {base : Nat} {w : World} {e : TypeId} {sz : Nat} {v : Value} {n : Nat} (h : Shp base w e sz v n) (g o : Nat) (v0 v1 v2 v3 v4 v5 v6 v7 v8 v9 v10 v11 : Value) : Shp base (put12M w g o v0 v1 v2 v3 v4 v5 v6 v7 v8 v9 v10 v11) e sz v n := ((((((((((((h.set g o v0).set g (o + 1) v1).set g (o + 2) v2).set g (o + 3) v3).set g (o + 4) v4).set g (o + 5) v5).set g (o + 6) v6).set g (o + 7) v7).set g (o + 8) v8).set g (o + 9) v9).set g (o + 10) v10).set g (o + 11) v11)
theorem row_put7M {w : World} {base : Nat} {e : TypeId} {sz g n cap : Nat} {xs : List Value} (h : w.ownsRow base e sz (.slice (some ⟨g, 0, none⟩) n cap) n xs) (o : Nat) (v0 v1 v2 v3 v4 v5 v6 : Value) : (put7M w g o v0 v1 v2 v3 v4 v5 v6).ownsRow base e sz (.slice (some ⟨g, 0, none⟩) n cap) n (((((((xs.set o v0).set (o + 1) v1).set (o + 2) v2).set (o + 3) v3).set (o + 4) v4).set (o + 5) v5).set (o + 6) v6) := (World.ownsRow.stored (World.ownsRow.stored (World.ownsRow.stored (World.ownsRow.stored (World.ownsRow.stored (World.ownsRow.stored (World.ownsRow.stored h o v0).1 (o + 1) v1).1 (o + 2) v2).1 (o + 3) v3).1 (o + 4) v4).1 (o + 5) v5).1 (o + 6) v6).1
theorem set7_other {xs : List Value} {o i : Nat} (h : i < o) (v0 v1 v2 v3 v4 v5 v6 : Value) : ((((((((xs.set o v0).set (o + 1) v1).set (o + 2) v2).set (o + 3) v3).set (o + 4) v4).set (o + 5) v5).set (o + 6) v6))[i]? = xs[i]? := by
  rw [List.getElem?_set_ne (by omega), List.getElem?_set_ne (by omega), List.getElem?_set_ne (by omega), List.getElem?_set_ne (by omega), List.getElem?_set_ne (by omega), List.getElem?_set_ne (by omega), List.getElem?_set_ne (by omega)]
theorem set7_one {xs : List Value} {o : Nat} (h : o < xs.length) (v0 v1 v2 v3 v4 v5 v6 : Value) : ((((((((xs.set o v0).set (o + 1) v1).set (o + 2) v2).set (o + 3) v3).set (o + 4) v4).set (o + 5) v5).set (o + 6) v6))[o]? = some v0 := by
  rw [List.getElem?_set_ne (by omega), List.getElem?_set_ne (by omega), List.getElem?_set_ne (by omega), List.getElem?_set_ne (by omega), List.getElem?_set_ne (by omega), List.getElem?_set_ne (by omega), List.getElem?_set_self h]
/-- The first j of the rows are marked. -/
def Mkd (base : Nat) (w : World) (v : Value) (n j : Nat) : Prop := ∃ xs, w.ownsRow base 40 7 v n xs ∧ ∀ i, i < j → xs[i * 7]? = some (.int .i64 61)
theorem Mkd.kept {S : Nat → Prop} {base : Nat} {w w' : World} {v : Value} {n j : Nat} (h : Mkd base w v n j) (hs : Same S w w') (hn : ∀ k, v.ownBlock = some k → ¬ S k) : Mkd base w' v n j := by
  obtain ⟨xs, h, hm⟩ := h
  exact ⟨xs, row_kept h hs hn, hm⟩
theorem Mkd.put {base : Nat} {w : World} {g n cap j : Nat} (h : Mkd base w (.slice (some ⟨g, 0, none⟩) n cap) n j) (hj : j < n) (v1 v2 v3 v4 v5 v6 : Value) : Mkd base (put7M w g (j * 7) (.int .i64 61) v1 v2 v3 v4 v5 v6) (.slice (some ⟨g, 0, none⟩) n cap) n (j + 1) := by
  obtain ⟨xs, h, hm⟩ := h
  refine ⟨_, row_put7M h (j * 7) (.int .i64 61) v1 v2 v3 v4 v5 v6, fun i hi => ?_⟩
  by_cases e : i = j
  · subst e
    exact set7_one (by rw [h.1]; omega) ..
  · rw [set7_other (by omega)]
    exact hm i (by omega)
abbrev z62 : Vl := ⟨62, 0, 0, 0, 0, ⟨#[]⟩, false, ⟨#[]⟩, false, ⟨#[]⟩, 0, 0⟩
abbrev two62 : List Value := vlc [z62, z62]
abbrev r63 : Rw.RwM := ⟨63, 0, 0, 0, 0, 0, ⟨#[]⟩⟩
abbrev two63 : List Value := Rw.rwc [r63, r63]
abbrev o62 : Obj := .cells #[.int .i64 62, .int .i64 0, .int .i64 0, .int .i64 0, .int .i64 0, .string ⟨#[]⟩, .bool false, .string ⟨#[]⟩, .bool false, .string ⟨#[]⟩, .int .i64 0, .int .i64 0, .int .i64 62, .int .i64 0, .int .i64 0, .int .i64 0, .int .i64 0, .string ⟨#[]⟩, .bool false, .string ⟨#[]⟩, .bool false, .string ⟨#[]⟩, .int .i64 0, .int .i64 0] 38 (0, 0)
abbrev o63 : Obj := .cells #[.int .i64 63, .int .i64 0, .int .i64 0, .int .i64 0, .int .i64 0, .int .i64 0, .string ⟨#[]⟩, .int .i64 63, .int .i64 0, .int .i64 0, .int .i64 0, .int .i64 0, .int .i64 0, .string ⟨#[]⟩] 40 (0, 0)
/-- Two violations more behind a row of one's own. -/
theorem app_two62 {w : World} {base : Nat} {v : Value} {n : Nat} (hown : Shp base w 38 12 v n) (hn : n ≤ 4096) (hbase : base ≤ w.heap.size) (ty : TypeId) :
    ∃ v' w', (Builtin.append_ #[28, 28] ty #[v, .slice (some ⟨w.heap.size, 0, none⟩) 2 2]).run Try.prog (w.alloc o62) = .ok v' w' ∧ (∃ xs, xs.length = n * 12 ∧ w'.ownsRow base 38 12 v' (n + 2) (xs ++ two62)) ∧ Same (fun k => v.ownBlock = some k) w w' := by
  obtain ⟨xs, h⟩ := hown
  have k0 : Kept w (w.alloc o62) := (Same.refl _ w).alloc _
  obtain ⟨v', w', hr, r1, r2, -, -⟩ := Ch.app_wide (P := Try.prog) (t := 28) (ty := ty) (c := 2) (m := 2) (a := ⟨w.heap.size, 0, none⟩) (news := two62) Try.underlying28 Try.infoViol rfl (by decide) (row_kept h k0 fun _ _ e => e) (length_vlc _)
    (fun j u hu => by
      rw [add_at, Nat.zero_add, cell_of (heap_new w o62)]
      simpa [vlc] using hu) (vlc_one _) (by unfold maxLen; omega) (by omega) (by rw [World.size_alloc]; omega)
  exact ⟨v', w', hr, ⟨xs, h.1, r1⟩, (k0.to _).trans' r2⟩
/-- Two rows more behind a row of one's own. -/
theorem app_two63 {w : World} {base : Nat} {v : Value} {n j : Nat} (hown : Mkd base w v n j) (hn : n ≤ 4096) (hbase : base ≤ w.heap.size) (ty : TypeId) :
    ∃ v' w', (Builtin.append_ #[32, 32] ty #[v, .slice (some ⟨w.heap.size, 0, none⟩) 2 2]).run Try.prog (w.alloc o63) = .ok v' w' ∧ (∃ xs, xs.length = n * 7 ∧ (∀ i, i < j → xs[i * 7]? = some (.int .i64 61)) ∧ w'.ownsRow base 40 7 v' (n + 2) (xs ++ two63)) ∧ Same (fun k => v.ownBlock = some k) w w' := by
  obtain ⟨xs, h, hm⟩ := hown
  have k0 : Kept w (w.alloc o63) := (Same.refl _ w).alloc _
  obtain ⟨v', w', hr, r1, r2, -, -⟩ := Ch.app_wide (P := Try.prog) (t := 32) (ty := ty) (c := 2) (m := 2) (a := ⟨w.heap.size, 0, none⟩) (news := two63) Try.underlying32 Rw.Try.infoRow rfl (by decide) (row_kept h k0 fun _ _ e => e) (Rw.length_rwc _)
    (fun j u hu => by
      rw [add_at, Nat.zero_add, cell_of (heap_new w o63)]
      simpa [Rw.rwc, Rw.rc1] using hu) (Rw.rwc_one _) (by unfold maxLen; omega) (by omega) (by rw [World.size_alloc]; omega)
  exact ⟨v', w', hr, ⟨xs, h.1, hm, r1⟩, (k0.to _).trans' r2⟩
end Go.Proofs.Ytbjmdpfoeeadeab.Sw
