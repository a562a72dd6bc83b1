/- What is proved: plain facts: a log that was fed whole is read one by one; rows of one's own that are marked or grown by two; no condition but the machine's bounds. -/
import Derived.Test.YtflemfohnpjeaaaLOneL
import Derived.Test.YtflemfohnpjeaaaLSame
import Derived.Test.YtflemfohnpjeaaaLChk
namespace Go.Proofs.Ytflemfohnpjeaaa
open Go.RowKit

/-- Where a reading stands when j transactions of a log were read. -/
def RdAt (ts : List TxM) (j : Nat) (s : Sc) : Prop := (j = 0 ∧ s = sc0) ∨ (s.er = 0 ∧ s.pl ≠ 0 ∧ s.ft = false ∧ s.ct = j ∧ (log7 ts).drop s.pl = ents (ts.drop j) ++ 0 :: form ts.length)
theorem next_one {d : List Int} {en : Bool} {ts : List TxM} {j : Nat} {t : TxM} {s : Sc} {e : List Int} (hr : ∀ t ∈ ts, Right t) (hl : ts.length ≤ 4096) (ht : ts[j]? = some t) (h1 : s.er = 0) (h2 : s.pl ≠ 0) (h3 : s.ft = false) (h4 : s.ct = j) (hd : d.drop s.pl = ents (ts.drop j) ++ e) :
    ∃ s', next7 d en s = (some t, s') ∧ s'.er = 0 ∧ s'.pl ≠ 0 ∧ s'.ft = false ∧ s'.ct = j + 1 ∧ d.drop s'.pl = ents (ts.drop (j + 1)) ++ e := by
  have hj := (List.getElem?_eq_some_iff.1 ht).1
  have hdj : ts.drop j = t :: ts.drop (j + 1) := by
    rw [List.drop_eq_getElem_cons hj]
    congr 1
    exact (List.getElem?_eq_some_iff.1 ht).2
  have hd' : d.drop s.pl = form (body t).length ++ (body t ++ (ents (ts.drop (j + 1)) ++ e)) := by
    rw [hd, hdj]
    simp [ents]
  refine ⟨⟨s.pl + ((form (body t).length).length + (body t).length), s.ct + 1, s.ft, s.er⟩, ?_, h1, by show s.pl + _ ≠ 0; omega, h3, by show s.ct + 1 = j + 1; rw [h4], ?_⟩
  · rw [next_go h1 h2, go_entry h3, entry_body (hr t (List.mem_of_getElem? ht)) (by omega) hd']
  · show d.drop (s.pl + ((form (body t).length).length + (body t).length)) = _
    rw [← List.drop_drop, hd', ← List.append_assoc, show (form (body t).length).length + (body t).length = (form (body t).length ++ body t).length by simp, drop_self_append]
theorem next_log {en : Bool} {ts : List TxM} {j : Nat} {t : TxM} {s : Sc} (hr : ∀ t ∈ ts, Right t) (hl : ts.length ≤ 4096) (ht : ts[j]? = some t) (h : RdAt ts j s) : ∃ s', next7 (log7 ts) en s = (some t, s') ∧ s'.er = 0 ∧ RdAt ts (j + 1) s' := by
  rcases h with ⟨rfl, rfl⟩ | ⟨h1, h2, h3, h4, h5⟩
  · rw [next_start (by rw [log7]; exact mg_head _)]
    obtain ⟨s', a1, a2, a3, a4, a5, a6⟩ := next_one (d := log7 ts) (en := en) (s := ⟨4, 0, false, 0⟩) (e := 0 :: form ts.length) hr hl ht rfl (by simp) rfl rfl (by simp [log7, head4])
    exact ⟨s', a1, a2, .inr ⟨a2, a3, a4, a5, a6⟩⟩
  · obtain ⟨s', a1, a2, a3, a4, a5, a6⟩ := next_one (d := log7 ts) (en := en) hr hl ht h1 h2 h3 h4 h5
    exact ⟨s', a1, a2, .inr ⟨a2, a3, a4, a5, a6⟩⟩
theorem back_dec {base : Nat} {w : World} {v : Value} {ts : List TxM} (o : OwnB base w v (log7 ts)) (hr : ∀ t ∈ ts, Right t) (hl : ts.length ≤ 4096) : Calls Try.prog 9 #[v] w fun x w' => ∃ v l, l.map TxR.t = ts ∧ x = .returned (.tuple #[v, .int .i64 0, .int .i64 0]) ∧ Lst w.heap.size w' v l ∧ Kept w w' :=
  dec7_own_ok o (byts_log ts) (by have := (log_len hr hl).1; omega) (dec7_log hr hl)
/-- SameList of a list of one's own and an argument. -/
theorem same_arg {base : Nat} {w : World} {v : Value} {m l : List TxR} {oa : Option Addr} {c : Nat} (h : Lst base w v m) (k : ArgL w oa c l) (he : m.map TxR.t = l.map TxR.t) (hr : ∀ t ∈ l.map TxR.t, Right t) : Calls Try.prog 8 #[v, .slice oa l.length c] w fun e w' => e = .returned (.bool true) ∧ Kept w w' := by
  obtain ⟨a, cap, rfl, hd, -⟩ := OwnT.txs h.row
  have hlen : m.length = l.length := by have := congrArg List.length he; simpa using this
  have hle := k.le
  exact sameL w a oa cap c m l hd k.txs h.deep k.deep he (by omega) (fun t ht => by
    rw [he] at ht
    have := (hr t ht).2.1
    omega)
/-- Rows of one's own. -/
theorem rw_kept {S : Nat → Prop} {base : Nat} {w w' : World} {e : TypeId} {n m : Nat} {v : Value} {l : List Value} (h : w.ownsRow base e n v m l) (hs : Same S w w') (hn : ∀ k, v.ownBlock = some k → ¬ S k) : w'.ownsRow base e n v m l := by
  rcases h.2 with ⟨rfl, h0⟩ | ⟨g, cap, cur, rfl, hb, hg, hr⟩
  · exact ⟨h.1, .inl ⟨rfl, h0⟩⟩
  · exact ⟨h.1, .inr ⟨g, cap, cur, rfl, hb, (hs.block _ (lt_of_heap hg) (hn g rfl)).trans hg, hr⟩⟩
theorem rw_block {base : Nat} {w : World} {e : TypeId} {n m : Nat} {v : Value} {l : List Value} (h : w.ownsRow base e n v m l) {k : Nat} (hk : v.ownBlock = some k) : base ≤ k ∧ ∃ cur, w.heap[k]? = some (.cells cur e (0, 0)) := by
  rcases h.2 with ⟨rfl, h0⟩ | ⟨g, cap, cur, rfl, hb, hg, hr⟩
  · cases hk
  · cases hk
    exact ⟨hb, _, hg⟩
theorem rw_shape {base : Nat} {w : World} {e : TypeId} {n m : Nat} {v : Value} {l : List Value} (h : w.ownsRow base e n v m l) : ∃ a cap, v = .slice a m cap ∧ m ≤ cap ∧ (a = none → m = 0 ∧ cap = 0) ∧ (∀ ad, a = some ad → ∃ g, ad = ⟨g, 0, none⟩ ∧ base ≤ g ∧ g < w.heap.size) := by
  rcases h.2 with ⟨rfl, hn⟩ | ⟨g, cap, cur, rfl, hb, hg, h1, h2, h3, h4⟩
  · subst hn
    exact ⟨none, 0, rfl, Nat.le_refl _, fun _ => ⟨rfl, rfl⟩, fun _ e => (by cases e)⟩
  · exact ⟨_, cap, rfl, h1, fun e => (by cases e), fun ad e => (by cases e; exact ⟨g, rfl, hb, lt_of_heap hg⟩)⟩
theorem rw_cell {base : Nat} {w : World} {e : TypeId} {n m : Nat} {a : Option Addr} {m' cap : Nat} {l : List Value} (h : w.ownsRow base e n (.slice a m' cap) m l) {j : Nat} {u : Value} (hu : l[j]? = some u) : ∃ b, a = some ⟨b, 0, none⟩ ∧ base ≤ b ∧ b < w.heap.size ∧ w.cell? ⟨b, j, none⟩ = some u := by
  rcases h.2 with ⟨e0, hn⟩ | ⟨g, cap', cur, e0, hb, hg, h1, h2, h3, h4⟩
  · have := h.1
    rw [hn, Nat.zero_mul] at this
    rw [List.eq_nil_of_length_eq_zero this] at hu
    cases hu
  · cases e0
    refine ⟨g, rfl, hb, lt_of_heap hg, ?_⟩
    have hj := (List.getElem?_eq_some_iff.1 hu).1
    rw [cell_of hg]
    have : (cur.toList.take (m * n))[j]? = some u := by rw [h4]; exact hu
    rw [List.getElem?_take_of_lt (by rw [← h.1]; exact hj)] at this
    simpa using this
theorem ty_ne {w : World} {b : Nat} {c c' : Array Value} {t t' : TypeId} (h : w.heap[b]? = some (.cells c t (0, 0))) (h' : w.heap[b]? = some (.cells c' t' (0, 0))) (hn : t ≠ t') : False := by
  rw [h] at h'
  simp only [Option.some.injEq, Obj.cells.injEq] at h'
  exact hn h'.2.1
/-- A row of any contents. -/
def Shp (base : Nat) (w : World) (e : TypeId) (sz : Nat) (v : Value) (n : Nat) : Prop := ∃ xs, w.ownsRow base e sz v n xs
theorem Shp.set {base : Nat} {w : World} {e : TypeId} {sz : Nat} {v : Value} {n : Nat} (h : Shp base w e sz v n) (g o : Nat) (u : Value) : Shp base (w.setCell ⟨g, o, none⟩ u) e sz v n := by
  obtain ⟨xs, h⟩ := h
  have hs : Same (fun k => k = g) w (w.setCell ⟨g, o, none⟩ u) := Same.setCell (S := fun k => k = g) (Same.refl _ w) ⟨g, o, none⟩ (.inr rfl) u
  by_cases hg : v.ownBlock = some g
  · obtain ⟨a, cap, rfl, -, -, h4⟩ := rw_shape h
    cases a with
    | none => cases hg
    | some ad =>
      obtain ⟨g', rfl, -⟩ := h4 ad rfl
      cases hg
      exact ⟨_, (World.ownsRow.stored h o u).1⟩
  · exact ⟨xs, rw_kept h hs fun k hk e => hg (by rw [hk, e])⟩
theorem Shp.put4 {base : Nat} {w : World} {e : TypeId} {sz : Nat} {v : Value} {n : Nat} (h : Shp base w e sz v n) (g o : Nat) (a b c d : Value) : Shp base ((((w.setCell ⟨g, o, none⟩ a).setCell ⟨g, o + 1, none⟩ b).setCell ⟨g, o + 2, none⟩ c).setCell ⟨g, o + 3, none⟩ d) e sz v n := (((h.set g o a).set g (o + 1) b).set g (o + 2) c).set g (o + 3) d
theorem Shp.kept {S : Nat → Prop} {base : Nat} {w w' : World} {e : TypeId} {sz : Nat} {v : Value} {n : Nat} (h : Shp base w e sz v n) (hs : Same S w w') (hn : ∀ k, v.ownBlock = some k → ¬ S k) : Shp base w' e sz v n := by
  obtain ⟨xs, h⟩ := h
  exact ⟨xs, rw_kept h hs hn⟩
theorem Shp.cells {base : Nat} {w : World} {e : TypeId} {sz n : Nat} {v : Value} (h : Shp base w e sz v n) (hn : 0 < n) : ∃ g cap, v = .slice (some ⟨g, 0, none⟩) n cap ∧ base ≤ g ∧ g < w.heap.size ∧ (∀ j, j < n * sz → ∃ u, w.cell? ⟨g, j, none⟩ = some u) ∧ ∀ o, w.frozen? ⟨g, o, none⟩ = false := by
  obtain ⟨xs, h⟩ := h
  obtain ⟨a, cap, rfl, -, h3, h4⟩ := rw_shape h
  cases a with
  | none => have := (h3 rfl).1; omega
  | some ad =>
    obtain ⟨g, rfl, hb, hl⟩ := h4 ad rfl
    refine ⟨g, cap, rfl, hb, hl, fun j hj => ?_, fun o => ?_⟩
    · have h1 : j < xs.length := by rw [h.1]; exact hj
      obtain ⟨b, eb, -, -, hc⟩ := rw_cell h (List.getElem?_eq_getElem h1)
      cases eb
      exact ⟨_, hc⟩
    · obtain ⟨-, cur, hc⟩ := rw_block h (k := g) rfl
      exact frozen_of hc o
theorem same_at4 {w : World} {g : Nat} (o : Nat) (a b c d : Value) : Same (fun k => k = g) w ((((w.setCell ⟨g, o, none⟩ a).setCell ⟨g, o + 1, none⟩ b).setCell ⟨g, o + 2, none⟩ c).setCell ⟨g, o + 3, none⟩ d) :=
  Same.setCell (Same.setCell (Same.setCell (Same.setCell (S := fun k => k = g) (Same.refl _ w) ⟨g, o, none⟩ (.inr rfl) a) ⟨g, o + 1, none⟩ (.inr rfl) b) ⟨g, o + 2, none⟩ (.inr rfl) c) ⟨g, o + 3, none⟩ (.inr rfl) d
/-- Eight cells of a row are written. -/
def at8 (w : World) (g o : Nat) (a b c d e f h i : Value) : World := (((((((w.setCell ⟨g, o, none⟩ a).setCell ⟨g, o + 1, none⟩ b).setCell ⟨g, o + 2, none⟩ c).setCell ⟨g, o + 3, none⟩ d).setCell ⟨g, o + 4, none⟩ e).setCell ⟨g, o + 5, none⟩ f).setCell ⟨g, o + 6, none⟩ h).setCell ⟨g, o + 7, none⟩ i
theorem row_at8 {w : World} {base : Nat} {ty : TypeId} {sz g n cap : Nat} {xs : List Value} (hr : w.ownsRow base ty sz (.slice (some ⟨g, 0, none⟩) n cap) n xs) (o : Nat) (a b c d e f h i : Value) :
    ∃ ys, (at8 w g o a b c d e f h i).ownsRow base ty sz (.slice (some ⟨g, 0, none⟩) n cap) n ys ∧ ∀ q, o + 8 ≤ q → ys[q]? = xs[q]? := by
  refine ⟨_, (World.ownsRow.stored (World.ownsRow.stored (World.ownsRow.stored (World.ownsRow.stored (World.ownsRow.stored (World.ownsRow.stored (World.ownsRow.stored (World.ownsRow.stored hr o a).1 (o + 1) b).1 (o + 2) c).1 (o + 3) d).1 (o + 4) e).1 (o + 5) f).1 (o + 6) h).1 (o + 7) i).1, fun q hq => ?_⟩
  rw [List.getElem?_set_ne (by omega), List.getElem?_set_ne (by omega), List.getElem?_set_ne (by omega), List.getElem?_set_ne (by omega), List.getElem?_set_ne (by omega), List.getElem?_set_ne (by omega), List.getElem?_set_ne (by omega), List.getElem?_set_ne (by omega)]
theorem same_at8 {w : World} {g : Nat} (o : Nat) (a b c d e f h i : Value) : Same (fun k => k = g) w (at8 w g o a b c d e f h i) :=
  Same.setCell (Same.setCell (Same.setCell (Same.setCell (Same.setCell (Same.setCell (Same.setCell (Same.setCell (S := fun k => k = g) (Same.refl _ w) ⟨g, o, none⟩ (.inr rfl) a) ⟨g, o + 1, none⟩ (.inr rfl) b) ⟨g, o + 2, none⟩ (.inr rfl) c) ⟨g, o + 3, none⟩ (.inr rfl) d) ⟨g, o + 4, none⟩ (.inr rfl) e) ⟨g, o + 5, none⟩ (.inr rfl) f) ⟨g, o + 6, none⟩ (.inr rfl) h) ⟨g, o + 7, none⟩ (.inr rfl) i
theorem Shp.at8 {base : Nat} {w : World} {ty : TypeId} {sz : Nat} {v : Value} {n : Nat} (hs : Shp base w ty sz v n) (g o : Nat) (a b c d e f h i : Value) : Shp base (at8 w g o a b c d e f h i) ty sz v n := (((((((hs.set g o a).set g (o + 1) b).set g (o + 2) c).set g (o + 3) d).set g (o + 4) e).set g (o + 5) f).set g (o + 6) h).set g (o + 7) i
abbrev two76 : List Value := [.int .i64 76, .string ⟨#[]⟩, .bool false, .string ⟨#[]⟩, .int .i64 75, .string ⟨#[]⟩, .bool false, .string ⟨#[]⟩]
theorem Try.infoOpL : (Try.prog.info? 42).map (fun i => (i.zero, i.size, i.bytes)) = some (some (.agg #[.int .i64 0, .string .empty, .bool false, .string .empty]), 4, 48) := by kernel_rfl
/-- Two operations more behind a row of one's own. -/
theorem app_two76 {w : World} {base : Nat} {v : Value} {n : Nat} (hown : Shp base w 42 4 v n) (hn : n ≤ 4096) (hbase : base ≤ w.heap.size) (ty : TypeId) :
    ∃ v' w', (Builtin.append_ #[38, 38] ty #[v, .slice (some ⟨w.heap.size, 0, none⟩) 2 2]).run Try.prog (w.alloc (.cells #[.int .i64 76, .string ⟨#[]⟩, .bool false, .string ⟨#[]⟩, .int .i64 75, .string ⟨#[]⟩, .bool false, .string ⟨#[]⟩] 42 (0, 0))) = .ok v' w' ∧ ∃ a c, v' = .slice a (n + 2) c ∧ Same (fun k => v.ownBlock = some k) w w' := by
  obtain ⟨xs, h⟩ := hown
  obtain ⟨i0, hi0, hz0, hz1, hz2⟩ := info_parts Try.infoOpL
  have k0 : Kept w (w.alloc (.cells #[.int .i64 76, .string ⟨#[]⟩, .bool false, .string ⟨#[]⟩, .int .i64 75, .string ⟨#[]⟩, .bool false, .string ⟨#[]⟩] 42 (0, 0))) := (Same.refl _ w).alloc _
  obtain ⟨v', w', hr, r1, r2, -⟩ := run_append_own_at (P := Try.prog) (w := w.alloc (.cells #[.int .i64 76, .string ⟨#[]⟩, .bool false, .string ⟨#[]⟩, .int .i64 75, .string ⟨#[]⟩, .bool false, .string ⟨#[]⟩] 42 (0, 0))) base 38 ty 42 i0 _ 4 48 Try.underlying38 hi0 hz0 hz1 hz2 rfl (by decide) v n xs (rw_kept h k0 fun _ _ e => e) ⟨w.heap.size, 0, none⟩ 2 2 two76 rfl
    (fun j u hu => by
      have e9 : (Addr.mk w.heap.size 0 none).add j = ⟨w.heap.size, j, none⟩ := by
        simp [Addr.add]
        intro h9
        exact h9.symm
      rw [e9, cell_of (heap_new w _)]
      simpa using hu) (fun u hu => by
      simp only [two76, List.mem_cons, List.not_mem_nil, or_false] at hu
      rcases hu with rfl | rfl | rfl | rfl | rfl | rfl | rfl | rfl <;> rfl) (by unfold maxLen; omega) (by omega) (by rw [World.size_alloc]; omega)
  obtain ⟨a, c, rfl, -⟩ := rw_shape r1
  exact ⟨_, w', hr, a, c, rfl, (k0.to _).trans' (Same.of_grown r2 (fun k e => e))⟩
end Go.Proofs.Ytflemfohnpjeaaa
