/- What is proved: versions and lists of versions in memory, one's own and others'; which is right, how two stand; one more behind a list; the bounds that a machine's memory sets. -/
import Derived.Test.YtmghmacgljihcaaCModel
import Derived.Test.YtmghmacgljihcaaCApp
import Derived.Deep.DeepAppendWide
import Derived.Laws.StructEq
import Derived.Laws.Cover1
namespace Go.Proofs.Ytmghmacgljihcaa
open Go.RowKit

abbrev verV (x : Vn) : Value := .agg #[.int .i64 x.c, .int .i64 x.w, .bool x.f, .string x.v]
/-- The versions l lie in w from address a on. -/
def VersAt (w : World) (a : Option Addr) (l : List Vn) : Prop :=
  ∀ i x, l[i]? = some x → ∃ b off, a = some ⟨b, off, none⟩ ∧ b < w.heap.size ∧ w.cell? ⟨b, off + i * 4, none⟩ = some (.int .i64 x.c) ∧ w.cell? ⟨b, off + i * 4 + 1, none⟩ = some (.int .i64 x.w) ∧ w.cell? ⟨b, off + i * 4 + 2, none⟩ = some (.bool x.f) ∧ w.cell? ⟨b, off + i * 4 + 3, none⟩ = some (.string x.v)
theorem VersAt.nil (w : World) (a : Option Addr) : VersAt w a [] := fun i r h => by simp at h
theorem VersAt.kept {S : Nat → Prop} {w w' : World} {a : Option Addr} {l : List Vn} (h : VersAt w a l) (k : Same S w w') (hd : ∀ b, InB a l.length b → ¬ S b) : VersAt w' a l := fun i r hr => by
  obtain ⟨b, off, rfl, hb, c0, c1, c2, c3⟩ := h i r hr
  have t : ∀ o, w'.cell? ⟨b, o, none⟩ = w.cell? ⟨b, o, none⟩ := fun o => k.cell (p := ⟨b, o, none⟩) hb (hd b ⟨pos_of_get hr, off, rfl⟩)
  exact ⟨b, off, rfl, Nat.lt_of_lt_of_le hb k.size, (t _).trans c0, (t _).trans c1, (t _).trans c2, (t _).trans c3⟩
theorem VersAt.on {w w' : World} {a : Option Addr} {l : List Vn} (h : VersAt w a l) (k : Kept w w') : VersAt w' a l := h.kept k fun _ _ e => e
theorem Try.infoVer : (Try.prog.info? 75).map (fun i => (i.zero, i.size, i.bytes)) = some (some (.agg #[.int .i64 0, .int .i64 0, .bool false, .string .empty]), 4, 40) := by kernel_rfl
def vc1 (x : Vn) : List Value := [.int .i64 x.c, .int .i64 x.w, .bool x.f, .string x.v]
def vcs (l : List Vn) : List Value := l.flatMap vc1
theorem length_vcs (l : List Vn) : (vcs l).length = l.length * 4 := by
  induction l with
  | nil => rfl
  | cons a r ih => simp only [vcs, List.flatMap_cons, List.length_append, List.length_cons, vc1, List.length_nil] at *; omega
theorem vcs_cons (x : Vn) (l : List Vn) : vcs (x :: l) = vc1 x ++ vcs l := rfl
theorem vcs_append (a b : List Vn) : vcs (a ++ b) = vcs a ++ vcs b := by simp [vcs]
theorem vcs_get {l : List Vn} {i : Nat} {x : Vn} (h : l[i]? = some x) (j : Nat) (hj : j < 4) : (vcs l)[i * 4 + j]? = (vc1 x)[j]? := by
  induction l generalizing i with
  | nil => simp at h
  | cons a l ih =>
    cases i with
    | zero =>
      simp only [List.getElem?_cons_zero, Option.some.injEq] at h
      subst h
      rw [vcs_cons, Nat.zero_mul, Nat.zero_add, List.getElem?_append_left (by exact hj)]
    | succ i =>
      simp only [List.getElem?_cons_succ] at h
      rw [vcs_cons, List.getElem?_append_right (by show 4 ≤ _; omega), ← ih h]
      congr 1
      show (i + 1) * 4 + j - 4 = _
      omega
theorem vcs_drop (l : List Vn) (m : Nat) : (vcs l).drop (m * 4) = vcs (l.drop m) := by
  induction m generalizing l with
  | zero => simp
  | succ m ih =>
    cases l with
    | nil => simp [vcs]
    | cons a l =>
      rw [vcs_cons, List.drop_succ_cons, ← ih l, show (m + 1) * 4 = (vc1 a).length + m * 4 by simp [vc1]; omega, List.drop_append]
      simp
theorem vcs_one (l : List Vn) : ∀ v ∈ vcs l, v.oneCell' = true := by
  intro v hv
  obtain ⟨r, _, hf⟩ := List.mem_flatMap.1 hv
  simp only [vc1, List.mem_cons, List.not_mem_nil, or_false] at hf
  rcases hf with rfl | rfl | rfl | rfl <;> rfl
/-- The value v is a list of the versions l of one's own, in a block from base on. -/
abbrev OwnV (base : Nat) (w : World) (v : Value) (l : List Vn) : Prop := w.ownsRow base 75 4 v l.length (vcs l)
theorem OwnV.nil (base : Nat) (w : World) : OwnV base w (.slice none 0 0) [] := World.ownsRow_nil w base 75 4
theorem OwnV.kept {S : Nat → Prop} {base : Nat} {w w' : World} {v : Value} {l : List Vn} (h : OwnV base w v l) (hs : Same S w w') (hn : ∀ k, v.ownBlock = some k → ¬ S k) : OwnV base w' v l := by
  refine ⟨h.1, ?_⟩
  rcases h.2 with h2 | ⟨g, cap, cur, rfl, hb, hg, h1, h2, h3, h4⟩
  · exact .inl h2
  · exact .inr ⟨g, cap, cur, rfl, hb, (hs.block g (lt_of_heap hg) (hn g (by simp [Value.ownBlock]))).trans hg, h1, h2, h3, h4⟩
theorem OwnV.on {base : Nat} {w w' : World} {v : Value} {l : List Vn} (h : OwnV base w v l) (k : Kept w w') : OwnV base w' v l := OwnV.kept h k fun _ _ e => e
theorem OwnV.block {base : Nat} {w : World} {v : Value} {l : List Vn} (h : OwnV base w v l) {k : Nat} (hk : v.ownBlock = some k) : base ≤ k ∧ ∃ cur, w.heap[k]? = some (.cells cur 75 (0, 0)) := by
  rcases h.2 with ⟨rfl, _⟩ | ⟨g, cap, cur, rfl, hb, hg, h1, h2, h3, h4⟩
  · simp [Value.ownBlock] at hk
  · simp [Value.ownBlock] at hk
    subst hk
    exact ⟨hb, cur, hg⟩
theorem OwnV.vers {base : Nat} {w : World} {v : Value} {l : List Vn} (h : OwnV base w v l) : ∃ a cap, v = .slice a l.length cap ∧ VersAt w a l ∧ l.length ≤ cap ∧ cap ≤ maxLen ∧ (a = none → l.length = 0 ∧ cap = 0) ∧ (∀ ad, a = some ad → ad.spot = none) := by
  rcases h.2 with ⟨rfl, hn⟩ | ⟨g, cap, cur, rfl, hb, hg, h1, h2, h3, h4⟩
  · have : l = [] := List.eq_nil_of_length_eq_zero (by omega)
    subst this
    exact ⟨none, 0, rfl, VersAt.nil _ _, Nat.le_refl _, Nat.zero_le _, fun _ => ⟨rfl, rfl⟩, fun _ e => by cases e⟩
  · refine ⟨_, cap, rfl, fun i r hr => ⟨g, 0, rfl, lt_of_heap hg, ?_⟩, h1, h2, (fun e => by cases e), fun _ e => by cases e; rfl⟩
    have hi := (List.getElem?_eq_some_iff.1 hr).1
    have hget : ∀ j, j < 4 → w.cell? ⟨g, 0 + i * 4 + j, none⟩ = (vc1 r)[j]? := fun j hj => by
      rw [cell_of hg, Nat.zero_add, ← vcs_get hr j hj, ← h4, List.getElem?_take_of_lt (by omega)]
      simp
    exact ⟨hget 0 (by decide), hget 1 (by decide), hget 2 (by decide), hget 3 (by decide)⟩
/-- A list in memory, cell by cell. -/
theorem VersAt.cells {w : World} {ad : Addr} {l : List Vn} (h : VersAt w (some ad) l) : ∀ j u, (vcs l)[j]? = some u → w.cell? (ad.add j) = some u := fun j u hu => by
  have hj := (List.getElem?_eq_some_iff.1 hu).1
  rw [length_vcs] at hj
  obtain ⟨r, hr⟩ : ∃ r, l[j / 4]? = some r := ⟨_, List.getElem?_eq_getElem (by omega)⟩
  obtain ⟨b', off', eb, _, c0, c1, c2, c3⟩ := h _ _ hr
  cases eb
  rw [Addr.add_lit]
  have e4 := vcs_get hr (j % 4) (by omega)
  rw [show j / 4 * 4 + j % 4 = j by omega, hu] at e4
  have hm : j % 4 = 0 ∨ j % 4 = 1 ∨ j % 4 = 2 ∨ j % 4 = 3 := by omega
  rcases hm with h | h | h | h <;> rw [h] at e4 <;> rw [e4]
  · rw [show off' + j = off' + j / 4 * 4 by omega]; exact c0
  · rw [show off' + j = off' + j / 4 * 4 + 1 by omega]; exact c1
  · rw [show off' + j = off' + j / 4 * 4 + 2 by omega]; exact c2
  · rw [show off' + j = off' + j / 4 * 4 + 3 by omega]; exact c3
/-- Append behind a row of one's own: where the new row lies; the wide bound. -/
theorem app_wide {P : Program} {w : World} {base : Nat} {t ty e : TypeId} {z : Value} {size bytes : Nat} (ht : P.underlying t = some (.slice e)) (hi : (P.info? e).map (fun i => (i.zero, i.size, i.bytes)) = some (some z, size, bytes)) (hzs : z.cells.size = size) (hsz : 0 < size)
    {v : Value} {n : Nat} {xs : List Value} (hown : w.ownsRow base e size v n xs) {a : Addr} {m c : Nat} {news : List Value} (hl : news.length = m * size) (hnews : ∀ j u, news[j]? = some u → w.cell? (a.add j) = some u) (h1 : ∀ u ∈ news, u.oneCell' = true)
    (h63 : n + m ≤ maxLen) (hbytes : ((n + m) + (n + m) / 4 + 192) * bytes ≤ 281474976710656) (hbase : base ≤ w.heap.size) :
    ∃ v' w', (Builtin.append_ #[t, t] ty #[v, .slice (some a) m c]).run P w = .ok v' w' ∧ w'.ownsRow base e size v' (n + m) (xs ++ news) ∧ Same (fun k => v.ownBlock = some k) w w' ∧ (∀ k, v'.ownBlock = some k → v.ownBlock = some k ∨ w.heap.size ≤ k) ∧ (v' = .slice none 0 0 ↔ v = .slice none 0 0 ∧ m = 0) := by
  obtain ⟨i0, hi0, hz0, rfl, rfl⟩ := info_parts hi
  obtain ⟨v', w', hr, r1, r2, r3⟩ := Go.run_append_own_wide (P := P) w base t ty e i0 z _ _ ht hi0 hz0 rfl rfl hzs hsz v n xs hown a m c news hl hnews h1 h63 hbytes hbase
  have hsmall : n + m ≤ 9223372036854775807 := by simp only [maxLen] at h63; omega
  refine ⟨v', w', hr, r1, Same.of_grown r2 (fun k e => e), fun k hk => ?_, r3⟩
  rcases hown.2 with ⟨rfl, rfl⟩ | ⟨g, cap, cur, rfl, hbg, hg, hnc, hcm, hcs, htake⟩
  · have hx : xs = [] := List.eq_nil_of_length_eq_zero (by simpa using hown.1)
    subst hx
    obtain ⟨v2, w2, hr2, q1, -⟩ := Go.run_append_own_wide (P := P) w w.heap.size t ty e i0 z _ _ ht hi0 hz0 rfl rfl hzs hsz _ 0 [] (World.ownsRow_nil w w.heap.size e i0.size) a m c news hl hnews h1 h63 hbytes (Nat.le_refl _)
    rw [hr] at hr2
    cases hr2
    exact .inr (q1.lt k hk).1
  · by_cases hroom : n + m ≤ cap
    · have hfit : n * i0.size + news.length ≤ cur.size := by rw [hl, hcs, ← Nat.add_mul]; exact Nat.mul_le_mul_right _ hroom
      have hr2 := run_append_room (P := P) w t ty e i0 ht hi0 g n cap cur hg a m c news hl hnews h1 hroom hfit
      rw [hr] at hr2
      cases hr2
      exact .inl hk
    · have hr2 := run_append_grow (P := P) w t ty e i0 z ht hi0 hz0 ⟨g, 0, none⟩ n cap xs hown.1 (hown.cells (g := g) rfl) a m c news hl hnews (by omega) (by omega) (growslice_fits_wide (by omega) hbytes)
      rw [hr] at hr2
      cases hr2
      simp only [Value.ownBlock, Option.some.injEq] at hk
      exact .inr (by omega)
theorem ver_new (w : World) (x : Vn) : VersAt (w.alloc (.cells #[.int .i64 x.c, .int .i64 x.w, .bool x.f, .string x.v] 75 (0, 0))) (some ⟨w.heap.size, 0, none⟩) [x] := fun i y hy => by
  cases i with
  | zero =>
    simp only [List.getElem?_cons_zero, Option.some.injEq] at hy
    subst hy
    have h := heap_new w (.cells #[.int .i64 x.c, .int .i64 x.w, .bool x.f, .string x.v] 75 (0, 0))
    exact ⟨w.heap.size, 0, rfl, by simp [World.size_alloc], (cell_of h _).trans rfl, (cell_of h _).trans rfl, (cell_of h _).trans rfl, (cell_of h _).trans rfl⟩
  | succ i => simp at hy
/-- One version more behind a list of one's own. -/
theorem app_ver_at {w : World} {base g : Nat} {v : Value} {xs : List Vn} (x : Vn) (hown : OwnV base w v xs) (hg : VersAt w (some ⟨g, 0, none⟩) [x]) (hb : xs.length + 1 ≤ 5277655813324) (hbase : base ≤ w.heap.size) (ty : TypeId) :
    ∃ v' w', (Builtin.append_ #[94, 94] ty #[v, .slice (some ⟨g, 0, none⟩) 1 1]).run Try.prog w = .ok v' w' ∧ OwnV base w' v' (xs ++ [x]) ∧ Same (fun k => v.ownBlock = some k) w w' ∧ ∀ k, v'.ownBlock = some k → v.ownBlock = some k ∨ w.heap.size ≤ k := by
  obtain ⟨v', w', hr, r1, r2, r3, -⟩ := app_wide (P := Try.prog) (t := 94) (ty := ty) (c := 1) (m := 1) Try.underlying94 Try.infoVer rfl (by decide) hown (length_vcs [x]) hg.cells (vcs_one _) (by unfold maxLen; omega) (by omega) hbase
  rw [← vcs_append] at r1
  exact ⟨v', w', hr, by rw [OwnV, List.length_append]; exact r1, r2, r3⟩
end Go.Proofs.Ytmghmacgljihcaa
