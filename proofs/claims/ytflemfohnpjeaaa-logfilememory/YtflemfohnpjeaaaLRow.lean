/- What is proved: rows of bytes of one's own that may begin within their block: append onto them, and their ends; the bounds that a machine's memory sets. -/
import Derived.Test.YtflemfohnpjeaaaWApp
import Derived.Deep.DeepAppendWide
namespace Go.Proofs.Ytflemfohnpjeaaa
open Go.RowKit

/-- The value v is a row of the bytes l of one's own, that may begin within its block. -/
def Tl (base : Nat) (w : World) (v : Value) (l : List Int) : Prop :=
  (v = .slice none 0 0 ∧ l = []) ∨ ∃ g off cap cur, v = .slice (some ⟨g, off, none⟩) l.length cap ∧ base ≤ g ∧ w.heap[g]? = some (.cells cur 5 (0, 0)) ∧ l.length ≤ cap ∧ cap ≤ maxLen ∧ off + cap ≤ cur.size ∧ (cur.toList.drop off).take l.length = byt l
theorem Tl.nil (base : Nat) (w : World) : Tl base w (.slice none 0 0) [] := .inl ⟨rfl, rfl⟩
theorem Tl.kept {S : Nat → Prop} {base : Nat} {w w' : World} {v : Value} {l : List Int} (h : Tl base w v l) (hs : Same S w w') (hn : ∀ k, v.ownBlock = some k → ¬ S k) : Tl base w' v l := by
  rcases h with h | ⟨g, off, cap, cur, rfl, hb, hg, h1⟩
  · exact .inl h
  · exact .inr ⟨g, off, cap, cur, rfl, hb, (hs.block g (lt_of_heap hg) (hn g rfl)).trans hg, h1⟩
theorem Tl.on {base : Nat} {w w' : World} {v : Value} {l : List Int} (h : Tl base w v l) (hs : Kept w w') : Tl base w' v l := h.kept hs fun _ _ h => h
theorem Tl.lower {base base' : Nat} {w : World} {v : Value} {l : List Int} (h : Tl base w v l) (hb : base' ≤ base) : Tl base' w v l := by
  rcases h with h | ⟨g, off, cap, cur, rfl, hb', h1⟩
  · exact .inl h
  · exact .inr ⟨g, off, cap, cur, rfl, Nat.le_trans hb hb', h1⟩
theorem Tl.block {base : Nat} {w : World} {v : Value} {l : List Int} (h : Tl base w v l) {k : Nat} (hk : v.ownBlock = some k) : base ≤ k ∧ k < w.heap.size := by
  rcases h with ⟨rfl, _⟩ | ⟨g, off, cap, cur, rfl, hb, hg, _⟩
  · cases hk
  · cases hk
    exact ⟨hb, lt_of_heap hg⟩
theorem Tl.at_ {w : World} {g off : Nat} {cur : Array Value} {l : List Int} (hg : w.heap[g]? = some (.cells cur 5 (0, 0))) (ht : (cur.toList.drop off).take l.length = byt l) : BytesAt w (some ⟨g, off, none⟩) l := fun i x hx => by
  have hi := (List.getElem?_eq_some_iff.1 hx).1
  refine ⟨g, off, rfl, lt_of_heap hg, ?_⟩
  rw [cell_of hg]
  have h2 : (byt l)[i]? = some (.int .u8 x) := by rw [byt_get, hx]; rfl
  rw [← ht, List.getElem?_take_of_lt hi, List.getElem?_drop] at h2
  simpa using h2
/-- What is known of such a row as a list in memory. -/
theorem Tl.bytes {base : Nat} {w : World} {v : Value} {l : List Int} (h : Tl base w v l) : ∃ a cap, v = .slice a l.length cap ∧ BytesAt w a l ∧ l.length ≤ cap ∧ cap ≤ maxLen ∧ (a = none → l.length = 0 ∧ cap = 0) ∧ (∀ ad, a = some ad → ad.spot = none) := by
  rcases h with ⟨rfl, rfl⟩ | ⟨g, off, cap, cur, rfl, hb, hg, h1, h2, h3, h4⟩
  · exact ⟨none, 0, rfl, BytesAt.nil _ _, Nat.le_refl _, Nat.zero_le _, fun _ => ⟨rfl, rfl⟩, fun _ e => (by cases e)⟩
  · exact ⟨_, cap, rfl, Tl.at_ hg h4, h1, h2, fun e => (by cases e), fun _ e => (by cases e; rfl)⟩
/-- Its end, from place n on. -/
theorem Tl.drop {base : Nat} {w : World} {g off m cap : Nat} {l : List Int} (h : Tl base w (.slice (some ⟨g, off, none⟩) m cap) l) {n : Nat} (hn : n ≤ l.length) : Tl base w (.slice (some ⟨g, off + n, none⟩) (l.length - n) (cap - n)) (l.drop n) := by
  rcases h with ⟨e, _⟩ | ⟨g', off', cap', cur, e, hb, hg, h1, h2, h3, h4⟩
  · cases e
  · cases e
    refine .inr ⟨g, off + n, cap - n, cur, by rw [List.length_drop], hb, hg, by rw [List.length_drop]; omega, by omega, by omega, ?_⟩
    rw [List.length_drop, ← List.drop_drop, ← List.drop_take, h4]
    simp [byt]
theorem Tl.none {base : Nat} {w : World} {g off m cap : Nat} {l : List Int} (h : Tl base w (.slice (some ⟨g, off, none⟩) m cap) l) {n : Nat} (hn : n = l.length) : Tl base w (.slice (some ⟨g, off, none⟩) 0 0) (l.drop n) := by
  rcases h with ⟨e, _⟩ | ⟨g', off', cap', cur, e, hb, hg, h1, h2, h3, h4⟩
  · cases e
  · cases e
    subst hn
    rw [List.drop_length]
    exact .inr ⟨g, off, 0, cur, rfl, hb, hg, Nat.le_refl _, Nat.zero_le _, by omega, by simp [byt]⟩
theorem same_row (w : World) (g : Nat) (c : Array Value) (S : Nat → Prop) (h : S g) : Same S w (w.setRow g c) := ⟨rfl, rfl, rfl, by simp, fun k _ hk => setRow_other w g k _ (fun e => hk (e ▸ h))⟩
theorem run_append_off {w : World} {P : Program} (t ty e : TypeId) (i : TypeInfo) (ht : P.underlying t = some (.slice e)) (hi : P.info? e = some i)
    (g off sLen sCap : Nat) (cur : Array Value) (hg : w.heap[g]? = some (.cells cur e (0, 0)))
    (a : Addr) (m c : Nat) (news : List Value) (hl : news.length = m * i.size) (hnews : ∀ j u, news[j]? = some u → w.cell? (a.add j) = some u) (h1 : ∀ u ∈ news, u.oneCell' = true)
    (hroom : sLen + m ≤ sCap) (hfit : off + sLen * i.size + news.length ≤ cur.size) :
    (Builtin.append_ #[t, t] ty #[.slice (some ⟨g, off, none⟩) sLen sCap, .slice (some a) m c]).run P w =
      .ok (.slice (some ⟨g, off, none⟩) (sLen + m) sCap) (w.setRow g (cur.toList.take (off + sLen * i.size) ++ news ++ cur.toList.drop (off + sLen * i.size + news.length)).toArray) := by
  have hf := run_firstCells_some (P := P) w i.size m a m c news hl hnews
  have hst := run_storeCells_at P g (off + sLen * i.size) e news 0 cur w hg (by simpa using hfit) h1
  simp only [Nat.add_zero] at hst
  simp [Builtin.append_, run_underlying ht, sizeOf, typeInfo, hi, Builtin.lenOf, hroom, hf, Addr.add_lit, hst]
set_option maxRecDepth 100000 in
/-- append onto such a row. -/
theorem app_tail {w : World} {base : Nat} {v : Value} {xs l : List Int} {oa : Option Addr} {c : Nat} (hown : Tl base w v xs) (hl : BytesAt w oa l) (hnil : oa = none → l.length = 0 ∧ c = 0) (hb : xs.length + l.length ≤ 211106232532992) (hbase : base ≤ w.heap.size) (ty : TypeId) :
    ∃ v' w', (Builtin.append_ #[27, 27] ty #[v, .slice oa l.length c]).run Try.prog w = .ok v' w' ∧ Tl base w' v' (xs ++ l) ∧ Same (fun k => v.ownBlock = some k) w w' ∧ (∀ k, v'.ownBlock = some k → v.ownBlock = some k ∨ w.heap.size ≤ k) := by
  rcases hown with ⟨rfl, rfl⟩ | ⟨g, off, cap, cur, rfl, hbg, hg, h1, h2, h3, h4⟩
  · obtain ⟨v', w', hr, r1, r2⟩ : ∃ v' w', (Builtin.append_ #[27, 27] ty #[.slice none 0 0, .slice oa l.length c]).run Try.prog w = .ok v' w' ∧ OwnB w.heap.size w' v' l ∧ Kept w w' := by
      obtain ⟨i0, hi0, hz0, hz1, hz2⟩ := info_parts Try.infoByte
      cases oa with
      | none =>
        obtain ⟨h0, rfl⟩ := hnil rfl
        obtain rfl : l = [] := List.eq_nil_of_length_eq_zero h0
        exact ⟨_, w, run_append_owned_none (P := Try.prog) (w := w) w.heap.size 27 ty 5 i0 1 Try.underlying27 hi0 (.slice none 0 0) 0 _ (OwnB.nil w.heap.size w), OwnB.nil _ _, Same.refl _ _⟩
      | some ad =>
        obtain ⟨v', w', hr, r1, r2, -⟩ := Go.run_append_own_wide (P := Try.prog) w w.heap.size 27 ty 5 i0 _ 1 1 Try.underlying27 hi0 hz0 hz1 hz2 rfl (by decide) (.slice none 0 0) 0 [] (World.ownsRow_nil w w.heap.size 5 1) ad l.length c (byt l) (by rw [length_byt, Nat.mul_one])
          (fun j u hu => by
            rw [byt_get] at hu
            obtain ⟨x, hx, rfl⟩ := Option.map_eq_some_iff.1 hu
            obtain ⟨b', off', e, _, hc⟩ := hl _ _ hx
            cases e
            rw [Addr.add_lit]
            exact hc) (byt_one _) (by unfold maxLen; simp only [List.length_nil] at hb; omega) (by simp only [List.length_nil] at hb; omega) (Nat.le_refl _)
        rw [Nat.zero_add, List.nil_append] at r1
        exact ⟨v', w', hr, r1, Same.of_grown r2 (fun k e => by cases e)⟩
    refine ⟨v', w', hr, ?_, Kept.to r2 _, fun k hk => .inr (r1.block hk).1⟩
    rcases r1.2 with ⟨rfl, h0⟩ | ⟨g, cap, cur, rfl, hb', hg, q1, q2, q3, q4⟩
    · exact .inl ⟨rfl, List.eq_nil_of_length_eq_zero h0⟩
    · exact .inr ⟨g, 0, cap, cur, rfl, Nat.le_trans hbase hb', hg, q1, q2, by omega, by simpa using q4⟩
  · obtain ⟨i0, hi0, hz0, hz1, hz2⟩ := info_parts Try.infoByte
    have hsl : xs.length + l.length ≤ maxLen := by unfold maxLen; omega
    cases oa with
    | none =>
      obtain ⟨h0, rfl⟩ := hnil rfl
      obtain rfl : l = [] := List.eq_nil_of_length_eq_zero h0
      refine ⟨_, w, ?_, ?_, Same.refl _ _, fun k hk => .inl hk⟩
      rotate_left
      · rw [List.append_nil]
        exact .inr ⟨g, off, cap, cur, rfl, hbg, hg, h1, h2, h3, h4⟩
      · have hst := run_storeCells_at Try.prog g (off + xs.length) 5 [] 0 cur w hg (by simp; omega) (by simp)
        simp [Builtin.append_, run_underlying (P := Try.prog) Try.underlying27, sizeOf, typeInfo, hi0, Builtin.lenOf, h1, Builtin.firstCells, Addr.add_lit, storeCells]
    | some ad =>
      have hn : ∀ j u, (byt l)[j]? = some u → w.cell? (ad.add j) = some u := fun j u hu => by
        rw [byt_get] at hu
        obtain ⟨x, hx, rfl⟩ := Option.map_eq_some_iff.1 hu
        obtain ⟨b', off', e, _, hc⟩ := hl _ _ hx
        cases e
        rw [Addr.add_lit]
        exact hc
      have ho : ∀ j u, (byt xs)[j]? = some u → w.cell? ((⟨g, off, none⟩ : Addr).add j) = some u := fun j u hu => by
        rw [byt_get] at hu
        obtain ⟨x, hx, rfl⟩ := Option.map_eq_some_iff.1 hu
        obtain ⟨b', off', e, _, hc⟩ := Tl.at_ hg h4 _ _ hx
        cases e
        rw [Addr.add_lit]
        exact hc
      by_cases hroom : xs.length + l.length ≤ cap
      · have hr := run_append_off (P := Try.prog) (w := w) 27 ty 5 i0 Try.underlying27 hi0 g off xs.length cap cur hg ad l.length c (byt l) (by rw [hz1, length_byt, Nat.mul_one]) hn (byt_one _) hroom (by rw [hz1, length_byt]; omega)
        rw [hz1, length_byt, Nat.mul_one] at hr
        refine ⟨_, _, hr, .inr ⟨g, off, cap, _, by rw [List.length_append], hbg, setRow_heap w g cur _ _ _ hg, by rw [List.length_append]; exact hroom, h2, ?_, ?_⟩, ?_, fun k hk => .inl hk⟩
        · simp only [List.size_toArray, List.length_append, List.length_take, List.length_drop, Array.length_toList, length_byt]
          omega
        · have e1 : (cur.toList.take (off + xs.length)).drop off = byt xs := by rw [← h4, List.drop_take]; congr 1; omega
          have e2 : (cur.toList.take (off + xs.length)).length = off + xs.length := List.length_take_of_le (by have hc : cur.toList.length = cur.size := Array.length_toList; omega)
          have e3 : ∀ X, (cur.toList.take (off + xs.length) ++ X).drop off = byt xs ++ X := fun X => by rw [List.drop_append_of_le_length (by rw [e2]; exact Nat.le_add_right _ _), e1]
          rw [List.toList_toArray, List.append_assoc, e3, ← List.append_assoc, ← byt_append, List.length_append]
          exact List.take_left' (by rw [length_byt, List.length_append])
        · exact same_row w g _ _ rfl
      · have hr := run_append_grow (P := Try.prog) w 27 ty 5 i0 _ Try.underlying27 hi0 hz0 ⟨g, off, none⟩ xs.length cap (byt xs) (by rw [hz1, length_byt, Nat.mul_one]) ho ad l.length c (byt l) (by rw [hz1, length_byt, Nat.mul_one]) hn (by omega) (by omega) (growslice_fits_wide (by omega) (by rw [hz2]; omega))
        have hge := grownCap_ge w (xs.length + l.length) cap 5
        have hcm : grownCap w (xs.length + l.length) cap 5 ≤ maxLen := grownCap_le_maxLen w _ cap _ hsl
        refine ⟨_, _, hr, .inr ⟨w.heap.size, 0, _, _, by rw [List.length_append], hbase, heap_alloc_new w.drew _, by rw [List.length_append]; exact hge, hcm, ?_, ?_⟩, ?_, fun k hk => .inr (by cases hk; exact Nat.le_refl _)⟩
        · simp only [Array.size_append, List.size_toArray, size_zeroCells, length_byt]
          show 0 + _ ≤ xs.length + l.length + (_ - _) * 1
          omega
        · simp only [Array.toList_append, List.append_assoc, List.drop_zero, List.length_append]
          rw [← List.append_assoc, ← byt_append]
          exact List.take_left' (by rw [length_byt, List.length_append])
        · exact (Same.refl _ w).drew.alloc _
end Go.Proofs.Ytflemfohnpjeaaa
