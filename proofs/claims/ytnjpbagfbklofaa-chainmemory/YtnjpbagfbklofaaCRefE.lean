/- What is proved: the document's Keys gives the keys that have a version, each once, rising, in a list of its own; the store lies in memory. -/
import Derived.Test.YtnjpbagfbklofaaCRefD
import Derived.Test.YtnjpbagfbklofaaCPruM
import Derived.Sort.Walk0
namespace Go.Proofs.Ytnjpbagfbklofaa
open Go.RowKit
open Go.Proofs (encStr)

theorem KeysOf.in_ {A : List En} {l : List (List UInt8)} (h : KeysOf A l) {e : En} (he : e.key.toList ∈ l) : KeysOf (A ++ [e]) l := by
  refine ⟨h.1, fun x => (h.2 x).trans ?_⟩
  constructor
  · rintro ⟨f, hf, e1⟩
    exact ⟨f, List.mem_append_left _ hf, e1⟩
  · rintro ⟨f, hf, e1⟩
    rcases List.mem_append.1 hf with hf | hf
    · exact ⟨f, hf, e1⟩
    · obtain rfl : f = e := by simpa using hf
      rw [← e1]
      exact (h.2 _).1 he
theorem KeysOf.put {A : List En} {l : List (List UInt8)} (h : KeysOf A l) {e : En} {p : Nat} (hlo : ∀ x ∈ l.take p, x < e.key.toList) (hhi : ∀ x ∈ l.drop p, e.key.toList < x) : KeysOf (A ++ [e]) (l.take p ++ e.key.toList :: l.drop p) := by
  have hp := h.1
  rw [← List.take_append_drop p l, List.pairwise_append] at hp
  refine ⟨List.pairwise_append.2 ⟨hp.1, List.pairwise_cons.2 ⟨hhi, hp.2.1⟩, fun a ha b hb => ?_⟩, fun x => ?_⟩
  · rcases List.mem_cons.1 hb with rfl | hb
    · exact hlo a ha
    · exact hp.2.2 a ha b hb
  · have hx : x ∈ l.take p ++ e.key.toList :: l.drop p ↔ x = e.key.toList ∨ x ∈ l := by
      conv => rhs; rhs; rw [← List.take_append_drop p l]
      simp only [List.mem_append, List.mem_cons]
      constructor
      · rintro (h | h | h)
        · exact .inr (.inl h)
        · exact .inl h
        · exact .inr (.inr h)
      · rintro (h | h | h)
        · exact .inr (.inl h)
        · exact .inl h
        · exact .inr (.inr h)
    rw [hx, h.2 x]
    constructor
    · rintro (rfl | ⟨f, hf, e1⟩)
      · exact ⟨e, by simp, rfl⟩
      · exact ⟨f, List.mem_append_left _ hf, e1⟩
    · rintro ⟨f, hf, e1⟩
      rcases List.mem_append.1 hf with hf | hf
      · exact .inr ⟨f, hf, e1⟩
      · obtain rfl : f = e := by simpa using hf
        exact .inl e1.symm
/-- All that stands before p is below K. -/
def Low (l : List (List UInt8)) (p : Nat) (K : List UInt8) : Prop := ∀ x ∈ l.take p, x < K
theorem Low.nil (l : List (List UInt8)) (K : List UInt8) : Low l 0 K := fun x hx => by simp at hx
theorem Low.more {l : List (List UInt8)} {p : Nat} {K x : List UInt8} (h : Low l p K) (hx : l[p]? = some x) (hlt : x < K) : Low l (p + 1) K := fun y hy => by
  rw [List.take_add_one, hx] at hy
  rcases List.mem_append.1 hy with hy | hy
  · exact h y hy
  · obtain rfl : y = x := by simpa using hy
    exact hlt
theorem high {l : List (List UInt8)} (hp : l.Pairwise (· < ·)) {p : Nat} {K x : List UInt8} (hx : l[p]? = some x) (hlt : ¬ x < K) (hne : x ≠ K) : ∀ y ∈ l.drop p, K < y := fun y hy => by
  have h1 : K < x := Classical.byContradiction fun hk => hne (List.le_antisymm hk hlt)
  have hlen := (List.getElem?_eq_some_iff.1 hx).1
  have hx2 : l[p] = x := (List.getElem?_eq_some_iff.1 hx).2
  rw [List.drop_eq_getElem_cons hlen, hx2] at hy
  rcases List.mem_cons.1 hy with rfl | hy
  · exact h1
  · have h2 := hp
    rw [← List.take_append_drop p l, List.pairwise_append, List.drop_eq_getElem_cons hlen, hx2] at h2
    exact List.lt_trans h1 ((List.pairwise_cons.1 h2.2.1).1 y hy)
/-- One element more to the right. -/
theorem shift {l : List (List UInt8)} {q : Nat} {y z : List UInt8} (hz : l[q]? = some z) : (l.take (q + 1) ++ y :: l.drop (q + 1)).set (q + 1) z = l.take q ++ z :: l.drop q ∧ (l.take (q + 1) ++ y :: l.drop (q + 1))[q]? = some z := by
  have hlen := (List.getElem?_eq_some_iff.1 hz).1
  have hz2 : l[q] = z := (List.getElem?_eq_some_iff.1 hz).2
  have hlt : (l.take (q + 1)).length = q + 1 := by rw [List.length_take]; omega
  refine ⟨?_, ?_⟩
  · rw [List.set_append_right _ _ (by omega), hlt, Nat.sub_self, List.set_cons_zero, List.take_add_one, hz, List.drop_eq_getElem_cons hlen, hz2]
    simp
  · rw [List.getElem?_append_left (by omega), List.getElem?_take_of_lt (by omega), hz]
theorem Try.infoStr : (Try.prog.info? 9).map (fun i => (i.zero, i.size, i.bytes)) = some (some (.string .empty), 1, 16) := by kernel_rfl
theorem OwnS.kept {S : Nat → Prop} {base : Nat} {w w' : World} {v : Value} {l : List (List UInt8)} (h : OwnS base w v l) (hs : Same S w w') (hn : ∀ k, v.ownBlock = some k → ¬ S k) : OwnS base w' v l := by
  refine ⟨h.1, ?_⟩
  rcases h.2 with h2 | ⟨g, cap, cur, rfl, hb, hg, h1, h2, h3, h4⟩
  · exact .inl h2
  · exact .inr ⟨g, cap, cur, rfl, hb, (hs.block g (lt_of_heap hg) (hn g (by simp [Value.ownBlock]))).trans hg, h1, h2, h3, h4⟩
theorem OwnS.on {base : Nat} {w w' : World} {v : Value} {l : List (List UInt8)} (h : OwnS base w v l) (k : Kept w w') : OwnS base w' v l := OwnS.kept h k fun _ _ e => e
theorem OwnS.nil (base : Nat) (w : World) : OwnS base w (.slice none 0 0) [] := World.ownsRow_nil w base 9 1
theorem OwnS.low {base : Nat} {w : World} {v : Value} {l : List (List UInt8)} (h : OwnS base w v l) {k : Nat} (hk : v.ownBlock = some k) : base ≤ k := by
  rcases h.2 with ⟨rfl, _⟩ | ⟨g, cap, cur, rfl, hb, hg, h1, h2, h3, h4⟩
  · simp [Value.ownBlock] at hk
  · simp [Value.ownBlock] at hk
    omega
/-- Strings more behind a list of one's own. -/
theorem app_strs {w : World} {base g : Nat} {v : Value} {xs ys : List (List UInt8)} (hown : OwnS base w v xs) (hg : w.heap[g]? = some (.cells (ys.map encStr).toArray 9 (0, 0))) (hy : 0 < ys.length) (hb : xs.length + ys.length ≤ 3909374676537) (hbase : base ≤ w.heap.size) (ty : TypeId) :
    ∃ v' w', (Builtin.append_ #[35, 35] ty #[v, .slice (some ⟨g, 0, none⟩) ys.length ys.length]).run Try.prog w = .ok v' w' ∧ OwnS base w' v' (xs ++ ys) ∧ Same (fun k => v.ownBlock = some k) w w' ∧ ∃ g' c', v' = .slice (some ⟨g', 0, none⟩) (xs.length + ys.length) c' := by
  obtain ⟨v', w', hr, r1, r2, -, -⟩ := app_wide (P := Try.prog) (t := 35) (ty := ty) (c := ys.length) (m := ys.length) (a := ⟨g, 0, none⟩) (news := ys.map encStr) Try.underlying35 Try.infoStr rfl (by decide) hown (by simp)
    (fun j u hu => by
      rw [Addr.add_lit, Nat.zero_add, cell_of hg]
      simpa using hu) (fun u hu => by
      obtain ⟨x, -, rfl⟩ := List.mem_map.1 hu
      rfl) (by unfold maxLen; omega) (by omega) hbase
  rw [← List.map_append] at r1
  refine ⟨v', w', hr, by rw [OwnS, List.length_append]; exact r1, r2, ?_⟩
  rcases r1.2 with ⟨_, h0⟩ | ⟨g', cap, cur, rfl, -⟩
  · omega
  · exact ⟨g', cap, rfl⟩
theorem str_mk (k : ByteArray) : (⟨k.toList.toArray⟩ : ByteArray) = k := by
  obtain ⟨d⟩ := k
  rw [ByteArray.toList_eq]
/-- One string of a list of one's own, anew. -/
theorem OwnS.put {base : Nat} {w : World} {g n cap : Nat} {l : List (List UInt8)} (h : OwnS base w (.slice (some ⟨g, 0, none⟩) n cap) l) (hn : n = l.length) (j : Nat) (z : List UInt8) :
    OwnS base (w.setCell ⟨g, j, none⟩ (.string ⟨z.toArray⟩)) (.slice (some ⟨g, 0, none⟩) n cap) (l.set j z) ∧ Same (fun k => base ≤ k) w (w.setCell ⟨g, j, none⟩ (.string ⟨z.toArray⟩)) := by
  subst hn
  have h1 := (World.ownsRow.stored h j (.string ⟨z.toArray⟩)).1
  refine ⟨by rw [OwnS, List.length_set, List.map_set]; exact h1, ?_⟩
  exact Same.setCell (Same.refl _ w) ⟨g, j, none⟩ (.inr (OwnS.low h rfl)) _
end Go.Proofs.Ytnjpbagfbklofaa
