/- What is proved: Waiting gives the numbers of the sources that wait, rising, in memory of its own; the tree is one that New made. -/
import Derived.Test.YtolaeiagfnhllaaTNew
import Derived.Deep.DeepCutAuto
namespace Go.Proofs.Ytolaeiagfnhllaa
open Go.RowKit

/-- The value v is a list of the numbers L of one's own, in a block from base on. -/
abbrev OwnZ (base : Nat) (w : World) (v : Value) (L : List Int) : Prop := w.ownsRow base 3 1 v L.length (inz L)
theorem OwnZ.nil (base : Nat) (w : World) : OwnZ base w (.slice none 0 0) [] := World.ownsRow_nil w base 3 1
theorem OwnZ.kept {S : Nat → Prop} {base : Nat} {w w' : World} {v : Value} {L : List Int} (h : OwnZ base w v L) (hs : Same S w w') (hn : ∀ k, v.ownBlock = some k → ¬ S k) : OwnZ base w' v L := by
  refine ⟨h.1, ?_⟩
  rcases h.2 with h2 | ⟨g, cap, cur, rfl, hb, hg, h1, h2, h3, h4⟩
  · exact .inl h2
  · exact .inr ⟨g, cap, cur, rfl, hb, (hs.block g (lt_of_heap hg) (hn g (by simp [Value.ownBlock]))).trans hg, h1, h2, h3, h4⟩
theorem OwnZ.block {base : Nat} {w : World} {v : Value} {L : List Int} (h : OwnZ base w v L) {k : Nat} (hk : v.ownBlock = some k) : base ≤ k ∧ k < w.heap.size := by
  rcases h.2 with ⟨rfl, _⟩ | ⟨g, cap, cur, rfl, hb, hg, h1, h2, h3, h4⟩
  · simp [Value.ownBlock] at hk
  · simp [Value.ownBlock] at hk
    subst hk
    exact ⟨hb, lt_of_heap hg⟩
/-- The numbers L lie in w from address a on. -/
def NumsAt (w : World) (a : Option Addr) (L : List Int) : Prop := ∀ i, i < L.length → ∃ b, a = some ⟨b, 0, none⟩ ∧ b < w.heap.size ∧ w.cell? ⟨b, i, none⟩ = some (.int .i64 (L.getD i 0)) ∧ w.frozen? ⟨b, i, none⟩ = false
theorem OwnZ.nums {base : Nat} {w : World} {v : Value} {L : List Int} (h : OwnZ base w v L) : ∃ a cap, v = .slice a L.length cap ∧ NumsAt w a L ∧ L.length ≤ cap ∧ ∀ b o s, a = some ⟨b, o, s⟩ → base ≤ b ∧ v.ownBlock = some b := by
  rcases h.2 with ⟨rfl, hn⟩ | ⟨g, cap, cur, rfl, hb, hg, h1, h2, h3, h4⟩
  · have : L = [] := List.eq_nil_of_length_eq_zero (by omega)
    subst this
    exact ⟨none, 0, rfl, fun i hi => by simp at hi, Nat.le_refl _, fun b o s e => by cases e⟩
  · refine ⟨_, cap, rfl, fun i hi => ⟨g, rfl, lt_of_heap hg, ?_, frozen_of hg _⟩, h1, fun b o s e => by cases e; exact ⟨hb, rfl⟩⟩
    rw [cell_of hg, ← inz_get hi, ← h4, List.getElem?_take_of_lt (by omega)]
    simp
theorem app_z {w : World} {base : Nat} {v : Value} {L : List Int} (x : Int) (hown : OwnZ base w v L) (hb : L.length + 1 ≤ 4398046511104) (hbase : base ≤ w.heap.size) (ty : TypeId) :
    ∃ v' w', (Builtin.append_ #[49, 49] ty #[v, .slice (some ⟨w.heap.size, 0, none⟩) 1 1]).run Try.prog (w.alloc (.cells #[.int .i64 x] 3)) = .ok v' w' ∧ OwnZ base w' v' (L ++ [x]) ∧ Same (fun k => v.ownBlock = some k) w w' := by
  obtain ⟨i0, hi0, hz0, hz1, hz2⟩ := info_parts Try.infoInt11
  have k0 : Kept w (w.alloc (.cells #[.int .i64 x] 3 (0, 0))) := (Same.refl _ w).alloc _
  have ho := OwnZ.kept hown k0 (fun _ _ e => e)
  have hcell := heap_new w (.cells #[.int .i64 x] 3 (0, 0))
  obtain ⟨v', w', hr, r1, r2, _, r3⟩ := run_append_own_at (P := Try.prog) (w := w.alloc (.cells #[.int .i64 x] 3)) base 49 ty 3 i0 _ 1 8 Try.underlying49 hi0 hz0 hz1 hz2 rfl (by decide) v L.length _ ho ⟨w.heap.size, 0, none⟩ 1 1 (inz [x]) rfl
    (fun j u hu => by
      rw [Addr.add_lit, Nat.zero_add, cell_of hcell]
      simpa [inz] using hu) (inz_one _) (by unfold maxLen; omega) (by omega) (by simp [World.size_alloc]; omega)
  rw [← inz_append] at r1
  exact ⟨v', w', hr, by rw [OwnZ, List.length_append]; exact r1, (Kept.to k0 _).trans' (Same.of_grown r2 (fun k e => e))⟩
/-- The numbers of the sources that wait, of the first q; of all. -/
def wtq (S : List Sr) (q : Nat) : List Int := ((List.range q).filter fun i => (S.getD i .wait).wt).map fun i : Nat => (i : Int)
def wtl (S : List Sr) : List Int := wtq S S.length
theorem wtq_succ (S : List Sr) (q : Nat) : wtq S (q + 1) = if (S.getD q .wait).wt = true then wtq S q ++ [(q : Int)] else wtq S q := by
  unfold wtq
  rw [List.range_succ, List.filter_append, List.map_append]
  cases h : (S.getD q .wait).wt
  · rw [List.filter_cons, if_neg (by rw [h]; decide), if_neg (by decide)]
    simp
  · rw [List.filter_cons, if_pos h, if_pos rfl]
    simp
theorem wtq_len (S : List Sr) (q : Nat) : (wtq S q).length ≤ q := by
  unfold wtq
  rw [List.length_map]
  exact Nat.le_trans (List.length_filter_le _ _) (by simp)
set_option maxRecDepth 100000 in
set_option maxHeartbeats 1600000 in
theorem waiting11_any {w : World} {b gs gn : Nat} {order : Int} {S : List Sr} (h : Tn w b gs gn order S) :
    Calls Try.prog 20 #[.pointer (some ⟨b, 0, none⟩)] w fun e w' => ∃ v, e = .returned v ∧ OwnZ w.heap.size w' v (wtl S) ∧ Kept w w' := by
  obtain ⟨nd, tr, -⟩ := h
  have TR : Hid _ := tr
  obtain ⟨⟨c0, c1, c2, c3⟩, -, hb⟩ := tr.cells
  have hk1 := tr.k1
  obtain ⟨n, en⟩ : ∃ n, n = S.length := ⟨_, rfl⟩
  rw [← en] at c1 c2 hk1
  have EN : Hid _ := en
  clear tr en
  go_enter Try.func20, Try.ntmps20
  go_wp2_with fail
  go_loopw [3, 11] (fun v i wr => ∃ (q : Nat), q ≤ n ∧ i = .int .i64 (q : Int) ∧ OwnZ w.heap.size wr v (wtq S q) ∧ Kept w wr) (fun _ i _ => n - (intOf i).toNat)
  case atStart => exact ⟨0, Nat.zero_le _, rfl, OwnZ.nil _ _, Same.refl _ _⟩
  case round =>
    obtain ⟨q, hq, rfl, ho, ks⟩ := hrel
    have KS : Hid _ := ks
    have tr := TR.out.on ks
    by_cases hlt : q < n
    · have e1 : decide ((q : Int) < (n : Int)) = true := decide_eq_true (by omega)
      have e1' : (q : Int) < (n : Int) := by omega
      obtain ⟨p0, p1, p2, p3, p4, p5, p6, p7⟩ := tr.src_at (i := q) (by rw [← EN.out]; exact hlt) rfl
      have hgs := lt_of_heap tr.src
      have hlt2 : Hid _ := hlt
      have hsz := ks.size
      have hln := wtq_len S q
      have HN : Hid _ := wtq_succ S q
      have hcz := Sr.wt_code (S.getD q .wait)
      have HA : Hid (∀ W, Kept wr W → ∀ ty, ∃ v' w', (Builtin.append_ #[49, 49] ty #[u3, .slice (some ⟨W.heap.size, 0, none⟩) 1 1]).run Try.prog (W.alloc (.cells #[.int .i64 (q : Int)] 3)) = .ok v' w' ∧ OwnZ w.heap.size w' v' (wtq S q ++ [(q : Int)]) ∧ Kept w w') := fun W k ty => by
        obtain ⟨v', w', h1, h2, h3⟩ := app_z (q : Int) (OwnZ.kept ho k (fun _ _ e => e)) (by omega) (Nat.le_trans hsz k.size) ty
        exact ⟨v', w', h1, h2, (ks.trans' k).trans h3 fun i hi e => by have := (OwnZ.block ho e).1; omega⟩
      have HO : Hid _ := ho
      generalize (S.getD q .wait).row = sr at *
      generalize (S.getD q .wait).code = sc at *
      cases hwt : (S.getD q .wait).wt
      · rw [hwt] at hcz HN
        rw [if_neg (by decide)] at HN
        have e2 : (sc == 0) = false := by simpa using hcz.symm
        clear hcz ho ks tr hln hwt
        go_wp2_with fail
        go_roundw
        case rel => exact ⟨q + 1, hlt2.out, by rw [Int.natCast_add]; rfl, by rw [HN.out]; exact OwnZ.kept HO.out ((Same.refl (fun _ => False) _).alloc _) (fun _ _ e => e), KS.out.alloc _⟩
        case measure => simp only [intOf]; omega
      · rw [hwt] at hcz HN
        rw [if_pos rfl] at HN
        obtain rfl : sc = 0 := by simpa using hcz.symm
        clear hcz ho ks tr hln hwt
        have KW : Hid (Kept wr (wr.alloc (.cells #[.int .i64 0, .int .i64 sr.kind, .int .i64 sr.time, .int .i64 sr.seq, .int .i64 sr.index, .int .i64 sr.frm, .int .i64 sr.til, .string sr.body] 77))) := (Same.refl _ _).alloc _
        go_upto_region 6 with fail
        generalize wr.alloc (.cells #[.int .i64 0, .int .i64 sr.kind, .int .i64 sr.time, .int .i64 sr.seq, .int .i64 sr.index, .int .i64 sr.frm, .int .i64 sr.til, .string sr.body] 77) = W0 at KW ⊢
        go_wp2_with (at_builtin; refine wpList_app rfl (.tmp 19) (.tmp 21) 49 49 rfl u3 (.slice (some ⟨W0.heap.size, 0, none⟩) 1 1) rfl rfl _ (HA.out W0 KW.out) ?_; rintro v1 w1 ⟨o1, k1⟩)
        have R : Hid _ := (⟨o1, k1⟩ : _ ∧ _)
        clear o1 k1
        go_roundw
        case rel => exact ⟨q + 1, hlt2.out, by rw [Int.natCast_add]; rfl, by rw [HN.out]; exact R.out.1, R.out.2⟩
        case measure => simp only [intOf]; omega
    · obtain rfl : n = q := by omega
      have e1 : decide ((n : Int) < (n : Int)) = false := by simp
      have HO : Hid (OwnZ w.heap.size wr u3 (wtl S)) := by
        show OwnZ w.heap.size wr u3 (wtl S)
        unfold wtl
        rw [← EN.out]
        exact ho
      clear ho ks tr
      go_wp2_with fail
      go_ret
      exact ⟨_, rfl, HO.out, KS.out⟩
end Go.Proofs.Ytolaeiagfnhllaa
