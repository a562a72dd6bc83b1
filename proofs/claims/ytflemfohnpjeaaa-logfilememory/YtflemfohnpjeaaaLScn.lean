/- What is proved: the small calls of a scanner that lies in memory: NewScanner, Feed, End, Offset, Count, Finished, fail, lack, pass; the bounds that a machine's memory sets. -/
import Derived.Test.YtflemfohnpjeaaaLRow
import Derived.Test.YtflemfohnpjeaaaRText
import Derived.Test.YtflemfohnpjeaaaLMore
namespace Go.Proofs.Ytflemfohnpjeaaa
open Go.RowKit

def scnC (part : Int) (v : Value) (rd ct : Nat) (en : Bool) (er : Int) : Array Value := #[.int .i64 part, v, .int .i64 (rd : Int), .int .i64 (ct : Int), .bool en, .int .i64 er]
/-- A scanner in block sb: its part, its bytes r that aren't read yet (as v), the place, the count, the end said, the fault. -/
structure Sn (base : Nat) (w : World) (sb : Nat) (v : Value) (part : Int) (r : List Int) (rd ct : Nat) (en : Bool) (er : Int) : Prop where
  obj : w.heap[sb]? = some (.cells (scnC part v rd ct en er) 55 (0, 0))
  row : Tl base w v r
  ne : ∀ k, v.ownBlock = some k → k ≠ sb
  byts : Byts r
  len : rd + r.length ≤ 211106232532992
  cts : ct ≤ 4096
section
variable {base : Nat} {w w' : World} {sb : Nat} {v : Value} {part : Int} {r : List Int} {rd ct : Nat} {en : Bool} {er : Int}
theorem Sn.lt (h : Sn base w sb v part r rd ct en er) : sb < w.heap.size := lt_of_heap h.obj
theorem Sn.cells (h : Sn base w sb v part r rd ct en er) : w.cell? ⟨sb, 0, none⟩ = some (.int .i64 part) ∧ w.cell? ⟨sb, 1, none⟩ = some v ∧ w.cell? ⟨sb, 2, none⟩ = some (.int .i64 (rd : Int)) ∧ w.cell? ⟨sb, 3, none⟩ = some (.int .i64 (ct : Int)) ∧ w.cell? ⟨sb, 4, none⟩ = some (.bool en) ∧ w.cell? ⟨sb, 5, none⟩ = some (.int .i64 er) :=
  ⟨(cell_of h.obj 0).trans rfl, (cell_of h.obj 1).trans rfl, (cell_of h.obj 2).trans rfl, (cell_of h.obj 3).trans rfl, (cell_of h.obj 4).trans rfl, (cell_of h.obj 5).trans rfl⟩
theorem Sn.fro (h : Sn base w sb v part r rd ct en er) (o : Nat) : w.frozen? ⟨sb, o, none⟩ = false := frozen_of h.obj o
theorem Sn.kept {S : Nat → Prop} (h : Sn base w sb v part r rd ct en er) (hs : Same S w w') (h1 : ¬ S sb) (h2 : ∀ k, v.ownBlock = some k → ¬ S k) : Sn base w' sb v part r rd ct en er :=
  ⟨(hs.block _ h.lt h1).trans h.obj, h.row.kept hs h2, h.ne, h.byts, h.len, h.cts⟩
theorem Sn.on (h : Sn base w sb v part r rd ct en er) (hs : Kept w w') : Sn base w' sb v part r rd ct en er := h.kept hs (fun h => h) fun _ _ h => h
/-- The scanner with other fields, its bytes untouched. -/
theorem Sn.turn {part' : Int} {rd' ct' : Nat} {en' : Bool} {er' : Int} (h : Sn base w sb v part r rd ct en er) (hs : Same (fun k => k = sb) w w') (ho : w'.heap[sb]? = some (.cells (scnC part' v rd' ct' en' er') 55 (0, 0))) (hr : rd' + r.length ≤ 211106232532992) (hc : ct' ≤ 4096) : Sn base w' sb v part' r rd' ct' en' er' :=
  ⟨ho, h.row.kept hs (fun k hk => h.ne k hk), h.ne, h.byts, hr, hc⟩
theorem one_set (w : World) (sb i : Nat) (u : Value) : Same (fun k => k = sb) w (w.setCell ⟨sb, i, none⟩ u) := Same.setCell (S := fun k => k = sb) (Same.refl _ w) _ (.inr rfl) _
set_option maxRecDepth 100000 in
theorem snew_any (w : World) : Calls Try.prog 10 #[] w fun e w' => ∃ sb, e = .returned (.pointer (some ⟨sb, 0, none⟩)) ∧ Sn w.heap.size w' sb (.slice none 0 0) 0 [] 0 0 false 0 ∧ Kept w w' ∧ w.heap.size ≤ sb := by
  go_enter Try.func10, Try.ntmps10
  go_wp2_with fail
  go_ret
  exact ⟨_, rfl, ⟨heap_new w _, Tl.nil _ _, fun k e => (by cases e), Byts.nil, by simp, by decide⟩, (Same.refl _ w).alloc _, Nat.le_refl _⟩
set_option maxRecDepth 100000 in
theorem soffset_any (h : Sn base w sb v part r rd ct en er) : Calls Try.prog 20 #[.pointer (some ⟨sb, 0, none⟩)] w fun e w' => e = .returned (.int .i64 (rd : Int)) ∧ w' = w := by
  obtain ⟨-, -, c2, -, -, -⟩ := h.cells
  clear h
  go_enter Try.func20, Try.ntmps20
  go_wp2
  go_ret
  exact ⟨rfl, rfl⟩
set_option maxRecDepth 100000 in
theorem send_any (h : Sn base w sb v part r rd ct en er) : Calls Try.prog 19 #[.pointer (some ⟨sb, 0, none⟩)] w fun e w' => e = .returned (.int .i64 (if en then 73 else 0)) ∧ Sn base w' sb v part r rd ct true er ∧ Same (fun k => k = sb) w w' := by
  obtain ⟨-, -, -, -, c4, -⟩ := h.cells
  have f4 := h.fro 4
  have hlt := h.lt
  cases en with
  | true =>
    have H : Hid _ := h
    clear h
    go_enter Try.func19, Try.ntmps19
    go_wp2_with fail
    go_ret
    exact ⟨rfl, H.out, Same.refl _ _⟩
  | false =>
    have HS : Hid _ := one_set w sb 4 (.bool true)
    have H : Hid _ := h.turn (one_set w sb 4 (.bool true)) (part' := part) (rd' := rd) (ct' := ct) (en' := true) (er' := er) (setCell_at h.obj 4 _) h.len h.cts
    clear h
    go_enter Try.func19, Try.ntmps19
    go_wp2_with fail
    go_ret
    exact ⟨rfl, H.out, HS.out⟩
set_option maxRecDepth 100000 in
theorem sfail_any (h : Sn base w sb v part r rd ct en er) (n : Nat) (hn : rd + n ≤ 211106232532992) (e : Int) : Calls Try.prog 23 #[.pointer (some ⟨sb, 0, none⟩), .int .i64 (n : Int), .int .i64 e] w fun x w' => x = .returned (.tuple #[]) ∧ Sn base w' sb (.slice none 0 0) 3 [] (rd + n) ct en e ∧ Same (fun k => k = sb) w w' := by
  obtain ⟨c0, c1, c2, -, -, c5⟩ := h.cells
  have f0 := h.fro 0
  have f1 := h.fro 1
  have f2 := h.fro 2
  have f5 := h.fro 5
  have hlt := h.lt
  have H : Hid _ := h
  obtain ⟨q, eq⟩ : ∃ q, q = rd + n := ⟨_, rfl⟩
  have hq : (rd : Int) + (n : Int) = (q : Int) := by omega
  have hql : (q : Int) ≤ 211106232532992 := by omega
  rw [← eq]
  have HQ : Hid (q ≤ 211106232532992) := by show q ≤ _; omega
  clear h eq hn
  go_enter Try.func23, Try.ntmps23
  go_wp2_with fail
  go_end0
  refine ⟨rfl, ⟨?_, Tl.nil _ _, fun k e => (by cases e), Byts.nil, by simpa using HQ.out, H.out.cts⟩, ?_⟩
  · exact setCell_at (setCell_at (setCell_at (setCell_at H.out.obj 0 _) 5 _) 2 _) 1 _
  · exact Same.setCell (Same.setCell (Same.setCell (Same.setCell (S := fun k => k = sb) (Same.refl _ w) _ (.inr rfl) _) _ (.inr rfl) _) _ (.inr rfl) _) _ (.inr rfl) _
/-- What an item that isn't there whole leaves. -/
def Lk (base : Nat) (w : World) (sb : Nat) (v : Value) (part : Int) (r : List Int) (rd ct : Nat) (en : Bool) (er : Int) (n : Nat) (w' : World) : Prop :=
  (en = true ∧ Sn base w' sb (.slice none 0 0) 3 [] (rd + n) ct en 51 ∧ Same (fun k => k = sb) w w') ∨ (en = false ∧ Sn base w' sb v part r rd ct en er ∧ Kept w w')
set_option maxRecDepth 100000 in
theorem slack_any (h : Sn base w sb v part r rd ct en er) (n : Nat) (hn : rd + n ≤ 211106232532992) : Calls Try.prog 33 #[.pointer (some ⟨sb, 0, none⟩), .int .i64 (n : Int)] w fun x w' => x = .returned (.tuple #[]) ∧ Lk base w sb v part r rd ct en er n w' := by
  obtain ⟨-, -, -, -, c4, -⟩ := h.cells
  have H : Hid _ := h
  have HF : Hid _ := sfail_any h n hn 51
  have hlt := h.lt
  clear h
  cases en with
  | true =>
    go_enter Try.func33, Try.ntmps33
    go_wp2_with fail
    refine Calls.mono HF.out ?_
    rintro x w1 ⟨rfl, s1, k1⟩
    have S1 : Hid _ := s1
    have K1 : Hid _ := k1
    clear s1 k1
    go_wp2_with fail
    go_end0
    exact ⟨rfl, .inl ⟨rfl, S1.out, K1.out⟩⟩
  | false =>
    go_enter Try.func33, Try.ntmps33
    go_wp2_with fail
    go_end0
    exact ⟨rfl, .inr ⟨rfl, H.out, Same.refl _ _⟩⟩
set_option maxRecDepth 100000 in
set_option maxHeartbeats 800000 in
theorem spass_any (h : Sn base w sb v part r rd ct en er) (n : Nat) (hn : n ≤ r.length) (p : Int) : Calls Try.prog 34 #[.pointer (some ⟨sb, 0, none⟩), .int .i64 (n : Int), .int .i64 p] w fun x w' => x = .returned (.tuple #[]) ∧ (∃ v', Sn base w' sb v' p (r.drop n) (rd + n) ct en er ∧ v'.ownBlock = v.ownBlock) ∧ Same (fun k => k = sb) w w' := by
  obtain ⟨c0, c1, c2, -, -, -⟩ := h.cells
  have f0 := h.fro 0
  have f1 := h.fro 1
  have f2 := h.fro 2
  have hlt := h.lt
  have hlen := h.len
  have H : Hid _ := h
  obtain ⟨q, eq⟩ : ∃ q, q = rd + n := ⟨_, rfl⟩
  have hq : (rd : Int) + (n : Int) = (q : Int) := by omega
  have hql : (q : Int) ≤ 211106232532992 := by omega
  have HD : Hid (q + (r.drop n).length ≤ 211106232532992) := by show q + _ ≤ _; rw [List.length_drop]; omega
  rw [← eq]
  have HE : Hid (∀ (w1 : World) (u : Value), w1 = ((w.setCell ⟨sb, 1, none⟩ u).setCell ⟨sb, 2, none⟩ (.int .i64 (q : Int))).setCell ⟨sb, 0, none⟩ (.int .i64 p) → Tl base w u (r.drop n) → u.ownBlock = v.ownBlock → (∃ v', Sn base w1 sb v' p (r.drop n) q ct en er ∧ v'.ownBlock = v.ownBlock) ∧ Same (fun k => k = sb) w w1) := fun w1 u e ht hv => by
    have hs : Same (fun k => k = sb) w w1 := by
      rw [e]
      exact Same.setCell (Same.setCell (Same.setCell (S := fun k => k = sb) (Same.refl _ w) _ (.inr rfl) _) _ (.inr rfl) _) _ (.inr rfl) _
    refine ⟨⟨u, ⟨?_, ht.kept hs (fun k hk => h.ne k (hv ▸ hk)), fun k hk => h.ne k (hv ▸ hk), h.byts.drop n, HD.out, h.cts⟩, hv⟩, hs⟩
    rw [e]
    exact setCell_at (setCell_at (setCell_at h.obj 1 _) 2 _) 0 _
  rcases h.row with ⟨rfl, h0⟩ | ⟨g, off, cap, cur, rfl, hb, hg, h1, h2, h3, h4⟩
  · have hr0 : r.length = 0 := by rw [h0]; rfl
    obtain rfl : n = 0 := by omega
    have HR : Hid _ := h0
    obtain rfl : q = rd := by omega
    clear h h0 eq hq hn hlen
    go_enter Try.func34, Try.ntmps34
    go_wp2_with fail
    go_end0
    refine ⟨rfl, HE.out _ (.slice none 0 0) ?_ ?_ rfl⟩
    · rfl
    · rw [HR.out]
      exact Tl.nil base w
  · obtain ⟨L, eL⟩ : ∃ L, L = r.length := ⟨_, rfl⟩
    rw [← eL] at c1 hlen hn h1
    have hnl : (n : Int) ≤ (L : Int) := by omega
    by_cases hc : n = cap
    · subst hc
      obtain rfl : L = n := by omega
      have HT : Hid _ := Tl.none h.row eL
      clear h eq hn hlen hg h4 h3 eL h1
      go_enter Try.func34, Try.ntmps34
      go_wp2_with fail
      go_end0
      refine ⟨rfl, HE.out _ (.slice (some ⟨g, off, none⟩) 0 0) rfl HT.out rfl⟩
    · have HT : Hid _ := Tl.drop h.row (n := n) (by omega)
      rw [← eL] at HT
      have hnc : n < cap := by omega
      have hc2 : ¬ (n : Int) = (cap : Int) := by omega
      clear h eq hn hlen hg h4 h3 eL
      go_enter Try.func34, Try.ntmps34
      go_wp2_with fail
      go_end0
      refine ⟨rfl, HE.out _ (.slice (some ⟨g, off + n, none⟩) (L - n) (cap - n)) rfl HT.out rfl⟩
/-- Feed. -/
def FeedR (base : Nat) (w : World) (sb : Nat) (v : Value) (part : Int) (r : List Int) (rd ct : Nat) (en : Bool) (er : Int) (p : List Int) (w' : World) : Prop :=
  if en = true ∨ part = 3 then w' = w else ∃ v', Sn base w' sb v' part (r ++ p) rd ct en er ∧ (∀ k, v'.ownBlock = some k → v.ownBlock = some k ∨ w.heap.size ≤ k) ∧ Same (fun k => k = sb ∨ v.ownBlock = some k) w w'
theorem feed_facts {p : List Int} {v' : Value} {w1 : World} (h : Sn base w sb v part r rd ct en er) (hR : Tl base w1 v' (r ++ p) ∧ Same (fun k => v.ownBlock = some k) w w1 ∧ (∀ k, v'.ownBlock = some k → v.ownBlock = some k ∨ w.heap.size ≤ k)) :
    ∃ a n c, v' = .slice a n c ∧ w1.cell? ⟨sb, 1, none⟩ = some v ∧ w1.frozen? ⟨sb, 1, none⟩ = false ∧ sb < w1.heap.size ∧ Hid (Tl base w1 (.slice a n c) (r ++ p) ∧ Same (fun k => v.ownBlock = some k) w w1 ∧ (∀ k, (Value.slice a n c).ownBlock = some k → v.ownBlock = some k ∨ w.heap.size ≤ k)) := by
  obtain ⟨a, c, rfl, -⟩ := hR.1.bytes
  have ho := (hR.2.1.block _ h.lt (fun e => h.ne _ e rfl)).trans h.obj
  exact ⟨a, _, c, rfl, (cell_of ho 1).trans rfl, frozen_of ho 1, lt_of_heap ho, hR⟩
theorem feed_done {p : List Int} {a : Option Addr} {n c : Nat} {w1 : World} (h : Sn base w sb v part r rd ct en er) (hb : rd + (r ++ p).length ≤ 211106232532992) (hby : Byts p) (hR : Tl base w1 (.slice a n c) (r ++ p) ∧ Same (fun k => v.ownBlock = some k) w w1 ∧ (∀ k, (Value.slice a n c).ownBlock = some k → v.ownBlock = some k ∨ w.heap.size ≤ k)) :
    Sn base (w1.setCell ⟨sb, 1, none⟩ (.slice a n c)) sb (.slice a n c) part (r ++ p) rd ct en er ∧ (∀ k, (Value.slice a n c).ownBlock = some k → v.ownBlock = some k ∨ w.heap.size ≤ k) ∧ Same (fun k => k = sb ∨ v.ownBlock = some k) w (w1.setCell ⟨sb, 1, none⟩ (.slice a n c)) := by
  have ho := (hR.2.1.block _ h.lt (fun e => h.ne _ e rfl)).trans h.obj
  have hne : ∀ k, (Value.slice a n c).ownBlock = some k → k ≠ sb := fun k hk e => by
    rcases hR.2.2 k hk with h1 | h1
    · exact h.ne k h1 e
    · have := h.lt
      omega
  refine ⟨⟨setCell_at ho 1 _, hR.1.kept (one_set w1 sb 1 _) (fun k hk => hne k hk), hne, h.byts.append hby, hb, h.cts⟩, hR.2.2, ?_⟩
  exact Same.setCell (S := fun k => k = sb ∨ v.ownBlock = some k) (hR.2.1.mono fun k _ e => .inr e) _ (.inr (.inl rfl)) _
set_option maxRecDepth 100000 in
set_option maxHeartbeats 800000 in
theorem sfeed_any (h : Sn base w sb v part r rd ct en er) (hbase : base ≤ w.heap.size) {oa : Option Addr} {c : Nat} {p : List Int} (hp : BytesAt w oa p) (hnil : oa = none → p.length = 0 ∧ c = 0) (hby : Byts p) (hb : rd + (r ++ p).length ≤ 211106232532992) : Calls Try.prog 12 #[.pointer (some ⟨sb, 0, none⟩), .slice oa p.length c] w fun x w' => x = .returned (.int .i64 (if en then 73 else 0)) ∧ FeedR base w sb v part r rd ct en er p w' := by
  obtain ⟨a, cap, rfl, -⟩ := h.row.bytes
  obtain ⟨c0, c1, -, -, c4, -⟩ := h.cells
  have f1 := h.fro 1
  have hlt := h.lt
  have H : Hid _ := h
  have HBY : Hid _ := hby
  have HB : Hid _ := hb
  have HA : Hid (∀ ty, _) := fun ty => app_tail h.row hp hnil (by have := h.len; simp only [List.length_append] at hb; omega) hbase ty
  cases en with
  | true =>
    clear h hp hnil hby hb
    go_enter Try.func12, Try.ntmps12
    go_wp2_with fail
    go_ret
    exact ⟨rfl, by unfold FeedR; rw [if_pos (.inl rfl)]⟩
  | false =>
    by_cases hq : part = 3
    · subst hq
      clear h hp hnil hby hb
      go_enter Try.func12, Try.ntmps12
      go_wp2_with fail
      go_ret
      exact ⟨rfl, by unfold FeedR; rw [if_pos (.inr rfl)]⟩
    · have hq' : (part != 3) = true := by simpa using hq
      have HQ : Hid (¬ part = 3) := hq
      clear h hp hnil hby hb hq
      go_enter Try.func12, Try.ntmps12
      go_wp2_with (at_builtin; refine wpList_app rfl (.tmp 18) (.tmp 19) 27 27 rfl _ _ rfl rfl _ HA.out ?_; intro v' w1 hR; obtain ⟨a2, n2, c2, rfl, y1, y2, y3, HY⟩ := feed_facts H.out hR; clear hR)
      go_ret
      refine ⟨rfl, ?_⟩
      unfold FeedR
      rw [if_neg (by simpa using HQ.out)]
      exact ⟨_, feed_done H.out HB.out HBY.out HY.out⟩
end
end Go.Proofs.Ytflemfohnpjeaaa
