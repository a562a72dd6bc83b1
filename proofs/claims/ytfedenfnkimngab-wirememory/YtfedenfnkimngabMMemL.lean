/- What is proved: WireMemory answers true for every list of bytes and every number. -/
import Derived.Test.YtfedenfnkimngabMMemA
namespace Go.Proofs.Ytfedenfnkimngab
open Go.RowKit

set_option maxRecDepth 100000 in
theorem memory_no (oa : Option Addr) (c : Nat) (L : Nat) (n : Int) (w : World) (h : L < 2 ∨ n < 0 ∨ 72057594037927935 < n) (hL : L ≤ 140737488355328) :
    Calls Try.prog 3 #[.slice oa L c, .int .i64 n] w fun e w' => e = .returned (.bool true) ∧ Kept w w' := by
  have hnot : ∀ (x : Bool) (w : World), (Op.unary .not (.bool x)).run Try.prog w = .ok (.bool (!x)) w := fun _ _ => rfl
  have HA : Hid _ := anchor_any w
  by_cases h0 : (L : Int) < 2
  · have d0 : decide ((L : Int) < 2) = true := decide_eq_true h0
    clear h
    go_enter Try.func3, Try.ntmps3
    go_wp2_with fail
    refine Calls.mono HA.out ?_
    rintro e w1 ⟨rfl, k1⟩
    go_wp2_with fail
    go_ret
    exact ⟨rfl, k1⟩
  · have d0 : decide ((L : Int) < 2) = false := decide_eq_false h0
    by_cases h1 : n < 0
    · have d1 : decide (n < 0) = true := decide_eq_true h1
      clear h
      go_enter Try.func3, Try.ntmps3
      go_wp2_with fail
      refine Calls.mono HA.out ?_
      rintro e w1 ⟨rfl, k1⟩
      go_wp2_with fail
      go_ret
      exact ⟨rfl, k1⟩
    · have d1 : decide (n < 0) = false := decide_eq_false h1
      have h2 : 72057594037927935 < n := by omega
      have d2 : decide (72057594037927935 < n) = true := decide_eq_true h2
      clear h
      go_enter Try.func3, Try.ntmps3
      go_wp2_with fail
      refine Calls.mono HA.out ?_
      rintro e w1 ⟨rfl, k1⟩
      go_wp2_with fail
      go_ret
      exact ⟨rfl, k1⟩

def x85 (x : Int) : Int := bits BinOp.xor IntKind.u8 x 85
/-- The first k bytes are turned. -/
def turn (k : Nat) (l : List Int) : List Int := (l.take k).map x85 ++ l.drop k
theorem turn_len (k : Nat) (l : List Int) : (turn k l).length = l.length := by simp [turn]; omega
theorem turn_get {k : Nat} {l : List Int} {x : Int} (h : l[k]? = some x) : (turn k l)[k]? = some x := by
  have hk := (List.getElem?_eq_some_iff.1 h).1
  unfold turn
  rw [List.getElem?_append_right (by simp; omega), List.length_map, List.length_take, Nat.min_eq_left (by omega), Nat.sub_self, List.getElem?_drop]
  exact h
theorem turn_next {k : Nat} {l : List Int} {x : Int} (h : l[k]? = some x) : (turn k l).set k (x85 x) = turn (k + 1) l := by
  obtain ⟨hk, ex⟩ := List.getElem?_eq_some_iff.1 h
  have e : ((l.take k).map x85).length = k := by simp; omega
  unfold turn
  rw [List.set_append_right _ _ (by omega), e, Nat.sub_self, List.drop_eq_getElem_cons hk, List.set_cons_zero, List.take_add_one, h]
  simp
theorem turn_all (l : List Int) : turn l.length l = l.map x85 := by simp [turn]
theorem rTake_first {l : List Int} {h : Nat} (hh : h ≤ l.length) : rTake l 0 0 (h : Int) = ((l.take h, 0), (h, 0)) := by
  unfold rTake
  rw [if_neg (by decide), if_neg (by omega), if_neg (by omega)]
  simp
theorem rTake_rest {l : List Int} {h d : Nat} (hd : h + d = l.length) : rTake l h 0 (d : Int) = ((l.drop h, 0), (h + d, 0)) := by
  unfold rTake
  rw [if_neg (by decide), if_neg (by omega), if_neg (by omega), Int.toNat_natCast, List.take_of_length_le (by simp; omega)]

def pick4 {α : Type} (a b c d : α) : Nat → α
  | 0 => a
  | 1 => b
  | 2 => c
  | _ => d
/-- What stays while the four rows are turned. -/
structure St (w0 wr : World) (gt gr LB : Nat) (l : List Int) (G C N : Nat → Nat) : Prop where
  twin : BytesAt wr (some ⟨gt, 0, none⟩) l
  room : BytesAt wr (some ⟨gr, 0, none⟩) (l.map x85)
  list : ∀ i, i < 4 → wr.cell? ⟨LB, i, none⟩ = some (.slice (some ⟨G i, 0, none⟩) (N i) (C i))
  lb : LB < wr.heap.size
  kept : Kept w0 wr
/-- The four rows lie apart of all else. -/
structure Ap (w0 : World) (gt gr LB : Nat) (G : Nat → Nat) : Prop where
  t : ∀ i, i < 4 → G i ≠ gt
  r : ∀ i, i < 4 → G i ≠ gr
  b : ∀ i, i < 4 → G i ≠ LB
  w : ∀ i, i < 4 → w0.heap.size ≤ G i
  o : ∀ i j, i < 4 → j < 4 → i ≠ j → G i ≠ G j
theorem St.by {w0 wr wr' : World} {gt gr LB : Nat} {l : List Int} {G C N : Nat → Nat} (h : St w0 wr gt gr LB l G C N) (a : Ap w0 gt gr LB G) {i : Nat} (hi : i < 4) (s : Same (fun k => k = G i) wr wr') : St w0 wr' gt gr LB l G C N :=
  ⟨h.twin.kept s (fun k hk e => by obtain ⟨_, off, e'⟩ := hk; cases e'; exact a.t i hi e.symm), h.room.kept s (fun k hk e => by obtain ⟨_, off, e'⟩ := hk; cases e'; exact a.r i hi e.symm),
    fun j hj => (s.cell (p := ⟨LB, j, none⟩) h.lb (fun e => a.b i hi e.symm)).trans (h.list j hj), Nat.lt_of_lt_of_le h.lb s.size, Same.trans h.kept s (fun k hk e => by have := a.w i hi; omega)⟩
theorem St.on {w0 wr wr' : World} {gt gr LB : Nat} {l : List Int} {G C N : Nat → Nat} (h : St w0 wr gt gr LB l G C N) (s : Kept wr wr') : St w0 wr' gt gr LB l G C N :=
  ⟨h.twin.kept s (fun _ _ h => h), h.room.kept s (fun _ _ h => h), fun j hj => (s.cell (p := ⟨LB, j, none⟩) h.lb (fun h => h)).trans (h.list j hj), Nat.lt_of_lt_of_le h.lb s.size, h.kept.trans' s⟩

set_option maxRecDepth 100000 in
set_option maxHeartbeats 12800000 in
theorem memory_yes (oa : Option Addr) (c : Nat) (l : List Int) (n : Nat) (w : World) (h : ArgB w oa c l) (hL2 : 2 ≤ l.length) (hn : n ≤ 72057594037927935) :
    Calls Try.prog 3 #[.slice oa l.length c, .int .i64 (n : Int)] w fun e w' => e = .returned (.bool true) ∧ Kept w w' := by
  have hnot : ∀ (x : Bool) (w : World), (Op.unary .not (.bool x)).run Try.prog w = .ok (.bool (!x)) w := fun _ _ => rfl
  have hle := h.le
  have HA : Hid _ := anchor_any w
  have HR : Hid (∀ W, Kept w W → _) := fun W (k : Kept w W) => app_lit (c := c) (h.on k).data h.nil (by omega)
  obtain ⟨L, eL⟩ : ∃ L, L = l.length := ⟨_, rfl⟩
  obtain ⟨hf, ehf⟩ : ∃ hf, hf = L / 2 := ⟨_, rfl⟩
  obtain ⟨dd, edd⟩ : ∃ dd, dd = L - hf := ⟨_, rfl⟩
  have htk : (l.take hf).length = hf := by rw [List.length_take]; omega
  have HP : Hid (∀ W g cc, BytesAt W (some ⟨g, 0, none⟩) l → Calls Try.prog 5 #[.slice (some ⟨g, 0, none⟩) hf cc, .int .i64 (n : Int)] W fun e w' => ∃ v, e = .returned (.tuple #[v, .int .i64 0]) ∧ OwnB W.heap.size w' v (l.take hf ++ form n) ∧ Kept W w') := fun W g cc hb => by
    have := append_any W (some ⟨g, 0, none⟩) cc (l.take hf) n (bytes_take hb hf) (fun e => by cases e) (by omega) hn
    rwa [htk] at this
  have HQ : Hid (∀ W g cc s, s.size ≤ 1000 → BytesAt W (some ⟨g, 0, none⟩) l → Calls Try.prog 6 #[.slice (some ⟨g, 0, none⟩) hf cc, .string s] W fun e w' => ∃ v lq, e = .returned (.tuple #[v, .int .i64 0]) ∧ OwnB W.heap.size w' v lq ∧ 0 < lq.length ∧ lq.length ≤ 140737488352000 ∧ Kept W w') := fun W g cc s hs hb => by
    have := appendText_any W (some ⟨g, 0, none⟩) cc (l.take hf) s (bytes_take hb hf) (fun e => by cases e) (by omega)
    rw [htk] at this
    refine this.mono ?_
    rintro e w' ⟨v, rfl, o, k⟩
    have h8 : (form s.size).length ≤ 8 := form8 (by omega)
    have hp := form_pos s.size
    exact ⟨v, _, rfl, o, by rw [List.length_append, List.length_append]; omega, by rw [List.length_append, List.length_append, htk, nums_length]; omega, k⟩
  have HSM : Hid (∀ W g1 c1 g2 c2, BytesAt W (some ⟨g1, 0, none⟩) l → BytesAt W (some ⟨g2, 0, none⟩) l → _) := fun W g1 c1 g2 c2 (b1 : BytesAt W (some ⟨g1, 0, none⟩) l) (b2 : BytesAt W (some ⟨g2, 0, none⟩) l) => same_true W (some ⟨g1, 0, none⟩) (some ⟨g2, 0, none⟩) c1 c2 l b1 b2 (by omega)
  have HOP : Hid (∀ W g cc, BytesAt W (some ⟨g, 0, none⟩) l → _) := fun W g cc (b1 : BytesAt W (some ⟨g, 0, none⟩) l) => open_any W (some ⟨g, 0, none⟩) cc l b1 (fun e => by cases e) (by omega) h.byts
  have HT1 : Hid (∀ W cb a cap, Cu W cb a cap l 0 0 → _) := fun W cb a cap (u : Cu W cb a cap l 0 0) => take_any u (hf : Int)
  rw [rTake_first (by omega)] at HT1
  have HT2 : Hid (∀ W cb a cap, Cu W cb a cap l hf 0 → _) := fun W cb a cap (u : Cu W cb a cap l hf 0) => take_any u (dd : Int)
  rw [rTake_rest (by omega)] at HT2
  have HS1 : Hid (∀ W v b g cc, OwnB b W v (l.take hf) → BytesAt W (some ⟨g, 0, none⟩) l → Calls Try.prog 7 #[v, .slice (some ⟨g, 0, none⟩) hf cc] W fun e w' => e = .returned (.bool true) ∧ w' = W) := fun W v b g cc o hb => by
    obtain ⟨a1, c1, rfl, b1, -, -, -, -⟩ := OwnB.bytes o
    have := same_true W a1 (some ⟨g, 0, none⟩) c1 cc (l.take hf) b1 (bytes_take hb hf) (by omega)
    rw [htk] at this ⊢
    exact this
  have hdl : (l.drop hf).length = dd := by rw [List.length_drop]; omega
  have HS2 : Hid (∀ W v b g cc, OwnB b W v (l.drop hf) → BytesAt W (some ⟨g, 0, none⟩) l → Calls Try.prog 7 #[v, .slice (some ⟨g, hf, none⟩) dd cc] W fun e w' => e = .returned (.bool true) ∧ w' = W) := fun W v b g cc o hb => by
    obtain ⟨a1, c1, rfl, b1, -, -, -, -⟩ := OwnB.bytes o
    have hb2 := bytes_part hb hf dd
    rw [List.take_of_length_le (by omega)] at hb2
    have := same_true W a1 (some ⟨g, hf, none⟩) c1 cc (l.drop hf) b1 hb2 (by omega)
    rw [hdl] at this ⊢
    exact this
  have hpos : 0 < l.length := by omega
  rw [← eL] at HR HSM HOP hle hL2 ⊢
  have EL : Hid _ := eL
  have HPOS : Hid _ := hpos
  have hq1 : (L : Int).tdiv 2 = (hf : Int) := by rw [Int.tdiv_eq_ediv_of_nonneg (by omega)]; omega
  have hq2 : (hf : Int) ≤ (L : Int) := by omega
  have hq3 : (L : Int) - (hf : Int) = (dd : Int) := by omega
  have hq4 : (L : Int) ≤ 140737488351232 := by omega
  have hq8 : L - hf = dd := by omega
  have hq5 : 1 ≤ hf := by omega
  have hq6 : hf < L := by omega
  have hq7 : (dd : Int) ≤ 140737488351232 := by omega
  have HDD : Hid (hf + dd = L) := by show hf + dd = L; omega
  have HFA : Hid ((l.take hf).length = hf) := htk
  have HFB : Hid ((l.drop hf).length = dd) := hdl
  have HBY : Hid _ := h.byts
  have HNM : Hid (n ≤ 72057594037927935) := hn
  have d0 : decide ((L : Int) < 2) = false := decide_eq_false (by omega)
  have d1 : decide ((n : Int) < 0) = false := decide_eq_false (by omega)
  have d2 : decide (72057594037927935 < (n : Int)) = false := decide_eq_false (by omega)
  have d0' : ¬ (L : Int) < 2 := by omega
  have d1' : ¬ (n : Int) < 0 := by omega
  have d2' : ¬ 72057594037927935 < (n : Int) := by omega
  clear h hle eL ehf edd htk hdl hpos hn hL2
  go_enter Try.func3, Try.ntmps3
  go_wp2_with fail
  refine Calls.mono HA.out ?_
  rintro e w1 ⟨rfl, k1⟩
  have K1 : Hid _ := k1
  clear k1
  go_wp2_with (first
    | (at_builtin; refine wpList_app rfl (.tmp 42) (.tmp 43) 22 22 rfl _ _ rfl rfl _ (HR.out _ K1.out) ?_; (rintro v2 w2 ⟨o2, k2⟩); (obtain ⟨gt, ct, rfl, lt2⟩ := OwnB.addr o2 HPOS.out); rw [← EL.out])
    | (at_builtin; refine wpList_app rfl (.tmp 45) (.tmp 46) 22 22 rfl _ _ rfl rfl _ (HR.out _ (Same.trans' K1.out k2)) ?_; (rintro v3 w3 ⟨o3, k3⟩); (obtain ⟨gr, cr, rfl, lr3⟩ := OwnB.addr o3 HPOS.out); rw [← EL.out]; (have q1 : ¬ cr = 0 := by have := EL.out; omega); (have q2 : (hf : Int) ≤ (cr : Int) := by have := EL.out; omega)))
  have K3 : Hid (Kept w w3) := (Same.trans' K1.out k2).trans' k3
  have R3 : Hid (Rw w2.heap.size w3 gr L cr l) := by rw [EL.out]; exact o3
  have T3 : Hid (BytesAt w3 (some ⟨gt, 0, none⟩) l) := BytesAt.kept (BytesAt.at_own o2) k3 (fun _ _ h => h)
  have Bt : Hid (w.heap.size ≤ gt ∧ gt < w2.heap.size) := by
    have := Rw.lt o2
    have := K1.out.size
    exact ⟨by omega, by omega⟩
  have Br : Hid (w2.heap.size ≤ gr ∧ gr < w3.heap.size) := Rw.lt o3
  have hct : (L : Int) ≤ (ct : Int) := by have := EL.out; omega
  have hct2 : ¬ ct = 0 := by omega
  have hct3 : ¬ ct = hf := by omega
  have hct4 : (hf : Int) ≤ (ct : Int) := by omega
  clear o2 k2 o3 k3 lt2 lr3
  refine Calls.mono (HP.out _ _ _ (BytesAt.at_own R3.out)) ?_
  rintro e w4 ⟨vp, rfl, o4, k4⟩
  have K4 : Hid (Kept w w4) := Same.trans' K3.out k4
  have R4 : Hid (Rw w2.heap.size w4 gr L cr l) := Rw.kept R3.out k4 (fun h => h)
  have T4 : Hid (BytesAt w4 (some ⟨gt, 0, none⟩) l) := BytesAt.kept T3.out k4 (fun _ _ h => h)
  obtain ⟨gp, cp, rfl, -⟩ := OwnB.addr o4 (by have := form_pos n; rw [List.length_append]; omega)
  obtain ⟨np, enp⟩ : ∃ np, np = (l.take hf ++ form n).length := ⟨_, rfl⟩
  have P4 : Hid (Rw w3.heap.size w4 gp np cp (l.take hf ++ form n)) := by rw [enp]; exact o4
  have Bp : Hid (w3.heap.size ≤ gp ∧ gp < w4.heap.size) := Rw.lt o4
  have hnp : Hid (np ≤ 140737488351240) := by
    show np ≤ 140737488351240
    have := form8 HNM.out
    rw [enp, List.length_append, HFA.out]
    omega
  rw [← enp]
  clear o4 k4 enp R3 T3
  go_wp2_with fail
  refine Calls.mono (HQ.out _ _ _ _ (by decide) (BytesAt.at_own R4.out)) ?_
  rintro e w5 ⟨vq, lq, rfl, o5', lq0, lq1, k5⟩
  have K5 : Hid (Kept w w5) := Same.trans' K4.out k5
  have R5 : Hid (Rw w2.heap.size w5 gr L cr l) := Rw.kept R4.out k5 (fun h => h)
  have T5 : Hid (BytesAt w5 (some ⟨gt, 0, none⟩) l) := BytesAt.kept T4.out k5 (fun _ _ h => h)
  have P5 : Hid (Rw w3.heap.size w5 gp np cp (l.take hf ++ form n)) := Rw.kept P4.out k5 (fun h => h)
  obtain ⟨gq, cq, rfl, -⟩ := OwnB.addr o5' lq0
  obtain ⟨nq5, enq⟩ : ∃ nq5, nq5 = lq.length := ⟨_, rfl⟩
  have Q5 : Hid (Rw w4.heap.size w5 gq nq5 cq lq) := by rw [enq]; exact o5'
  have Bq : Hid (w4.heap.size ≤ gq ∧ gq < w5.heap.size) := Rw.lt o5'
  have hnq : Hid (nq5 ≤ 140737488352000) := by rw [enq]; exact lq1
  rw [← enq]
  clear o5' k5 enq lq0 lq1 R4 T4 P4
  go_wp2_with fail
  refine Calls.mono (HSM.out _ _ _ _ _ (BytesAt.at_own R5.out) T5.out) ?_
  rintro e w6 ⟨rfl, rfl⟩
  go_wp2_with fail
  refine Calls.mono (HOP.out _ _ _ (BytesAt.at_own R5.out)) ?_
  rintro e w7 ⟨v7, rfl, ⟨cb, ca, ccap, rfl, u7, hcb, hcg⟩, k7⟩
  have K7 : Hid (Kept w w7) := Same.trans' K5.out k7
  have R7 : Hid (Rw w2.heap.size w7 gr L cr l) := Rw.kept R5.out k7 (fun h => h)
  have T7 : Hid (BytesAt w7 (some ⟨gt, 0, none⟩) l) := BytesAt.kept T5.out k7 (fun _ _ h => h)
  have P7 : Hid (Rw w3.heap.size w7 gp np cp (l.take hf ++ form n)) := Rw.kept P5.out k7 (fun h => h)
  have Q7 : Hid (Rw w4.heap.size w7 gq nq5 cq lq) := Rw.kept Q5.out k7 (fun h => h)
  have U7 : Hid _ := u7
  have HCG : Hid _ := hcg
  have BC : Hid (w6.heap.size ≤ cb ∧ cb < w7.heap.size) := ⟨hcb, u7.lt⟩
  clear k7 u7 hcg hcb R5 T5 P5 Q5
  go_wp2_with fail
  go_loopw [82] (fun i wr => ∃ j : Nat, j ≤ L ∧ i = .int .i64 j ∧ Rw w2.heap.size wr gr L cr (turn j l) ∧ Same (fun k => k = gr) w7 wr) (fun i _ => L - (intOf i).toNat)
  case atStart => exact ⟨0, Nat.zero_le _, rfl, by simpa [turn] using R7.out, Same.refl _ _⟩
  case round =>
    obtain ⟨j, hj, rfl, hr, hs⟩ := hrel
    have HRJ : Hid _ := hr
    have HS : Hid _ := hs
    by_cases hlt : j < L
    · have c1 : decide ((j : Int) < (L : Int)) = true := decide_eq_true (by omega)
      have hlt2 : (j : Int) < (L : Int) := by omega
      obtain ⟨x, hx⟩ : ∃ x, l[j]? = some x := ⟨_, List.getElem?_eq_getElem (by rw [← EL.out]; exact hlt)⟩
      obtain ⟨b', off', e', -, q0⟩ := BytesAt.at_own hr j x (turn_get hx)
      cases e'
      rw [Nat.zero_add] at q0
      obtain ⟨o1, f1, hbg⟩ := OwnB.set hr (i := j) (by rw [turn_len, ← EL.out]; exact hlt) (x85 x)
      rw [turn_next hx] at o1
      have O1 : Hid _ := o1
      have S1 : Hid (Same (fun k => k = gr) w7 (wr.setCell ⟨gr, j, none⟩ (.int .u8 (x85 x)))) := hs.setCell _ (.inr rfl) _
      unfold x85 at O1 S1
      clear hr hs hx o1 HRJ
      go_wp2_with fail
      go_roundw
      case rel => exact ⟨j + 1, hlt, by simp, O1.out, S1.out⟩
      case measure => simp only [intOf]; omega
    · have c1 : decide ((j : Int) < (L : Int)) = false := decide_eq_false (by omega)
      obtain rfl : L = j := by omega
      have bt := Bt.out
      have br := Br.out
      have bp := Bp.out
      have bq := Bq.out
      have bc := BC.out
      have z34 : w3.heap.size ≤ w4.heap.size := by omega
      have K8 : Hid (Kept w wr) := Same.trans K7.out hs (fun i hi e => by omega)
      have R8 : Hid (BytesAt wr (some ⟨gr, 0, none⟩) (l.map x85)) := by
        have := BytesAt.at_own hr
        rw [EL.out, turn_all] at this
        exact this
      have T8 : Hid (BytesAt wr (some ⟨gt, 0, none⟩) l) := BytesAt.kept T7.out hs (fun k hk e => by obtain ⟨_, off, e'⟩ := hk; cases e'; omega)
      have P8 : Hid (Rw w3.heap.size wr gp np cp (l.take hf ++ form n)) := Rw.kept P7.out hs (fun e => by omega)
      have Q8 : Hid (Rw w4.heap.size wr gq nq5 cq lq) := Rw.kept Q7.out hs (fun e => by omega)
      have U8 : Hid (Cu wr cb ca ccap l 0 0) := Cu.kept U7.out hs (fun e => by omega) (fun g e e2 => by have := HCG.out g e; omega)
      have BR8 : Hid (gr < wr.heap.size) := by have := hs.size; show gr < _; omega
      have Z8 : Hid (w7.heap.size ≤ wr.heap.size) := hs.size
      obtain ⟨z8, EZ8⟩ : ∃ z8, Hid (z8 = wr.heap.size) := ⟨_, rfl⟩
      clear hr hs HRJ HS bt br bp bq bc z34
      go_wp2_with fail
      refine Calls.mono (HT1.out _ _ _ _ U8.out) ?_
      rintro e w9 ⟨va, rfl, o9, u9, s9⟩
      have K9 : Hid (Kept w w9) := Same.trans K8.out s9 (fun i hi e => by have := BC.out; have := K7.out.size; have := Bq.out; have := Bp.out; have := Br.out; have := Bt.out; omega)
      have R9 : Hid (BytesAt w9 (some ⟨gr, 0, none⟩) (l.map x85)) := BytesAt.kept R8.out s9 (fun k hk e => by obtain ⟨_, off, e'⟩ := hk; cases e'; have := BC.out; have := Br.out; have := Bp.out; have := Bq.out; omega)
      have T9 : Hid (BytesAt w9 (some ⟨gt, 0, none⟩) l) := BytesAt.kept T8.out s9 (fun k hk e => by obtain ⟨_, off, e'⟩ := hk; cases e'; have := BC.out; have := Bt.out; have := Br.out; have := Bp.out; have := Bq.out; omega)
      have P9 : Hid (Rw w3.heap.size w9 gp np cp (l.take hf ++ form n)) := Rw.kept P8.out s9 (fun e => by have := BC.out; have := Bp.out; have := Bq.out; omega)
      have Q9 : Hid (Rw w4.heap.size w9 gq nq5 cq lq) := Rw.kept Q8.out s9 (fun e => by have := BC.out; have := Bq.out; omega)
      obtain ⟨ga, xa, rfl, -⟩ := OwnB.addr o9 (by rw [HFA.out]; exact hq5)
      have A9 : Hid (Rw z8 w9 ga hf xa (l.take hf)) := by
        have h9 : Rw wr.heap.size w9 ga (l.take hf).length xa (l.take hf) := o9
        rw [HFA.out, ← EZ8.out] at h9
        exact h9
      have BA : Hid (w7.heap.size ≤ ga ∧ ga < w9.heap.size) := by
        have := Rw.lt o9
        have := Z8.out
        exact ⟨by omega, by omega⟩
      have HT9 : Hid _ := HT2.out _ _ _ _ u9
      rw [HFA.out]
      clear o9 u9 s9 R8 T8 P8 Q8 U8
      go_wp2_with fail
      refine Calls.mono HT9.out ?_
      rintro e w10 ⟨vb, rfl, o10, -, s10⟩
      have K10 : Hid (Kept w w10) := Same.trans K9.out s10 (fun i hi e => by have := BC.out; have := K7.out.size; have := Bq.out; have := Bp.out; have := Br.out; have := Bt.out; omega)
      have R10 : Hid (BytesAt w10 (some ⟨gr, 0, none⟩) (l.map x85)) := BytesAt.kept R9.out s10 (fun k hk e => by obtain ⟨_, off, e'⟩ := hk; cases e'; have := BC.out; have := Br.out; have := Bp.out; have := Bq.out; omega)
      have T10 : Hid (BytesAt w10 (some ⟨gt, 0, none⟩) l) := BytesAt.kept T9.out s10 (fun k hk e => by obtain ⟨_, off, e'⟩ := hk; cases e'; have := BC.out; have := Bt.out; have := Br.out; have := Bp.out; have := Bq.out; omega)
      have P10 : Hid (Rw w3.heap.size w10 gp np cp (l.take hf ++ form n)) := Rw.kept P9.out s10 (fun e => by have := BC.out; have := Bp.out; have := Bq.out; omega)
      have Q10 : Hid (Rw w4.heap.size w10 gq nq5 cq lq) := Rw.kept Q9.out s10 (fun e => by have := BC.out; have := Bq.out; omega)
      have A10 : Hid (Rw z8 w10 ga hf xa (l.take hf)) := Rw.kept A9.out s10 (fun e => by have := BC.out; have := BA.out; omega)
      obtain ⟨gb, xb, rfl, -⟩ := OwnB.addr o10 (by rw [HFB.out]; have := HDD.out; omega)
      have B10 : Hid (Rw w9.heap.size w10 gb dd xb (l.drop hf)) := by rw [← HFB.out]; exact o10
      have BB : Hid (w9.heap.size ≤ gb ∧ gb < w10.heap.size) := Rw.lt o10
      have M1 : Hid _ := HS1.out w10 _ _ gt ct A10.out T10.out
      have M2 : Hid _ := HS2.out w10 _ _ gt (ct - hf) B10.out T10.out
      rw [HFB.out]
      clear o10 s10 R9 T9 P9 Q9 A9
      go_wp2_with fail
      refine Calls.mono M1.out ?_
      rintro e w11 ⟨rfl, rfl⟩
      go_wp2_with fail
      refine Calls.mono M2.out ?_
      rintro e w12 ⟨rfl, rfl⟩
      go_wp2_with fail
      obtain ⟨G, C, N, X0, HG⟩ : ∃ (G C N : Nat → Nat) (X0 : Nat → List Int), Hid (St w (w12.alloc (.cells #[.slice (some ⟨gp, 0, none⟩) np cp, .slice (some ⟨gq, 0, none⟩) nq5 cq, .slice (some ⟨ga, 0, none⟩) hf xa, .slice (some ⟨gb, 0, none⟩) dd xb] 22)) gt gr w12.heap.size l G C N ∧ Ap w gt gr w12.heap.size G ∧ (∀ i, i < 4 → Rw w.heap.size (w12.alloc (.cells #[.slice (some ⟨gp, 0, none⟩) np cp, .slice (some ⟨gq, 0, none⟩) nq5 cq, .slice (some ⟨ga, 0, none⟩) hf xa, .slice (some ⟨gb, 0, none⟩) dd xb] 22)) (G i) (N i) (C i) (X0 i)) ∧ (∀ i, i < 4 → N i ≤ 140737488352000)) := by
        have four : ∀ i, i < 4 → i = 0 ∨ i = 1 ∨ i = 2 ∨ i = 3 := fun i hi => by omega
        have bt := Bt.out
        have br := Br.out
        have bp := Bp.out
        have bq := Bq.out
        have bc := BC.out
        have ba := BA.out
        have bb := BB.out
        have s3 := K3.out.size
        have s4 := K4.out.size
        have s8 := K8.out.size
        have s9 := K9.out.size
        have ez := EZ8.out
        have hp := hnp.out
        have hqn := hnq.out
        have ka : Kept w12 (w12.alloc (.cells #[.slice (some ⟨gp, 0, none⟩) np cp, .slice (some ⟨gq, 0, none⟩) nq5 cq, .slice (some ⟨ga, 0, none⟩) hf xa, .slice (some ⟨gb, 0, none⟩) dd xb] 22)) := (Same.refl _ w12).alloc _
        refine ⟨pick4 gp gq ga gb, pick4 cp cq xa xb, pick4 np nq5 hf dd, pick4 (l.take hf ++ form n) lq (l.take hf) (l.drop hf), ⟨BytesAt.kept T10.out ka (fun _ _ h => h), BytesAt.kept R10.out ka (fun _ _ h => h), fun i hi => ?_, by simp, K10.out.trans' ka⟩, ⟨fun i hi => ?_, fun i hi => ?_, fun i hi => ?_, fun i hi => ?_, fun i j hi hj hij => ?_⟩, fun i hi => ?_, fun i hi => ?_⟩
        · rcases four i hi with rfl | rfl | rfl | rfl <;> exact (cell_of (heap_new w12 _) _).trans rfl
        · rcases four i hi with rfl | rfl | rfl | rfl <;> simp only [pick4] <;> omega
        · rcases four i hi with rfl | rfl | rfl | rfl <;> simp only [pick4] <;> omega
        · rcases four i hi with rfl | rfl | rfl | rfl <;> simp only [pick4] <;> omega
        · rcases four i hi with rfl | rfl | rfl | rfl <;> simp only [pick4] <;> omega
        · rcases four i hi with rfl | rfl | rfl | rfl <;> rcases four j hj with rfl | rfl | rfl | rfl <;> simp only [pick4] <;> omega
        · rcases four i hi with rfl | rfl | rfl | rfl
          · exact OwnB.lower (Rw.kept P10.out ka (fun h => h)) (by omega)
          · exact OwnB.lower (Rw.kept Q10.out ka (fun h => h)) (by omega)
          · exact OwnB.lower (Rw.kept A10.out ka (fun h => h)) (by omega)
          · exact OwnB.lower (Rw.kept B10.out ka (fun h => h)) (by omega)
        · rcases four i hi with rfl | rfl | rfl | rfl <;> simp only [pick4] <;> omega
      have AP : Hid _ := HG.out.2.1
      have HN4 : Hid _ := HG.out.2.2.2
      clear HP HQ HSM HOP HT1 HT2 HS1 HS2 HA HR K1 K3 K4 K5 K7 K8 K9 K10 R10 T10 P10 Q10 A10 B10 M1 M2 HT9 U7 R7 T7 P7 Q7
      go_loopw [144] (fun i wr => ∃ (j : Nat) (X : Nat → List Int), j ≤ 4 ∧ i = .int .i64 j ∧ St w wr gt gr w12.heap.size l G C N ∧ (∀ k, k < 4 → Rw w.heap.size wr (G k) (N k) (C k) (X k)) ∧ (∀ k, k < j → X k = List.replicate (N k) (11 + (k : Int)))) (fun i _ => 4 - (intOf i).toNat)
      case atStart => exact ⟨0, X0, by decide, rfl, HG.out.1, HG.out.2.2.1, fun k hk => absurd hk (by omega)⟩
      case round =>
        obtain ⟨j, X, hj, rfl, hst, hrw, hdn⟩ := hrel
        have HST : Hid _ := hst
        have HRW : Hid _ := hrw
        have HDN : Hid _ := hdn
        clear hst hrw hdn
        rename World => W1
        by_cases hlt : j < 4
        · have c1 : decide ((j : Int) < 4) = true := decide_eq_true (by omega)
          have hlt2 : (j : Int) < 4 := by omega
          have q0 := HST.out.list j hlt
          have hm1 : (11 : Int) + (j : Int) ≤ 255 := by omega
          obtain ⟨M, eM⟩ : ∃ M : Nat, M = N j := ⟨_, rfl⟩
          have hM : (M : Int) ≤ 140737488352000 := by have := HN4.out j hlt; omega
          rw [← eM] at q0
          have EM : Hid _ := eM
          have HLX : Hid ((X j).length = M) := by have := (Rw.len (HRW.out j hlt)).1; show (X j).length = M; omega
          clear eM
          go_wp2_with fail
          go_loopw [151] (fun i wr => ∃ k : Nat, k ≤ M ∧ i = .int .i64 k ∧ Rw w.heap.size wr (G j) M (C j) (mark (11 + (j : Int)) k (X j)) ∧ Same (fun b => b = G j) W1 wr) (fun i _ => M - (intOf i).toNat)
          case atStart => exact ⟨0, Nat.zero_le _, rfl, by rw [mark_zero, EM.out]; exact HRW.out j hlt, Same.refl _ _⟩
          case round =>
            obtain ⟨k, hk, rfl, hr, hs⟩ := hrel
            have HRK : Hid _ := hr
            have HSK : Hid _ := hs
            by_cases hkl : k < M
            · have c2 : decide ((k : Int) < (M : Int)) = true := decide_eq_true (by omega)
              have hkl2 : (k : Int) < (M : Int) := by omega
              obtain ⟨o1, f1, hbg⟩ := OwnB.set hr (i := k) (by rw [mark_len _ (by rw [HLX.out]; omega), HLX.out]; exact hkl) (11 + (j : Int))
              rw [mark_next _ (by rw [HLX.out]; exact hkl)] at o1
              obtain ⟨y, hy⟩ : ∃ y, (mark (11 + (j : Int)) k (X j))[k]? = some y := ⟨_, List.getElem?_eq_getElem (by rw [mark_len _ (by rw [HLX.out]; omega), HLX.out]; exact hkl)⟩
              obtain ⟨b', off', e', -, q1⟩ := BytesAt.at_own hr k y hy
              cases e'
              rw [Nat.zero_add] at q1
              have O1 : Hid _ := o1
              have S1 : Hid (Same (fun b => b = G j) W1 (wr.setCell ⟨G j, k, none⟩ (.int .u8 (11 + (j : Int))))) := hs.setCell _ (.inr rfl) _
              clear hr hs o1 hy
              go_wp2_with fail
              go_roundw
              case rel => exact ⟨k + 1, hkl, by simp, O1.out, S1.out⟩
              case measure => simp only [intOf]; omega
            · have c2 : decide ((k : Int) < (M : Int)) = false := decide_eq_false (by omega)
              obtain rfl : M = k := by omega
              have FIN : Hid (St w wr gt gr w12.heap.size l G C N ∧ (∀ i, i < 4 → Rw w.heap.size wr (G i) (N i) (C i) (if i = j then List.replicate (N j) (11 + (j : Int)) else X i))) := by
                refine ⟨HST.out.by AP.out hlt hs, fun i hi => ?_⟩
                by_cases e : i = j
                · subst e
                  rw [if_pos rfl]
                  have := hr
                  rw [← HLX.out, mark_all, HLX.out, EM.out] at this
                  exact this
                · rw [if_neg e]
                  exact Rw.kept (HRW.out i hi) hs (fun e2 => AP.out.o i j hi hlt e e2)
              clear hr hs
              go_wp2_with fail
              go_roundw
              case rel =>
                refine ⟨j + 1, _, hlt, by simp, FIN.out.1, FIN.out.2, fun i hi => ?_⟩
                by_cases e : i = j
                · subst e
                  rw [if_pos rfl]
                · rw [if_neg e]
                  exact HDN.out i (by omega)
              case measure => simp only [intOf]; omega
        · have c1 : decide ((j : Int) < 4) = false := decide_eq_false (by omega)
          obtain ⟨rep, erep⟩ : ∃ rep : Nat → List Int, rep = fun k => List.replicate (N k) (11 + (k : Int)) := ⟨_, rfl⟩
          have HRL : Hid (∀ k, (rep k).length = N k) := fun k => by rw [erep]; simp
          have HRG : Hid (∀ k i, i < N k → (rep k)[i]? = some (11 + (k : Int))) := fun k i hi => by rw [erep]; simp [hi]
          have H4 : Hid (∀ k, k < 4 → Rw w.heap.size W1 (G k) (N k) (C k) (rep k)) := fun k hk => by
            have := HRW.out k hk
            rw [HDN.out k (by omega)] at this
            rw [erep]
            exact this
          clear erep HRW HDN hlt hj HG
          go_wp2_with fail
          go_loopw [164] (fun i wr => ∃ j : Nat, j ≤ 4 ∧ i = .int .i64 j ∧ St w wr gt gr w12.heap.size l G C N ∧ (∀ k, k < 4 → BytesAt wr (some ⟨G k, 0, none⟩) (rep k)) ∧ (∀ k, k < 4 → j ≤ k → Rw w.heap.size wr (G k) (N k) (C k) (rep k))) (fun i _ => 4 - (intOf i).toNat)
          case atStart => exact ⟨0, by decide, rfl, HST.out, fun k hk => BytesAt.at_own (H4.out k hk), fun k hk _ => H4.out k hk⟩
          case round =>
            clear H4 HST c1
            obtain ⟨j, hj, rfl, hst, hby, hrw⟩ := hrel
            have HST : Hid _ := hst
            have HRW : Hid _ := hrw
            have HBA : Hid _ := hby
            clear hst hrw hby
            rename World => W2
            by_cases hlt : j < 4
            · have c1 : decide ((j : Int) < 4) = true := decide_eq_true (by omega)
              have hlt2 : (j : Int) < 4 := by omega
              have q0 := HST.out.list j hlt
              have hm1 : (71 : Int) + (j : Int) ≤ 255 := by omega
              obtain ⟨M, eM⟩ : ∃ M : Nat, M = N j := ⟨_, rfl⟩
              have HM : Hid (M ≤ 140737488352000) := by have := HN4.out j hlt; show M ≤ _; omega
              rw [← eM] at q0
              have EM : Hid _ := eM
              have HLM : Hid ((rep j).length = M) := by rw [eM]; exact HRL.out j
              have HGL : Hid (G j < W2.heap.size) := (Rw.lt (HRW.out j hlt (Nat.le_refl _))).2
              have HZW : Hid (w.heap.size ≤ W2.heap.size) := HST.out.kept.size
              clear eM
              go_wp2_with fail
              go_loopw [23, 24] (fun v i wr => ∃ (t g cc : Nat), t ≤ 40 ∧ i = .int .i64 t ∧ v = .slice (some ⟨g, 0, none⟩) (M + t) cc ∧ Rw w.heap.size wr g (M + t) cc (rep j ++ List.replicate t (71 + (j : Int))) ∧ BytesAt wr (some ⟨G j, 0, none⟩) (rep j) ∧ (g = G j ∨ W2.heap.size ≤ g) ∧ Same (fun b => b = G j) W2 wr) (fun _ i _ => 40 - (intOf i).toNat)
              case atStart => exact ⟨0, G j, C j, by decide, rfl, rfl, by rw [List.replicate_zero, List.append_nil, Nat.add_zero, EM.out]; exact HRW.out j hlt (Nat.le_refl _), HBA.out j hlt, .inl rfl, Same.refl _ _⟩
              case round =>
                obtain ⟨t, g, cc, ht, rfl, rfl, hr, hb, hg, hs⟩ := hrel
                have HRK : Hid _ := hr
                have HBK : Hid _ := hb
                have HGK : Hid _ := hg
                have HSK : Hid _ := hs
                clear hr hb hg hs
                by_cases htl : t < 40
                · have c2 : decide ((t : Int) < 40) = true := decide_eq_true (by omega)
                  have htl2 : (t : Int) < 40 := by omega
                  have hxl : (rep j ++ List.replicate t (71 + (j : Int))).length = M + t := by rw [List.length_append, HLM.out, List.length_replicate]
                  have HAP : Hid _ := app_more (71 + (j : Int)) (w := wr) (base := w.heap.size) (g := g) (c := cc) (xs := rep j ++ List.replicate t (71 + (j : Int))) (by rw [hxl]; exact HRK.out) (by rw [hxl]; have := HM.out; omega) (Nat.le_trans HZW.out HSK.out.size)
                  rw [hxl] at HAP
                  clear hxl
                  go_wp2_with (at_builtin; refine wpList_app rfl (.tmp 173) (.tmp 177) 22 22 rfl _ _ rfl rfl _ HAP.out ?_; rintro v5 w5 ⟨g5, c5, rfl, r5, b5, s5, hg5⟩)
                  go_roundw
                  case rel =>
                    refine ⟨t + 1, g5, c5, htl, by simp, rfl, ?_, ?_, ?_, ?_⟩
                    · rw [List.replicate_succ', ← List.append_assoc]
                      exact r5
                    · rcases HGK.out with e | e
                      · rw [← e]
                        exact bytes_pre b5
                      · exact BytesAt.kept HBK.out s5 (fun k hk e2 => by obtain ⟨_, off, e'⟩ := hk; cases e'; have := HGL.out; omega)
                    · have z := HSK.out.size
                      rcases hg5 with e | e
                      · rw [e]; exact HGK.out
                      · exact .inr (by omega)
                    · exact Same.trans HSK.out s5 (fun i hi e => by
                        rcases HGK.out with e2 | e2
                        · rw [e]; exact e2
                        · omega)
                  case measure => simp only [intOf]; omega
                · have c2 : decide ((t : Int) < 40) = false := decide_eq_false (by omega)
                  have FIN : Hid (St w wr gt gr w12.heap.size l G C N ∧ (∀ k, k < 4 → BytesAt wr (some ⟨G k, 0, none⟩) (rep k)) ∧ (∀ k, k < 4 → j + 1 ≤ k → Rw w.heap.size wr (G k) (N k) (C k) (rep k))) := by
                    refine ⟨HST.out.by AP.out hlt HSK.out, fun k hk => ?_, fun k hk hkj => ?_⟩
                    · by_cases e : k = j
                      · subst e
                        exact HBK.out
                      · exact BytesAt.kept (HBA.out k hk) HSK.out (fun b hb e2 => by obtain ⟨_, off, e'⟩ := hb; cases e'; exact AP.out.o k j hk hlt e e2)
                    · exact Rw.kept (HRW.out k hk (by omega)) HSK.out (fun e2 => AP.out.o k j hk hlt (by omega) e2)
                  clear HRK HBK HGK HSK
                  go_wp2_with fail
                  go_roundw
                  case rel => exact ⟨j + 1, hlt, by simp, FIN.out.1, FIN.out.2.1, FIN.out.2.2⟩
                  case measure => simp only [intOf]; omega
            · have c1 : decide ((j : Int) < 4) = false := decide_eq_false (by omega)
              clear HRW hlt hj
              go_wp2_with fail
              go_loopw [182] (fun i wr => ∃ j : Nat, j ≤ 4 ∧ i = .int .i64 j ∧ St w wr gt gr w12.heap.size l G C N ∧ (∀ k, k < 4 → BytesAt wr (some ⟨G k, 0, none⟩) (rep k))) (fun i _ => 4 - (intOf i).toNat)
              case atStart => exact ⟨0, by decide, rfl, HST.out, HBA.out⟩
              case round =>
                clear HST HBA c1
                obtain ⟨j, hj, rfl, hst, hby⟩ := hrel
                have HST : Hid _ := hst
                have HBA : Hid _ := hby
                clear hst hby
                rename World => W3
                by_cases hlt : j < 4
                · have c1 : decide ((j : Int) < 4) = true := decide_eq_true (by omega)
                  have hlt2 : (j : Int) < 4 := by omega
                  have q0 := HST.out.list j hlt
                  have hm1 : (11 : Int) + (j : Int) ≤ 255 := by omega
                  obtain ⟨M, eM⟩ : ∃ M : Nat, M = N j := ⟨_, rfl⟩
                  have hM : (M : Int) ≤ 140737488352000 := by have := HN4.out j hlt; omega
                  rw [← eM] at q0
                  have HGT : Hid (∀ i, i < M → (rep j)[i]? = some (11 + (j : Int))) := fun i hi => HRG.out j i (by omega)
                  clear eM
                  go_wp2_with fail
                  go_loopw [189] (fun i wr => ∃ k : Nat, k ≤ M ∧ i = .int .i64 k ∧ Kept W3 wr) (fun i _ => M - (intOf i).toNat)
                  case atStart => exact ⟨0, Nat.zero_le _, rfl, Same.refl _ _⟩
                  case round =>
                    obtain ⟨k, hk, rfl, ks⟩ := hrel
                    have KS : Hid _ := ks
                    by_cases hkl : k < M
                    · have c2 : decide ((k : Int) < (M : Int)) = true := decide_eq_true (by omega)
                      have hkl2 : (k : Int) < (M : Int) := by omega
                      obtain ⟨b', off', e', -, q1⟩ := BytesAt.kept (HBA.out j hlt) ks (fun _ _ h => h) k _ (HGT.out k hkl)
                      cases e'
                      rw [Nat.zero_add] at q1
                      have hne : ((11 : Int) + (j : Int) != 11 + (j : Int)) = false := by simp
                      clear ks
                      go_wp2_with fail
                      go_roundw
                      case rel => exact ⟨k + 1, hkl, by simp, KS.out⟩
                      case measure => simp only [intOf]; omega
                    · have c2 : decide ((k : Int) < (M : Int)) = false := decide_eq_false (by omega)
                      clear ks
                      go_wp2_with fail
                      go_roundw
                      case rel => exact ⟨j + 1, hlt, by simp, HST.out.on KS.out, fun i hi => BytesAt.kept (HBA.out i hi) KS.out (fun _ _ h => h)⟩
                      case measure => simp only [intOf]; omega
                · have c1 : decide ((j : Int) < 4) = false := decide_eq_false (by omega)
                  clear hlt hj
                  go_wp2_with fail
                  go_loopw [204] (fun i wr => ∃ j : Nat, j ≤ L ∧ i = .int .i64 j ∧ Kept W3 wr) (fun i _ => L - (intOf i).toNat)
                  case atStart => exact ⟨0, Nat.zero_le _, rfl, Same.refl _ _⟩
                  case round =>
                    clear c1
                    obtain ⟨j, hj, rfl, ks⟩ := hrel
                    have KS : Hid _ := ks
                    by_cases hlt : j < L
                    · have c1 : decide ((j : Int) < (L : Int)) = true := decide_eq_true (by omega)
                      have hlt2 : (j : Int) < (L : Int) := by omega
                      obtain ⟨x, hx⟩ : ∃ x, l[j]? = some x := ⟨_, List.getElem?_eq_getElem (by rw [← EL.out]; exact hlt)⟩
                      obtain ⟨b', off', e', -, q1⟩ := BytesAt.kept HST.out.twin ks (fun _ _ h => h) j x hx
                      cases e'
                      obtain ⟨b', off', e', -, q2⟩ := BytesAt.kept HST.out.room ks (fun _ _ h => h) j (x85 x) (by rw [List.getElem?_map, hx]; rfl)
                      cases e'
                      rw [Nat.zero_add] at q1 q2
                      unfold x85 at q2
                      have hne : (bits BinOp.xor IntKind.u8 x 85 != bits BinOp.xor IntKind.u8 x 85) = false := by simp
                      clear ks hx
                      go_wp2_with fail
                      go_quiet (fail)
                      go_wp2_with fail
                      go_roundw
                      case rel => exact ⟨j + 1, hlt, by simp, KS.out.drewN _⟩
                      case measure => simp only [intOf]; omega
                    · have c1 : decide ((j : Int) < (L : Int)) = false := decide_eq_false (by omega)
                      clear ks
                      go_wp2_with fail
                      go_ret
                      exact ⟨rfl, HST.out.kept.trans' KS.out⟩
end Go.Proofs.Ytfedenfnkimngab
