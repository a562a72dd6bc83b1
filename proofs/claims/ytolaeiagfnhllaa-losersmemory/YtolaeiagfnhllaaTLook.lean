/- What is proved: what the look at a list answers: the first of its faults, a row that is none or one that comes before the one ahead of it; the list is one that memory can hold. -/
import Derived.Test.YtolaeiagfnhllaaTMgM
import Derived.Test.YtolaeiagfnhllaaNEql
namespace Go.Proofs.Ytolaeiagfnhllaa
open Go.RowKit

/-- The first fault of a list, of which the row ahead is told. -/
def lookF (order : Int) : Option RwM → List RwM → Int
  | _, [] => 0
  | none, r :: l => if rightR r then lookF order (some r) l else 90
  | some p, r :: l => if rightR r then (if bef order r p = true then 115 else lookF order (some r) l) else 90
def prv (l : List RwM) : Nat → Option RwM
  | 0 => none
  | q + 1 => l[q]?
theorem lookF_two (order : Int) : ∀ (l : List RwM) (o : Option RwM), lookF order o l = 0 ∨ lookF order o l = 90 ∨ lookF order o l = 115
  | [], o => .inl (by cases o <;> rfl)
  | r :: l, o => by
    have ih := lookF_two order l (some r)
    cases o with
    | none =>
      rw [lookF]
      by_cases h : rightR r
      · rw [if_pos h]; exact ih
      · rw [if_neg h]; omega
    | some p =>
      rw [lookF]
      by_cases h : rightR r
      · rw [if_pos h]
        by_cases h2 : bef order r p = true
        · rw [if_pos h2]; omega
        · rw [if_neg h2]; exact ih
      · rw [if_neg h]; omega
theorem lookF_ok {order : Int} : ∀ (l : List RwM) (o : Option RwM), lookF order o l = 0 → (∀ r ∈ l, rightR r) ∧ (l.Pairwise fun a b => bef order b a = false) ∧ ∀ p, o = some p → ∀ r ∈ l, bef order r p = false
  | [], _, _ => ⟨fun r h => (by cases h), List.Pairwise.nil, fun _ _ r h => (by cases h)⟩
  | r :: l, o, h => by
    have key : rightR r ∧ lookF order (some r) l = 0 ∧ ∀ p, o = some p → bef order r p = false := by
      cases o with
      | none =>
        rw [lookF] at h
        by_cases h1 : rightR r
        · rw [if_pos h1] at h
          exact ⟨h1, h, fun p e => by cases e⟩
        · rw [if_neg h1] at h; omega
      | some p =>
        rw [lookF] at h
        by_cases h1 : rightR r
        · rw [if_pos h1] at h
          cases h2 : bef order r p
          · rw [h2, if_neg (by decide)] at h
            exact ⟨h1, h, fun q e => by cases e; exact h2⟩
          · rw [h2, if_pos rfl] at h; omega
        · rw [if_neg h1] at h; omega
    obtain ⟨h1, h2, h3⟩ := key
    obtain ⟨i1, i2, i3⟩ := lookF_ok l (some r) h2
    refine ⟨fun x hx => ?_, List.pairwise_cons.2 ⟨fun x hx => i3 r rfl x hx, i2⟩, fun p e x hx => ?_⟩
    · rcases List.mem_cons.1 hx with rfl | hx
      · exact h1
      · exact i1 x hx
    · rcases List.mem_cons.1 hx with rfl | hx
      · exact h3 p e
      · exact (bef_swo order).ntr (i3 r rfl x hx) (h3 p e)
theorem lookF_of {order : Int} : ∀ (l : List RwM) (o : Option RwM), (∀ r ∈ l, rightR r) → (l.Pairwise fun a b => bef order b a = false) → (∀ p, o = some p → ∀ r ∈ l, bef order r p = false) → lookF order o l = 0
  | [], o, _, _, _ => by cases o <;> rfl
  | r :: l, o, h1, h2, h3 => by
    have ih := lookF_of l (some r) (fun x hx => h1 x (List.mem_cons_of_mem _ hx)) (List.pairwise_cons.1 h2).2 (fun p e x hx => by cases e; exact (List.pairwise_cons.1 h2).1 x hx)
    cases o with
    | none => rw [lookF, if_pos (h1 r (List.mem_cons_self ..))]; exact ih
    | some p => rw [lookF, if_pos (h1 r (List.mem_cons_self ..)), if_neg (by rw [h3 p rfl r (List.mem_cons_self ..)]; decide)]; exact ih
theorem comp_neg (order : Int) (a b : RwM) : decide (comp order a b < 0) = bef order a b := by
  unfold bef
  rcases comp_cases order a b with h | h | h <;> rw [h] <;> decide
set_option maxRecDepth 100000 in
set_option maxHeartbeats 1000000 in
theorem look11 (order : Int) {w : World} {a : Option Addr} {cap : Nat} {l : List RwM} (hr : RowsAt w a l) (hn : l.length ≤ 2199023255552) :
    Calls Try.prog 27 #[.int .i64 order, .slice a l.length cap] w fun e w' => e = .returned (.int .i64 (lookF order none l)) ∧ Kept w w' := by
  have HR : Hid _ := hr
  have HV : Hid (∀ r W, _) := valid9_any
  have HC : Hid (∀ x y W, _) := compare_any order
  obtain ⟨n, en⟩ : ∃ n, n = l.length := ⟨_, rfl⟩
  rw [← en] at hn ⊢
  have EN : Hid _ := en
  obtain ⟨res, eres⟩ : ∃ res, res = lookF order none l := ⟨_, rfl⟩
  rw [← eres]
  have HF0 : Hid (res = lookF order (prv l 0) (l.drop 0)) := eres
  clear hr en eres
  go_enter Try.func27, Try.ntmps27
  go_wp2_with fail
  go_loopw [9] (fun i wr => ∃ q : Nat, q ≤ n ∧ i = .int .i64 (q : Int) ∧ res = lookF order (prv l q) (l.drop q) ∧ Kept w wr) (fun i _ => n - (intOf i).toNat)
  case atStart => exact ⟨0, Nat.zero_le _, rfl, HF0.out, Same.refl _ _⟩
  case round =>
    clear HF0
    obtain ⟨q, hq, rfl, hf, kk⟩ := hrel
    by_cases hlt : q < n
    · have e1 : decide ((q : Int) < (n : Int)) = true := decide_eq_true (by omega)
      have e1' : (q : Int) < (n : Int) := by omega
      have HQ : Hid _ := hlt
      obtain ⟨r, hl⟩ : ∃ r, l[q]? = some r := ⟨_, List.getElem?_eq_getElem (by rw [← EN.out]; exact hlt)⟩
      obtain ⟨g, off, ea, hg, c0, c1, c2, c3, c4, c5, c6⟩ := (RowsAt.on HR.out kk) q r hl
      subst ea
      have hd : l.drop q = r :: l.drop (q + 1) := by
        rw [List.drop_eq_getElem_cons (by rw [← EN.out]; exact hlt)]
        rw [(List.getElem?_eq_some_iff.1 hl).2]
      rw [hd] at hf
      have KB : Hid _ := kk.alloc (.cells #[.int .i64 r.kind, .int .i64 r.time, .int .i64 r.seq, .int .i64 r.index, .int .i64 r.frm, .int .i64 r.til, .string r.body] 32)
      have HBX : Hid _ := heap_new wr (.cells #[.int .i64 r.kind, .int .i64 r.time, .int .i64 r.seq, .int .i64 r.index, .int .i64 r.frm, .int .i64 r.til, .string r.body] 32)
      have HVr : Hid (∀ W, _) := HV.out r
      by_cases hv : rightR r
      · rw [decide_eq_true hv] at HVr
        rcases q with _ | p
        · have HF : Hid (res = lookF order (prv l 1) (l.drop 1)) := by
            have : prv l 1 = some r := hl
            rw [this, hf]
            show lookF order none (r :: _) = _
            rw [lookF, if_pos hv]
          clear hf hd kk hl hv HV HC hq hg
          obtain ⟨akind, atime, aseq, aindex, afrm, atil, abody⟩ := r
          unfold rowV at HVr
          simp only [Int.natCast_zero, Nat.zero_mul, Nat.add_zero] at *
          go_wp2_with fail
          refine Calls.mono (HVr.out _) ?_
          rintro e w1 ⟨rfl, k1⟩
          have K1 : Hid _ := KB.out.trans' k1
          have hb1 := (k1.block _ (lt_of_heap HBX.out) (fun e => e)).trans HBX.out
          obtain ⟨⟨y0, y1, y2, y3, y4, y5, y6⟩, -⟩ := row_obj hb1
          clear k1 HBX hb1 HVr KB
          go_wp2_with fail
          go_quiet (fail)
          go_wp2_with fail
          go_roundw
          case rel => exact ⟨0 + 1, HQ.out, rfl, HF.out, by first | exact K1.out | exact Same.drew K1.out | exact Same.drewN K1.out _⟩
          case measure => simp only [intOf]; omega
        · obtain ⟨x, hx⟩ : ∃ x, l[p]? = some x := ⟨_, List.getElem?_eq_getElem (by rw [← EN.out]; omega)⟩
          obtain ⟨g', off', eb, hg', x0, x1, x2, x3, x4, x5, x6⟩ := (RowsAt.on HR.out kk) p x hx
          cases eb
          have hpx : prv l (p + 1) = some x := hx
          rw [hpx] at hf
          have HC1 : Hid (∀ W, _) := fun W => HC.out r x W
          have hcn := comp_neg order r x
          have HF : Hid (res = if bef order r x = true then 115 else lookF order (prv l (p + 1 + 1)) (l.drop (p + 1 + 1))) := by
            have : prv l (p + 1 + 1) = some r := hl
            rw [this, hf]
            show lookF order (some x) (r :: _) = _
            rw [lookF, if_pos hv]
          clear hf hd hl hv HV HC hq hx hpx
          obtain ⟨akind, atime, aseq, aindex, afrm, atil, abody⟩ := r
          obtain ⟨bkind, btime, bseq, bindex, bfrm, btil, bbody⟩ := x
          unfold rowV at HVr HC1
          simp only at *
          have e2 : decide ((0 : Int) < ((p + 1 : Nat) : Int)) = true := decide_eq_true (by omega)
          rw [Int.natCast_add, Int.natCast_one] at *
          have hw1 : IntKind.i64.wrap ((p : Int) + 1 - 1) = (p : Int) := by rw [IntKind.wrap_i64]; omega
          have hw2 : IntKind.i64.wrap (p : Int) = (p : Int) := by rw [IntKind.wrap_i64]; omega
          have p1 : (p : Int) < (n : Int) := by omega
          have p5 : p + 1 < n := by omega
          have p6 : (0 : Int) ≤ (p : Int) + 1 := by omega
          have hN : ((p : Int) + 1).toNat = p + 1 := by omega
          have p3 : (0 : Int) ≤ (p : Int) := by omega
          have p4 : p < n := by omega
          go_wp2_with fail
          refine Calls.mono (HVr.out _) ?_
          rintro e w1 ⟨rfl, k1⟩
          have K1 : Hid _ := KB.out.trans' k1
          have hb1 := (k1.block _ (lt_of_heap HBX.out) (fun e => e)).trans HBX.out
          obtain ⟨⟨y0, y1, y2, y3, y4, y5, y6⟩, hh1⟩ := row_obj hb1
          have kk1 : Kept wr w1 := ((Same.refl _ wr).alloc _).trans' k1
          have t : ∀ o, w1.cell? ⟨g, o, none⟩ = wr.cell? ⟨g, o, none⟩ := fun o => kk1.cell (p := ⟨g, o, none⟩) hg (fun e => e)
          have z0 := (t _).trans x0
          have z1 := (t _).trans x1
          have z2 := (t _).trans x2
          have z3 := (t _).trans x3
          have z4 := (t _).trans x4
          have z5 := (t _).trans x5
          have z6 := (t _).trans x6
          have hg1 : g < w1.heap.size := Nat.lt_of_lt_of_le hg kk1.size
          have hh2 := lt_of_heap hb1
          clear k1 HBX hb1 HVr KB t kk1 x0 x1 x2 x3 x4 x5 x6 c0 c1 c2 c3 c4 c5 c6 hg hg'
          generalize wr.heap.size = h at *
          have HT : Hid (∀ W, Kept w1 W → Kept w1 W ∧ W.cell? ⟨h, 0, none⟩ = some (.int .i64 akind) ∧ W.cell? ⟨h, 1, none⟩ = some (.int .i64 atime) ∧ W.cell? ⟨h, 2, none⟩ = some (.int .i64 aseq) ∧ W.cell? ⟨h, 3, none⟩ = some (.int .i64 aindex) ∧ W.cell? ⟨h, 4, none⟩ = some (.int .i64 afrm) ∧ W.cell? ⟨h, 5, none⟩ = some (.int .i64 atil) ∧ W.cell? ⟨h, 6, none⟩ = some (.string abody) ∧ W.cell? ⟨g, off + p * 7, none⟩ = some (.int .i64 bkind) ∧ W.cell? ⟨g, off + p * 7 + 1, none⟩ = some (.int .i64 btime) ∧ W.cell? ⟨g, off + p * 7 + 2, none⟩ = some (.int .i64 bseq) ∧ W.cell? ⟨g, off + p * 7 + 3, none⟩ = some (.int .i64 bindex) ∧ W.cell? ⟨g, off + p * 7 + 4, none⟩ = some (.int .i64 bfrm) ∧ W.cell? ⟨g, off + p * 7 + 5, none⟩ = some (.int .i64 btil) ∧ W.cell? ⟨g, off + p * 7 + 6, none⟩ = some (.string bbody)) := fun W k => by
            have t : ∀ o, W.cell? ⟨h, o, none⟩ = w1.cell? ⟨h, o, none⟩ := fun o => k.cell (p := ⟨h, o, none⟩) hh2 (fun e => e)
            have t2 : ∀ o, W.cell? ⟨g, o, none⟩ = w1.cell? ⟨g, o, none⟩ := fun o => k.cell (p := ⟨g, o, none⟩) hg1 (fun e => e)
            exact ⟨k, (t _).trans y0, (t _).trans y1, (t _).trans y2, (t _).trans y3, (t _).trans y4, (t _).trans y5, (t _).trans y6, (t2 _).trans z0, (t2 _).trans z1, (t2 _).trans z2, (t2 _).trans z3, (t2 _).trans z4, (t2 _).trans z5, (t2 _).trans z6⟩
          have HC2 : Hid (∀ W, Kept w1 W → Calls _ _ _ _ fun e w' => _ ∧ Kept w1 w') := fun W (k : Kept w1 W) => Calls.mono (HC1.out W) fun e w' hh => ⟨hh.1, k.trans' hh.2⟩
          generalize bef order _ _ = bb at hcn HF
          generalize comp order _ _ = cc at hcn HC2 HC1
          clear HC1 hh2 hg1 hh1
          cases bb with
          | true =>
            rw [if_pos rfl] at HF
            have hc2 : cc < 0 := of_decide_eq_true hcn
            go_wp2_with fail
            go_region_held3 (fun W => Kept w1 W ∧ W.cell? ⟨h, 0, none⟩ = some (.int .i64 akind) ∧ W.cell? ⟨h, 1, none⟩ = some (.int .i64 atime) ∧ W.cell? ⟨h, 2, none⟩ = some (.int .i64 aseq) ∧ W.cell? ⟨h, 3, none⟩ = some (.int .i64 aindex) ∧ W.cell? ⟨h, 4, none⟩ = some (.int .i64 afrm) ∧ W.cell? ⟨h, 5, none⟩ = some (.int .i64 atil) ∧ W.cell? ⟨h, 6, none⟩ = some (.string abody) ∧ W.cell? ⟨g, off + p * 7, none⟩ = some (.int .i64 bkind) ∧ W.cell? ⟨g, off + p * 7 + 1, none⟩ = some (.int .i64 btime) ∧ W.cell? ⟨g, off + p * 7 + 2, none⟩ = some (.int .i64 bseq) ∧ W.cell? ⟨g, off + p * 7 + 3, none⟩ = some (.int .i64 bindex) ∧ W.cell? ⟨g, off + p * 7 + 4, none⟩ = some (.int .i64 bfrm) ∧ W.cell? ⟨g, off + p * 7 + 5, none⟩ = some (.int .i64 btil) ∧ W.cell? ⟨g, off + p * 7 + 6, none⟩ = some (.string bbody))
              (exact HT.out _ (by (repeat (first | assumption | exact Same.refl _ _ | apply Same.alloc | apply Same.drew | apply Same.drewN)); done))
              ((first
              | (go_at_call 34; refine Calls.mono (HC2.out _ (by (repeat (first | assumption | exact Same.refl _ _ | apply Same.alloc | apply Same.drew | apply Same.drewN)); done)) ?_; rintro e w5 ⟨rfl, k5⟩)))
            all_goals
              have KF : Hid (Kept w _) := K1.out.trans' k5
              clear k5
              go_wp2_with fail
              go_ret
              exact ⟨by rw [HF.out]; rfl, by first | exact KF.out | exact Same.drew KF.out⟩
          | false =>
            rw [if_neg (by decide)] at HF
            have hc2 : ¬ cc < 0 := of_decide_eq_false hcn
            go_wp2_with fail
            go_region_held3 (fun W => Kept w1 W ∧ W.cell? ⟨h, 0, none⟩ = some (.int .i64 akind) ∧ W.cell? ⟨h, 1, none⟩ = some (.int .i64 atime) ∧ W.cell? ⟨h, 2, none⟩ = some (.int .i64 aseq) ∧ W.cell? ⟨h, 3, none⟩ = some (.int .i64 aindex) ∧ W.cell? ⟨h, 4, none⟩ = some (.int .i64 afrm) ∧ W.cell? ⟨h, 5, none⟩ = some (.int .i64 atil) ∧ W.cell? ⟨h, 6, none⟩ = some (.string abody) ∧ W.cell? ⟨g, off + p * 7, none⟩ = some (.int .i64 bkind) ∧ W.cell? ⟨g, off + p * 7 + 1, none⟩ = some (.int .i64 btime) ∧ W.cell? ⟨g, off + p * 7 + 2, none⟩ = some (.int .i64 bseq) ∧ W.cell? ⟨g, off + p * 7 + 3, none⟩ = some (.int .i64 bindex) ∧ W.cell? ⟨g, off + p * 7 + 4, none⟩ = some (.int .i64 bfrm) ∧ W.cell? ⟨g, off + p * 7 + 5, none⟩ = some (.int .i64 btil) ∧ W.cell? ⟨g, off + p * 7 + 6, none⟩ = some (.string bbody))
              (exact HT.out _ (by (repeat (first | assumption | exact Same.refl _ _ | apply Same.alloc | apply Same.drew | apply Same.drewN)); done))
              ((first
              | (go_at_call 34; refine Calls.mono (HC2.out _ (by (repeat (first | assumption | exact Same.refl _ _ | apply Same.alloc | apply Same.drew | apply Same.drewN)); done)) ?_; rintro e w5 ⟨rfl, k5⟩)))
            all_goals
              have KF : Hid (Kept w _) := K1.out.trans' k5
              clear k5
              go_wp2_with fail
              go_roundw
              case rel => exact ⟨p + 1 + 1, HQ.out, by rw [Int.natCast_add]; rfl, HF.out, by first | exact KF.out | exact Same.drew KF.out⟩
              case measure => simp only [intOf]; omega
      · rw [decide_eq_false hv] at HVr
        have hf1 : res = 90 := by
          rw [hf]
          cases prv l q <;> (rw [lookF, if_neg hv])
        have HF : Hid _ := hf1
        clear hf1
        clear hf hd hl hv HV HC hq
        obtain ⟨akind, atime, aseq, aindex, afrm, atil, abody⟩ := r
        unfold rowV at HVr
        simp only at *
        go_wp2_with fail
        refine Calls.mono (HVr.out _) ?_
        rintro e w1 ⟨rfl, k1⟩
        have K1 : Hid _ := KB.out.trans' k1
        clear k1 HBX HVr KB
        go_wp2_with fail
        go_ret
        exact ⟨by rw [HF.out]; rfl, K1.out⟩
    · obtain rfl : n = q := by omega
      have e1 : decide ((n : Int) < (n : Int)) = false := by simp
      have hf1 : res = 0 := by
        rw [hf, EN.out, List.drop_length]
        cases prv l l.length <;> rfl
      have HF : Hid _ := hf1
      clear hf1
      have KK : Hid _ := kk
      clear hf kk hq
      go_wp2_with fail
      go_ret
      exact ⟨by rw [HF.out]; rfl, KK.out⟩
end Go.Proofs.Ytolaeiagfnhllaa
