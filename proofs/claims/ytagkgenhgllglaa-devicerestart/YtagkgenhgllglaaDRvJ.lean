/- What is proved: the document's New makes a device of its own; the lists that it is given lie in memory. -/
import Derived.Test.YtagkgenhgllglaaDRvI
namespace Go.Proofs.Ytagkgenhgllglaa
open Go.RowKit

theorem Try.infoRFault : (Try.prog.info? 75).map (fun i => (i.zero, i.size, i.bytes)) = some (some (.agg #[.int .i64 0, .int .i64 0, .int .i64 0, .int .i64 0]), 4, 32) := by kernel_rfl
/-- The document's device while it is made. -/
def nO (B S : Nat) (iv sv fv : Value) : Obj := .cells #[.int .i64 B, .int .i64 S, iv, sv, fv, .slice none 0 0, .int .i64 0, .int .i64 0, .int .i64 0, .int .i64 0, .bool false] 64 (0, 0)
theorem chk_zero {B S : Nat} {ni ns : Nat} {F : List Fl} (h : chk B S ni ns F = 0) : 16 ≤ B ∧ B ≤ 1024 ∧ S ≤ 4096 ∧ ni ≤ 4194304 ∧ ns ≤ B * S ∧ F.length ≤ 64 ∧ ∀ f ∈ F, Fine B f := by
  unfold chk at h
  by_cases h1 : okG B S = false
  · rw [if_pos h1] at h; cases h
  · rw [if_neg h1] at h
    by_cases h2 : 4194304 < ni
    · rw [if_pos h2] at h; cases h
    · rw [if_neg h2] at h
      by_cases h3 : (B : Int) * (S : Int) < ns
      · rw [if_pos h3] at h; cases h
      · rw [if_neg h3] at h
        by_cases h4 : (decide (F.length ≤ 64) && F.all (okF B)) = false
        · rw [if_pos h4] at h; cases h
        · have h1 : okG B S = true := by simpa using h1
          have h4 : (decide (F.length ≤ 64) && F.all (okF B)) = true := by simpa using h4
          obtain ⟨b, s, e1, e2, e3, e4, e5⟩ := okG_nat h1
          obtain rfl : B = b := by omega
          obtain rfl : S = s := by omega
          rw [Bool.and_eq_true, decide_eq_true_eq] at h4
          refine ⟨e3, e4, e5, by omega, ?_, h4.1, fun f hf => ?_⟩
          · have : ((B * S : Nat) : Int) = (B : Int) * (S : Int) := by simp
            omega
          · obtain ⟨a1, a2, a3, a4⟩ := (okF_iff B f).1 (List.all_eq_true.1 h4.2 f hf)
            exact ⟨a1, a2, a3, a4⟩
theorem made_Good {B S : Nat} {l ls : List Int} {F : List Fl} (h : chk B S l.length ls.length F = 0) : Good (M.made B S l ls F) := by
  obtain ⟨h1, h2, h3, h4, h5, h6, h7⟩ := chk_zero h
  refine ⟨h1, h2, h3, h4, ?_, h6, h7, Nat.le_refl _, Nat.le_refl _, Nat.le_refl _, Nat.le_refl _, fun _ _ => Nat.le_refl _⟩
  exact made_len B S l ls F h5
/-- As far as it is made. -/
structure NS (w wr : World) (db sb : Nat) (B S : Nat) (a : Option Addr) (c : Nat) (l L : List Int) : Prop where
  dev : wr.heap[db]? = some (nO B S (.slice a l.length c) (.slice (some ⟨sb, 0, none⟩) (B * S) (B * S)) (.slice none 0 0))
  scr : wr.heap[sb]? = some (rowObj L)
  inp : BytesAt wr a l
  fr : ∀ k, InB a l.length k → w.heap.size ≤ k ∧ k ≠ db ∧ k ≠ sb
  ldb : w.heap.size ≤ db
  lsb : w.heap.size ≤ sb
  kp : Kept w wr
theorem NS.ne {w wr : World} {db sb B S : Nat} {a : Option Addr} {c : Nat} {l L : List Int} (h : NS w wr db sb B S a c l L) : db ≠ sb := fun e => by
  have := h.dev; rw [e, h.scr] at this; simp [rowObj, nO] at this
theorem NS.on {w wr w' : World} {db sb B S : Nat} {a : Option Addr} {c : Nat} {l L : List Int} (h : NS w wr db sb B S a c l L) (k : Kept wr w') : NS w w' db sb B S a c l L :=
  ⟨(k.block _ (lt_of_heap h.dev) (fun h => h)).trans h.dev, (k.block _ (lt_of_heap h.scr) (fun h => h)).trans h.scr, h.inp.kept k (fun _ _ h => h), h.fr, h.ldb, h.lsb, h.kp.trans' k⟩
theorem NS.put {w wr : World} {db sb B S : Nat} {a : Option Addr} {c : Nat} {l Z cs : List Int} (h : NS w wr db sb B S a c l (splice Z 0 cs)) (hf : cs.length < Z.length) (x : Int) :
    NS w (wr.setCell ⟨sb, cs.length, none⟩ (.int .u8 x)) db sb B S a c l (splice Z 0 (cs ++ [x])) := by
  have ks : Same (fun k => k = sb) wr (wr.setCell ⟨sb, cs.length, none⟩ (.int .u8 x)) := (Same.refl (fun k => k = sb) wr).setCell _ (.inr rfl) _
  refine ⟨(ks.block _ (lt_of_heap h.dev) h.ne).trans h.dev, ?_, h.inp.kept ks fun k hk e => (h.fr k hk).2.2 e, h.fr, h.ldb, h.lsb, h.kp.setCell _ (.inl h.lsb) _⟩
  refine (setCell_at h.scr _ _).trans ?_
  rw [← splice_snoc _ _ _ _ (by omega)]
  unfold rowObj
  rw [← byt_set, List.setIfInBounds_toArray, Nat.zero_add]

set_option maxRecDepth 100000 in
set_option maxHeartbeats 800000 in
theorem rnew_any (B S : Nat) (ia sa fa : Option Addr) (ic sc fc : Nat) (l ls : List Int) (F : List Fl) (w : World) (hl : BytesAt w ia l) (hls : BytesAt w sa ls) (hF : FaultsAt w fa F) (hnl : ia = none → l.length = 0 ∧ ic = 0) (hnf : fa = none → F.length = 0 ∧ fc = 0) (h : chk B S l.length ls.length F = 0) :
    Calls Try.prog 10 #[.int .i64 B, .int .i64 S, .slice ia l.length ic, .slice sa ls.length sc, .slice fa F.length fc] w fun e w' => ∃ p, e = .returned (.pointer (some ⟨p.db, 0, none⟩)) ∧ Rv w' (M.made B S l ls F) p [] ∧ (∀ k, RFoot (M.made B S l ls F) p k → w.heap.size ≤ k) ∧ Kept w w' := by
  have HGD : Hid _ := made_Good h
  obtain ⟨b1, b2, s2, i2, n2, f2, -⟩ := chk_zero h
  have CI : Hid (∀ w1 (b : Addr), Kept w w1 → ∀ ty, ∃ v' w', (Builtin.append_ #[22, 22] ty #[.slice (some b) 0 0, .slice ia l.length ic]).run Try.prog w1 = .ok v' w' ∧ CloneB w1 l v' w') := fun w1 b k1 ty => clone_at b (hl.kept k1 (fun _ _ h => h)) hnl (by omega) ty
  have CF : Hid (∀ w1 (b : Addr), Kept w w1 → ∀ ty, ∃ v' w', (Builtin.append_ #[52, 52] ty #[.slice (some b) 0 0, .slice fa F.length fc]).run Try.prog w1 = .ok v' w' ∧ CloneF w1 F v' w') := fun w1 b k1 ty => clone_atF Try.underlying52 Try.infoRFault b (hF.kept k1 (fun _ _ h => h)) hnf (by omega) ty
  have HLS : Hid _ := hls
  obtain ⟨BS, eBS⟩ : ∃ BS, BS = B * S := ⟨_, rfl⟩
  have hbs : (B : Int) * (S : Int) = (BS : Int) := by rw [eBS]; simp
  have hb4 : BS ≤ 4194304 := by rw [eBS]; exact Nat.le_trans (Nat.mul_le_mul b2 s2) (by decide)
  have EBS : Hid _ := eBS
  obtain ⟨ni, en⟩ : ∃ ni, ni = l.length := ⟨_, rfl⟩
  have EN : Hid _ := en
  obtain ⟨nl, enl⟩ : ∃ nl, nl = ls.length := ⟨_, rfl⟩
  have ENL : Hid _ := enl
  rw [← enl, ← eBS] at n2
  obtain ⟨nF, eF⟩ : ∃ nF, nF = F.length := ⟨_, rfl⟩
  have EF : Hid _ := eF
  rw [← en] at i2 CI ⊢
  rw [← enl]
  rw [← eF] at f2 CF ⊢
  have hmk : ∀ W, (Instr.makeSlice 22 (.int .i64 (BS : Int)) (.int .i64 (BS : Int))).run Try.prog W = .ok (.slice (some ⟨W.heap.size, 0, none⟩) BS BS) (W.alloc (rowObj (List.replicate BS 0))) := fun W => make_bytes W BS hb4
  clear hl hls hF hnl hnf h eBS en enl eF
  go_enter Try.func10, Try.ntmps10
  go_wp2_with (at_builtin; apply Hid.out)
  have e0 : ((w.alloc (nO B S (.slice none 0 0) (.slice none 0 0) (.slice none 0 0))).alloc (.cells #[] 5)).heap[w.heap.size]? = some (nO B S (.slice none 0 0) (.slice none 0 0) (.slice none 0 0)) := (heap_old _ _ (by simp)).trans (heap_new _ _)
  have k0 : Kept w ((w.alloc (nO B S (.slice none 0 0) (.slice none 0 0) (.slice none 0 0))).alloc (.cells #[] 5)) := ((Same.refl _ w).alloc _).alloc _
  unfold nO at e0 k0
  generalize ((w.alloc (.cells #[.int .i64 B, .int .i64 S, .slice none 0 0, .slice none 0 0, .slice none 0 0, .slice none 0 0, .int .i64 0, .int .i64 0, .int .i64 0, .int .i64 0, .bool false] 64 (0, 0))).alloc (.cells #[] 5)) = w2 at e0 k0 ⊢
  refine wpList_app rfl (.tmp 18) (.tmp 19) 22 rfl (.slice (some ⟨w.heap.size + 1, 0, none⟩) 0 0) (.slice ia ni ic) rfl rfl _ (CI.out w2 _ k0) ?_
  rintro v3 w3 ⟨a3, c3, rfl, b3, cap3, nil3, fr3, k3⟩
  have e3 : w3.heap[w.heap.size]? = some (.cells #[.int .i64 B, .int .i64 S, .slice none 0 0, .slice none 0 0, .slice none 0 0, .slice none 0 0, .int .i64 0, .int .i64 0, .int .i64 0, .int .i64 0, .bool false] 64 (0, 0)) := (k3.block _ (lt_of_heap e0) (fun h => h)).trans e0
  have K3 : Hid (Kept w w3) := k0.trans' k3
  have d2 : w3.cell? ⟨w.heap.size, 2, none⟩ = some (.slice none 0 0) := (cell_of e3 2).trans rfl
  have d3 : w3.cell? ⟨w.heap.size, 3, none⟩ = some (.slice none 0 0) := (cell_of e3 3).trans rfl
  have g2 : w3.frozen? ⟨w.heap.size, 2, none⟩ = false := frozen_of e3 2
  have g3 : w3.frozen? ⟨w.heap.size, 3, none⟩ = false := frozen_of e3 3
  have l3 : w.heap.size < w3.heap.size := lt_of_heap e3
  have B3 : Hid _ := b3
  have FR3 : Hid (∀ k, InB a3 l.length k → w.heap.size < k) := fun k hk => Nat.lt_of_lt_of_le (lt_of_heap e0) (fr3 k hk)
  have E3 : Hid _ := e3
  rw [← EN.out]
  clear e0 k0 b3 cap3 nil3 fr3 k3 e3 CI
  go_upto_block 0 with fail
  have N5 : Hid (NS w (((w3.setCell ⟨w.heap.size, 2, none⟩ (.slice a3 ni c3)).setCell ⟨w.heap.size, 3, none⟩ (.slice (some ⟨w3.heap.size, 0, none⟩) BS BS)).alloc (rowObj (List.replicate BS 0))) w.heap.size w3.heap.size B S a3 c3 l (splice (List.replicate BS 0) 0 (ls.take 0))) := by
    have ks : Same (fun k => k = w.heap.size) w3 ((w3.setCell ⟨w.heap.size, 2, none⟩ (.slice a3 ni c3)).setCell ⟨w.heap.size, 3, none⟩ (.slice (some ⟨w3.heap.size, 0, none⟩) BS BS)) := ((Same.refl (fun k => k = w.heap.size) w3).setCell _ (.inr rfl) _).setCell _ (.inr rfl) _
    have hz : ((w3.setCell ⟨w.heap.size, 2, none⟩ (.slice a3 ni c3)).setCell ⟨w.heap.size, 3, none⟩ (.slice (some ⟨w3.heap.size, 0, none⟩) BS BS)).heap.size = w3.heap.size := by simp [World.setCell]
    have hn := heap_new ((w3.setCell ⟨w.heap.size, 2, none⟩ (.slice a3 ni c3)).setCell ⟨w.heap.size, 3, none⟩ (.slice (some ⟨w3.heap.size, 0, none⟩) BS BS)) (rowObj (List.replicate BS 0))
    rw [hz] at hn
    refine ⟨(heap_old _ _ (by rw [hz]; exact l3)).trans ((setCell_at (setCell_at E3.out 2 _) 3 _).trans ?_), ?_, (BytesAt.kept B3.out ks fun k hk e => by have := FR3.out k hk; omega).kept ((Same.refl (fun _ => False) _).alloc _) (fun _ _ h => h), fun k hk => ?_, Nat.le_refl _, Nat.le_of_lt l3, ((K3.out.setCell _ (.inl (Nat.le_refl _)) _).setCell _ (.inl (Nat.le_refl _)) _).alloc _⟩
    · rw [← EBS.out, EN.out]
      simp [nO]
    · rw [List.take_zero, splice_nil]
      exact hn
    · have h1 := FR3.out k hk
      have h2 := BytesAt.lt B3.out hk
      omega
  generalize (((w3.setCell ⟨w.heap.size, 2, none⟩ (.slice a3 ni c3)).setCell ⟨w.heap.size, 3, none⟩ (.slice (some ⟨w3.heap.size, 0, none⟩) BS BS)).alloc (rowObj (List.replicate BS 0))) = w5 at N5 ⊢
  generalize w3.heap.size = sb at N5 l3 ⊢
  clear d2 d3 g2 g3 E3 B3 FR3 K3
  go_wp2_with fail
  go_loopw [12] (fun s wr => ∃ j : Nat, j ≤ nl ∧ s = .int .i64 j ∧ NS w wr w.heap.size sb B S a3 c3 l (splice (List.replicate BS 0) 0 (ls.take j))) (fun s _ => nl - (intOf s).toNat)
  case atStart => exact ⟨0, Nat.zero_le _, rfl, N5.out⟩
  case round =>
    obtain ⟨j, hj, rfl, hns⟩ := hrel
    have HNS : Hid _ := hns
    have x3 : wr.cell? ⟨w.heap.size, 3, none⟩ = some (.slice (some ⟨sb, 0, none⟩) BS BS) := by rw [EBS.out]; exact (cell_of hns.dev 3).trans rfl
    have xl : w.heap.size < wr.heap.size := lt_of_heap hns.dev
    by_cases hlt : j < nl
    · have a1 : decide ((j : Int) < (nl : Int)) = true := by simp only [decide_eq_true_eq]; omega
      have a2 : (j : Int) < (nl : Int) := by omega
      have a3' : decide ((j : Int) < (BS : Int)) = true := by simp only [decide_eq_true_eq]; omega
      have a4 : (j : Int) < (BS : Int) := by omega
      obtain ⟨x, hx⟩ : ∃ x, ls[j]? = some x := ⟨_, List.getElem?_eq_getElem (by rw [← ENL.out]; exact hlt)⟩
      obtain ⟨ab, ao, e2, hab, cx⟩ := (BytesAt.kept HLS.out hns.kp (fun _ _ h => h)) j x hx
      have hjl : (ls.take j).length = j := by rw [List.length_take, ← ENL.out]; omega
      have hsl : (splice (List.replicate BS (0 : Int)) 0 (ls.take j)).length = BS := by rw [length_splice _ _ _ (by rw [hjl]; simp; omega)]; simp
      obtain ⟨y, hy⟩ : ∃ y, (splice (List.replicate BS (0 : Int)) 0 (ls.take j))[j]? = some y := ⟨_, List.getElem?_eq_getElem (by rw [hsl]; omega)⟩
      have cy : wr.cell? ⟨sb, j, none⟩ = some (.int .u8 y) := by
        obtain ⟨b', off', q1, q2, q4⟩ := bytes_row hns.scr j y hy
        cases q1
        rwa [Nat.zero_add] at q4
      have fy : wr.frozen? ⟨sb, j, none⟩ = false := frozen_of hns.scr _
      have sl : sb < wr.heap.size := lt_of_heap hns.scr
      have HNX : Hid (NS w (wr.setCell ⟨sb, j, none⟩ (.int .u8 x)) w.heap.size sb B S a3 c3 l (splice (List.replicate BS 0) 0 (ls.take (j + 1)))) := by
        have := hns.put (by rw [hjl]; simp; omega) x
        rw [hjl] at this
        rw [List.take_add_one, hx]
        exact this
      subst e2
      clear hns hx hy hjl hsl
      go_wp2_with fail
      go_region
      go_wp2_with fail
      go_roundw
      case rel => exact ⟨j + 1, by omega, by simp, NS.on HNX.out ((Same.refl _ _).drew)⟩
      case measure => simp only [intOf]; omega
    · have a1 : decide ((j : Int) < (nl : Int)) = false := by simp only [decide_eq_false_iff_not]; omega
      obtain rfl : j = nl := by omega
      have hns2 : NS w wr w.heap.size sb B S a3 c3 l (M.made B S l ls F).scr := by
        have := hns
        rw [ENL.out, List.take_length, EBS.out] at this
        exact this
      have HN2 : Hid _ := hns2
      have k9 : Kept w (wr.alloc (.cells #[] 75)) := hns.kp.alloc _
      have K9 : Hid _ := k9
      clear hns hns2 k9
      go_wp2_with (at_builtin; apply Hid.out)
      refine wpList_app rfl (.tmp 56) (.tmp 57) 52 rfl (.slice (some ⟨wr.heap.size, 0, none⟩) 0 0) (.slice fa nF fc) rfl rfl _ (CF.out _ _ K9.out) ?_
      rintro v6 w6 ⟨a6, c6, rfl, b6, nil6, fr6, k6⟩
      have N6 : Hid (NS w w6 w.heap.size sb B S a3 c3 l (M.made B S l ls F).scr) := NS.on HN2.out (((Same.refl _ _).alloc _).trans' k6)
      have d4 : w6.cell? ⟨w.heap.size, 4, none⟩ = some (.slice none 0 0) := (cell_of N6.out.dev 4).trans rfl
      have g4 : w6.frozen? ⟨w.heap.size, 4, none⟩ = false := frozen_of N6.out.dev 4
      have l6 : w.heap.size < w6.heap.size := lt_of_heap N6.out.dev
      have B6 : Hid _ := b6
      have FR6 : Hid (∀ k, InB a6 F.length k → wr.heap.size < k) := fun k hk => by have := fr6 k hk; rw [World.size_alloc] at this; omega
      have SB6 : Hid (sb < wr.heap.size ∧ w.heap.size < wr.heap.size ∧ ∀ k, InB a3 l.length k → k < wr.heap.size) := ⟨lt_of_heap HN2.out.scr, xl, fun k hk => HN2.out.inp.lt hk⟩
      clear b6 nil6 fr6 k6 x3 a1
      rw [← EF.out]
      go_wp2_with fail
      go_ret
      have n6 := N6.out
      have ks : Same (fun k => k = w.heap.size) w6 (w6.setCell ⟨w.heap.size, 4, none⟩ (.slice a6 nF c6)) := (Same.refl (fun k => k = w.heap.size) w6).setCell _ (.inr rfl) _
      obtain ⟨sb1, sb2, sb3⟩ := SB6.out
      have hfr6 : ∀ k, InB a6 F.length k → k ≠ w.heap.size ∧ k ≠ sb := fun k hk => by have := FR6.out k hk; omega
      refine ⟨⟨w.heap.size, a3, c3, sb, a6, c6, .slice none 0 0⟩, rfl, ⟨?_, n6.inp.kept ks fun k hk e => (n6.fr k hk).2.1 e, (ks.block _ (lt_of_heap n6.scr) n6.ne.symm).trans n6.scr, FaultsAt.kept B6.out ks fun k hk e => (hfr6 k hk).1 e, World.ownsRow_nil _ _ _ _, HGD.out, fun _ _ => rfl, fun k hk => ⟨(n6.fr k hk).2.2, (n6.fr k hk).2.1, fun e => by cases e⟩, fun k hk => ⟨(hfr6 k hk).2, (hfr6 k hk).1, fun e => by cases e⟩⟩, ?_, n6.kp.setCell _ (.inl (Nat.le_refl _)) _⟩
      · refine (setCell_at n6.dev 4 _).trans ?_
        rw [EF.out]
        simp [rvObj, M.made]
      · rintro k ((rfl | rfl | e) | hk | hk)
        · exact Nat.le_refl _
        · exact n6.lsb
        · cases e
        · exact (n6.fr k hk).1
        · have := FR6.out k hk
          omega
end Go.Proofs.Ytagkgenhgllglaa
