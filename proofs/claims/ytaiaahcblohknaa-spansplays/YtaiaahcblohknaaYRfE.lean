/- What is proved: the document's First: the overlapping span that ends first; its forest lies in memory. -/
import Derived.Test.YtaiaahcblohknaaYRfB
import Derived.Test.YtaiaahcblohknaaYFst
namespace Go.Proofs.Ytaiaahcblohknaa
open Go.RowKit

theorem ovk_kf (A : List Ks) (k : ByteArray) (fm tl : Int) : (A.filter (ovk k fm tl)).map (·.s) = ovK A k fm tl := by
  unfold ovK kf
  rw [List.filter_map, List.filter_filter]
  congr 1
  refine List.filter_congr fun e _ => ?_
  simp [ovk, Bool.and_comm]
/-- What First's rounds hold: the best of the first j. -/
def Bs (xs : List Ks) (j : Nat) (e : Ks) : Prop := bst ((xs.take j).map (·.s)) = some e.s ∧ e ∈ xs.take j
theorem Bs.start {xs : List Ks} {e : Ks} (h : xs[0]? = some e) : Bs xs 1 e := by
  rw [Bs, List.take_add_one, h]
  exact ⟨rfl, by simp⟩
theorem Bs.more {xs : List Ks} {j : Nat} {e x : Ks} (h : Bs xs j e) (hs : Srt (xs.map (·.s))) (hx : xs[j]? = some x) : Bs xs (j + 1) (if x.s.t < e.s.t ∨ (x.s.t = e.s.t ∧ x.s.i < e.s.i) then x else e) := by
  have e1 : xs.take (j + 1) = xs.take j ++ [x] := by rw [List.take_add_one, hx]; rfl
  have hsl : sl e.s x.s = true := by
    obtain ⟨i, hi, ei⟩ := List.mem_iff_getElem.1 h.2
    rw [List.length_take] at hi
    rw [List.getElem_take] at ei
    obtain ⟨hj, ej⟩ := List.getElem?_eq_some_iff.1 hx
    have := List.pairwise_iff_getElem.1 hs i j (by simp; omega) (by simpa using hj) (by omega)
    simpa [ei, ej] using this
  rw [sl_iff] at hsl
  rw [Bs, e1, List.map_append, List.map_cons, List.map_nil, bst_snoc, h.1]
  by_cases hc : x.s.t < e.s.t ∨ (x.s.t = e.s.t ∧ x.s.i < e.s.i)
  · rw [if_pos hc]
    have hf : fl x.s e.s = true := by simp only [fl, decide_eq_true_eq]; omega
    exact ⟨by simp [bet, hf], by simp⟩
  · rw [if_neg hc]
    have hf : fl x.s e.s = false := by simp only [fl, decide_eq_false_iff_not]; omega
    exact ⟨by simp [bet, hf], List.mem_append_left _ h.2⟩
theorem put4k {W : World} {g : Nat} {p q r s : Value} {ty : TypeId} (h : W.heap[g]? = some (.cells #[p, q, r, s] ty (0, 0))) (a b c d : Value) :
    ((((W.setCell ⟨g, 0, none⟩ a).setCell ⟨g, 1, none⟩ b).setCell ⟨g, 2, none⟩ c).setCell ⟨g, 3, none⟩ d).heap[g]? = some (.cells #[a, b, c, d] ty (0, 0)) := by
  have h4 := setCell_at (setCell_at (setCell_at (setCell_at h 0 a) 1 b) 2 c) 3 d
  simpa using h4
theorem put4k_same {S : Nat → Prop} {w W : World} (k : Same S w W) {g : Nat} (hg : w.heap.size ≤ g ∨ S g) (a b c d : Value) : Same S w ((((W.setCell ⟨g, 0, none⟩ a).setCell ⟨g, 1, none⟩ b).setCell ⟨g, 2, none⟩ c).setCell ⟨g, 3, none⟩ d) :=
  Same.setCell (Same.setCell (Same.setCell (Same.setCell k ⟨g, 0, none⟩ hg a) ⟨g, 1, none⟩ hg b) ⟨g, 2, none⟩ hg c) ⟨g, 3, none⟩ hg d
theorem ks_free {w : World} {b : Nat} {p q r s : Value} {ty : TypeId} (h : w.heap[b]? = some (.cells #[p, q, r, s] ty (0, 0))) : w.frozen? ⟨b, 0, none⟩ = false ∧ w.frozen? ⟨b, 1, none⟩ = false ∧ w.frozen? ⟨b, 2, none⟩ = false ∧ w.frozen? ⟨b, 3, none⟩ = false := ⟨frozen_of h 0, frozen_of h 1, frozen_of h 2, frozen_of h 3⟩
abbrev kz : Ks := ⟨⟨#[]⟩, ⟨0, 0, 0⟩⟩
/-- What First answers. -/
def RFs (w : World) (A : List Ks) (k : ByteArray) (fm tl : Int) (r : Ending) (w' : World) : Prop := (∃ e : Ks, r = .returned (.tuple #[ksV e, .bool (bst (ovK A k fm tl)).isSome]) ∧ ∀ s, bst (ovK A k fm tl) = some s → e.s = s ∧ e.key.toList = k.toList) ∧ Kept w w'
set_option maxRecDepth 100000 in
set_option maxHeartbeats 1600000 in
theorem rfirst14 {G : Nat → Prop} {w : World} {rb : Nat} {A : List Ks} (h : RFo G w rb A) (k : ByteArray) (fm tl : Int) (hn : A.length + 1 ≤ 5000000000000) (hs : Srt (ovK A k fm tl)) :
    Calls Try.prog 21 #[.pointer (some ⟨rb, 0, none⟩), .string k, .int .i64 fm, .int .i64 tl] w fun r w' => RFs w A k fm tl r w' := by
  have HK0 : Hid (Kept w (w.alloc (ksO kz))) := (Same.refl (fun _ => False) w).alloc (ksO kz)
  have HG0 : Hid _ := heap_new w (ksO kz)
  have HOV : Hid _ := roverlap14 (h.on HK0.out) k fm tl hn
  have HXS : Hid ((A.filter (ovk k fm tl)).map (·.s) = ovK A k fm tl) := ovk_kf A k fm tl
  have HXK : Hid (∀ e ∈ A.filter (ovk k fm tl), e.key.toList = k.toList) := fun e he => beq_iff_eq.1 (ovk_true (List.mem_filter.1 he).2).1
  have hxn : ((A.filter (ovk k fm tl)).length : Int) ≤ 5000000000000 := by have := List.length_filter_le (ovk k fm tl) A; omega
  have HSR : Hid (Srt ((A.filter (ovk k fm tl)).map (·.s))) := by
    show Srt _
    rw [ovk_kf]
    exact hs
  have HRF : Hid (∀ (e : Ks) w', (∀ s, bst (ovK A k fm tl) = some s → e.s = s ∧ e.key.toList = k.toList) → Kept w w' → ∀ b, b = (bst (ovK A k fm tl)).isSome → RFs w A k fm tl (.returned (.tuple #[ksV e, .bool b])) w') := fun e w' h1 h2 b hb => by
    subst hb
    exact ⟨⟨e, rfl, h1⟩, h2⟩
  generalize RFs w A k fm tl = PP at HRF
  generalize A.filter (ovk k fm tl) = xs at *
  generalize ovK A k fm tl = os at *
  obtain ⟨L, eL⟩ : ∃ L, L = xs.length := ⟨_, rfl⟩
  rw [← eL] at hxn
  have EL : Hid (L = xs.length) := eL
  clear h hs eL hn
  go_enter Try.func21, Try.ntmps21
  go_upto_region 1 with fail
  generalize w.alloc (ksO kz) = W at *
  generalize hgg : w.heap.size = g at *
  have HGW : Hid (w.heap.size = g) := hgg
  clear hgg
  go_wp2_with fail
  refine Calls.mono HOV.out ?_
  rintro r w1 ⟨v, rfl, o1, k1⟩
  obtain ⟨a, cap, rfl, at1, -⟩ := OwnK.at o1
  rw [← show L = xs.length from EL.out]
  have HAT : Hid (KsAt w1 a xs) := at1
  have K1 : Hid (Kept W w1) := k1
  have hg1 := (k1.block g (lt_of_heap HG0.out) (fun e => e)).trans HG0.out
  have HG1 : Hid (w1.heap[g]? = some (ksO kz)) := hg1
  clear o1 k1 at1 HOV
  by_cases h0 : L = 0
  · subst h0
    have hx0 : xs = [] := List.eq_nil_of_length_eq_zero EL.out.symm
    have ho0 : os = [] := by rw [← show xs.map (·.s) = os from HXS.out, hx0]; rfl
    obtain ⟨c0, c1, c2, c3⟩ := ks_obj hg1
    obtain ⟨f0, f1, f2, f3⟩ := ks_free hg1
    have hgl := lt_of_heap hg1
    have HB : Hid (bst os = none) := by
      show bst os = none
      rw [ho0]; rfl
    clear hx0 ho0 hg1 HXS HXK HSR HAT
    go_wp2_with fail
    refine bodyPost_ret (results_ct (a := 8) (t := 58) (u := 9) rfl rfl (loadVar_ks (e := kz) (put4k HG1.out _ _ _ _))) rfl ?_
    refine HRF.out kz _ (fun s h9 => ?_) (put4k_same (Same.trans' HK0.out K1.out) (.inl (Nat.le_of_eq HGW.out)) _ _ _ _) _ ?_
    · rw [show bst os = none from HB.out] at h9; cases h9
    · rw [show bst os = none from HB.out]; rfl
  · have d0 : ((L : Int) == 0) = false := by simpa using h0
    have d1 : ¬ ((L : Int) = 0) := by omega
    have d2 : (0 : Int) < (L : Int) := by omega
    obtain ⟨x0, hx0⟩ : ∃ x, xs[0]? = some x := ⟨_, List.getElem?_eq_getElem (by rw [← show L = xs.length from EL.out]; omega)⟩
    obtain ⟨b, off, rfl, hb, q0, q1, q2, q3⟩ := HAT.out 0 x0 hx0
    simp only [Nat.zero_mul, Nat.add_zero] at q0 q1 q2 q3
    have HB0 : Hid (Bs xs 1 x0) := Bs.start hx0
    have HG2 : Hid _ := heap_new w1 (ksO x0)
    have K2 : Hid (Kept W (w1.alloc (ksO x0))) := Same.alloc K1.out _
    have HAT2 : Hid _ := KsAt.on HAT.out ((Same.refl (fun _ => False) w1).alloc (ksO x0))
    have HNE : Hid (g ≠ w1.heap.size) := fun e9 => by have := lt_of_heap hg1; omega
    have HG3 : Hid ((w1.alloc (ksO x0)).heap[g]? = some (ksO kz)) := (heap_old w1 _ (lt_of_heap hg1)).trans hg1
    have HGE : Hid (W.heap.size ≤ w1.heap.size) := K1.out.size
    have HBB : Hid (b ≠ w1.heap.size) := fun e9 => by omega
    have hL1 : 1 ≤ L := by omega
    clear hx0 h0 hg1 HAT HG1 K1
    go_wp2_with fail
    generalize w1.alloc (ksO x0) = W2 at *
    generalize w1.heap.size = gb at *
    clear q0 q1 q2 q3 hb d0 d1 d2
    go_loopw [12] (fun iv wr => ∃ (j : Nat) (e : Ks), 1 ≤ j ∧ j ≤ L ∧ iv = .int .i64 j ∧ wr.heap[gb]? = some (ksO e) ∧ Bs xs j e ∧ Same (fun q => q = gb) W2 wr) (fun iv _ => L - (intOf iv).toNat)
    case atStart => exact ⟨1, x0, Nat.le_refl _, by omega, rfl, HG2.out, HB0.out, Same.refl _ _⟩
    case round =>
      obtain ⟨j, e, hj1, hj, rfl, hge, hbs, sw⟩ := hrel
      have HGE2 : Hid (wr.heap[gb]? = some (ksO e)) := hge
      have HBS : Hid (Bs xs j e) := hbs
      have SW : Hid (Same (fun q => q = gb) W2 wr) := sw
      have hgz : wr.heap[g]? = some (ksO kz) := (sw.block g (lt_of_heap HG3.out) (fun e9 => HNE.out e9)).trans HG3.out
      clear hbs sw HB0 HG2
      by_cases hlt : j < L
      · have c1 : decide ((j : Int) < (L : Int)) = true := by simp only [decide_eq_true_eq]; omega
        have hlt2 : (j : Int) < (L : Int) := by omega
        have hlt3 : (0 : Int) ≤ (j : Int) := by omega
        obtain ⟨x, hx⟩ : ∃ x, xs[j]? = some x := ⟨_, List.getElem?_eq_getElem (by rw [← show L = xs.length from EL.out]; exact hlt)⟩
        obtain ⟨b2, off2, eb2, hb2, p0, p1, p2, p3⟩ := HAT2.out j x hx
        cases eb2
        have tc : ∀ o, wr.cell? ⟨b, o, none⟩ = W2.cell? ⟨b, o, none⟩ := fun o => SW.out.cell (p := ⟨b, o, none⟩) hb2 HBB.out
        have q0 := (tc _).trans p0
        have q1 := (tc _).trans p1
        have q2 := (tc _).trans p2
        have q3 := (tc _).trans p3
        have hb : b < wr.heap.size := Nat.lt_of_lt_of_le hb2 SW.out.size
        have HMO : Hid _ := HBS.out.more HSR.out hx
        have HGX : Hid ((wr.alloc (ksO x)).heap[gb]? = some (ksO e)) := (heap_old wr _ (lt_of_heap hge)).trans hge
        have SX : Hid (Same (fun q => q = gb) W2 (wr.alloc (ksO x))) := Same.alloc SW.out _
        have HNX : Hid (wr.heap.size ≠ gb) := fun e9 => by have := lt_of_heap hge; omega
        obtain ⟨u0, u1, u2, u3⟩ := ks_obj hge
        obtain ⟨f0, f1, f2, f3⟩ := ks_free hge
        have hgbl := lt_of_heap hge
        have hne1 : ¬ wr.heap.size = gb := HNX.out
        have hne2 : ¬ gb = wr.heap.size := fun e9 => HNX.out e9.symm
        obtain ⟨xk, xf, xt, xi⟩ := x
        obtain ⟨ek, ef, et, ei⟩ := e
        simp only at q0 q1 q2 q3 u0 u1 u2 u3 HMO
        clear hx p0 p1 p2 p3 tc hb2 hgz hge HBS
        have hcase : (xt < et ∨ (¬ xt < et ∧ xt = et ∧ xi < ei)) ∨ ((¬ xt < et ∧ ¬ xt = et) ∨ (¬ xt < et ∧ xt = et ∧ ¬ xi < ei)) := by omega
        rcases hcase with hc | hc
        · rw [if_pos (by omega)] at HMO
          rcases hc with h1 | ⟨h1, h2, h3⟩
          · have d1 : decide (xt < et) = true := decide_eq_true h1
            go_wp2_with fail
            go_roundw
            case rel => exact ⟨j + 1, ⟨xk, ⟨xf, xt, xi⟩⟩, by omega, by omega, by simp, (heap_old _ _ (lt_of_heap (put4k HGE2.out _ _ _ _))).trans (put4k HGE2.out _ _ _ _), HMO.out, Same.alloc (put4k_same SW.out (.inr rfl) _ _ _ _) _⟩
            case measure => simp only [intOf]; omega
          · have d1 : decide (xt < et) = false := decide_eq_false h1
            have d2 : (xt == et) = true := by simpa using h2
            have d3 : decide (xi < ei) = true := decide_eq_true h3
            clear h2
            go_wp2_with fail
            go_roundw
            case rel => exact ⟨j + 1, ⟨xk, ⟨xf, xt, xi⟩⟩, by omega, by omega, by simp, (heap_old _ _ (lt_of_heap (put4k HGE2.out _ _ _ _))).trans (put4k HGE2.out _ _ _ _), HMO.out, Same.alloc (put4k_same SW.out (.inr rfl) _ _ _ _) _⟩
            case measure => simp only [intOf]; omega
        · rw [if_neg (by omega)] at HMO
          rcases hc with ⟨h1, h2⟩ | ⟨h1, h2, h3⟩
          · have d1 : decide (xt < et) = false := decide_eq_false h1
            have d2 : (xt == et) = false := by simpa using h2
            go_wp2_with fail
            go_roundw
            case rel => exact ⟨j + 1, ⟨ek, ⟨ef, et, ei⟩⟩, by omega, by omega, by simp, HGX.out, HMO.out, SX.out⟩
            case measure => simp only [intOf]; omega
          · have d1 : decide (xt < et) = false := decide_eq_false h1
            have d2 : (xt == et) = true := by simpa using h2
            have d3 : decide (xi < ei) = false := decide_eq_false h3
            clear h2
            go_wp2_with fail
            go_roundw
            case rel => exact ⟨j + 1, ⟨ek, ⟨ef, et, ei⟩⟩, by omega, by omega, by simp, HGX.out, HMO.out, SX.out⟩
            case measure => simp only [intOf]; omega
      · have c1 : decide ((j : Int) < (L : Int)) = false := by simp only [decide_eq_false_iff_not]; omega
        obtain rfl : L = j := by omega
        obtain ⟨c0, c1', c2, c3⟩ := ks_obj hgz
        obtain ⟨f0, f1, f2, f3⟩ := ks_free hgz
        have hgl := lt_of_heap hgz
        have HGZ : Hid (wr.heap[g]? = some (ksO kz)) := hgz
        obtain ⟨u0, u1, u2, u3⟩ := ks_obj hge
        have hgbl := lt_of_heap hge
        have hbs := HBS.out
        rw [Bs, show L = xs.length from EL.out, List.take_length, show xs.map (·.s) = os from HXS.out] at hbs
        have HB : Hid (bst os = some e.s) := hbs.1
        have HBE : Hid (e ∈ xs) := hbs.2
        clear hgz hge hbs
        go_wp2_with fail
        refine bodyPost_ret (results_ct (a := 8) (t := 58) (u := 9) rfl rfl (loadVar_ks (e := e) (put4k HGZ.out _ _ _ _))) rfl ?_
        refine HRF.out e _ (fun s h9 => ?_) (put4k_same ?_ (.inl (Nat.le_of_eq HGW.out)) _ _ _ _) _ ?_
        · rw [show bst os = _ from HB.out] at h9
          exact ⟨Option.some.inj h9, HXK.out e HBE.out⟩
        · exact Same.trans (Same.trans' HK0.out K2.out) SW.out (fun i hi e9 => by have h1 := HGE.out; have h2 := HK0.out.size; omega)
        · rw [show bst os = _ from HB.out]; rfl
end Go.Proofs.Ytaiaahcblohknaa
