/- What is proved: the law on overlaps answers true for every list of small length and all bounds; the forest lies in memory. -/
import Derived.Test.YtifhbhgcnobmiaaYHtL
import Derived.Test.YtifhbhgcnobmiaaYSps
import Derived.BigQuiet
namespace Go.Proofs.Ytifhbhgcnobmiaa
open Go.RowKit

/-- Between two rounds of the first loop. -/
structure OvS (w wr : World) (fb : Nat) (A : List Ks) (F : Nat → Prop) (bd : Nat) : Prop where
  fo : Fo F wr fb A bd
  ff : ∀ b, F b → w.heap.size ≤ b
  kept : Kept w wr
theorem OvS.on {w wr w' : World} {fb : Nat} {A : List Ks} {F : Nat → Prop} {bd : Nat} (h : OvS w wr fb A F bd) (k : Kept wr w') : OvS w w' fb A F bd := ⟨h.fo.on k, h.ff, Same.trans' h.kept k⟩
theorem OvS.len {w wr : World} {fb : Nat} {A : List Ks} {F : Nat → Prop} {bd : Nat} (h : OvS w wr fb A F bd) (k : ByteArray) (fm tl : Int) : (ovK A k fm tl).length ≤ bd := by
  obtain ⟨nb, cap, fr, mb, e, N, D, R, FL, h1, h2, h3, h4, h5, h6⟩ := h.fo
  exact Nat.le_trans (List.length_filter_le _ _) (Nat.le_trans (kf_length A k) h6)
theorem OvS.ins {w wr w' : World} {fb : Nat} {A A' : List Ks} {F : Nat → Prop} {bd bd' : Nat} {x : Sp} (h : OvS w wr fb A F bd) (hs : StpP F (wr.alloc (spO x)) fb A' bd' w') : (∃ F', OvS w w' fb A' F' bd') ∧ w'.heap[wr.heap.size]? = some (spO x) := by
  obtain ⟨F', f1, f2, f3⟩ := hs
  have hl := fun b hb => h.fo.lt b hb
  refine ⟨⟨F', f1, fun b hb => ?_, (h.kept.alloc _).trans f3 fun i hi e => by have := h.ff i e; omega⟩, (f3.block wr.heap.size (by simp) fun e => by have := hl _ e; omega).trans (heap_new wr (spO x))⟩
  rcases f2 b hb with h9 | h9
  · exact h.ff b h9
  · exact Nat.le_trans h.kept.size (by rw [World.size_alloc] at h9; omega)
theorem codeI_bad {A : List Ks} {k : ByteArray} {x : Sp} (h1 : rightK k = true) (h2 : rightS x = false) : codeI A k x = 140 ∧ insI A k x = A := by
  have : codeI A k x = 140 := by
    unfold codeI
    rw [if_neg (by rw [h1]; decide), if_pos h2]
  exact ⟨this, by unfold insI; rw [this, if_neg (by decide)]⟩
theorem OwnSp.at {base : Nat} {w : World} {v : Value} {l : List Sp} (h : OwnSp base w v l) : ∃ a cap, v = .slice a l.length cap ∧ SpsAt w a l ∧ ∀ b off s, a = some ⟨b, off, s⟩ → base ≤ b ∧ b < w.heap.size := by
  rcases h.2 with ⟨rfl, hn⟩ | ⟨g, cap, cur, rfl, hb, hg, h1, h2, h3, h4⟩
  · have : l = [] := List.eq_nil_of_length_eq_zero (by omega)
    subst this
    exact ⟨none, 0, rfl, fun i x hx => by simp at hx, fun b off s e => by cases e⟩
  · refine ⟨_, cap, rfl, fun i r hr => ⟨g, 0, rfl, lt_of_heap hg, ?_⟩, fun b off s e => by cases e; exact ⟨hb, lt_of_heap hg⟩⟩
    have hi := (List.getElem?_eq_some_iff.1 hr).1
    have hget : ∀ j, j < 3 → w.cell? ⟨g, 0 + i * 3 + j, none⟩ = (sc1 r)[j]? := fun j hj => by
      rw [cell_of hg, Nat.zero_add, ← scs_get hr j hj, ← h4, List.getElem?_take_of_lt (by omega)]
      simp
    exact ⟨hget 0 (by decide), hget 1 (by decide), hget 2 (by decide)⟩
/-- Between two rounds of the second loop. -/
structure OvZ (w wr : World) (fb : Nat) (A : List Ks) (F : Nat → Prop) (bd : Nat) (a : Option Addr) (xs : List Sp) (g : Nat) (y : Sp) : Prop where
  s : OvS w wr fb A F bd
  at' : SpsAt wr a xs
  an : ∀ b off s, a = some ⟨b, off, s⟩ → ¬ F b ∧ b < wr.heap.size
  bx : wr.heap[g]? = some (spO y)
  bn : ¬ F g
theorem OvZ.step {w wr wr' w' : World} {fb : Nat} {A A' : List Ks} {F : Nat → Prop} {bd bd' : Nat} {a : Option Addr} {xs : List Sp} {g : Nat} {y : Sp} (h : OvZ w wr fb A F bd a xs g y) (k : Kept wr wr') (hs : StpP F wr' fb A' bd' w') : ∃ F', OvZ w w' fb A' F' bd' a xs g y := by
  obtain ⟨F', f1, f2, f3⟩ := hs
  have hz : Same F wr w' := (k.to F).trans f3 fun i _ e => e
  have hks := k.size
  have hgl := lt_of_heap h.bx
  have hnot : ∀ b, b < wr.heap.size → ¬ F b → ¬ F' b := fun b hb hn e => by
    rcases f2 b e with h9 | h9
    · exact hn h9
    · omega
  refine ⟨F', ⟨f1, fun b hb => ?_, h.s.kept.trans hz fun i hi e => by have := h.s.ff i e; omega⟩, fun i x hx => ?_, fun b off s e => ⟨hnot b (h.an b off s e).2 (h.an b off s e).1, Nat.lt_of_lt_of_le (h.an b off s e).2 hz.size⟩, (hz.block g hgl h.bn).trans h.bx, hnot g hgl h.bn⟩
  · rcases f2 b hb with h9 | h9
    · exact h.s.ff b h9
    · exact Nat.le_trans h.s.kept.size (by omega)
  · obtain ⟨b, off, e, hb, c0, c1, c2⟩ := h.at' i x hx
    have hk : ∀ o, w'.cell? ⟨b, o, none⟩ = wr.cell? ⟨b, o, none⟩ := fun o => hz.cell (p := ⟨b, o, none⟩) hb (h.an b off none e).1
    exact ⟨b, off, e, Nat.lt_of_lt_of_le hb hz.size, (hk _).trans c0, (hk _).trans c1, (hk _).trans c2⟩
set_option maxRecDepth 100000 in
set_option maxHeartbeats 6400000 in
theorem overlap_law (w : World) (a : Option Addr) (cap : Nat) (l : List Sp) (fm tl : Int) (hl : SpsAt w a l) (hll : l.length ≤ 1048576) :
    Calls Try.prog 4 #[.slice a l.length cap, .int .i64 fm, .int .i64 tl] w fun r w' => r = .returned (.bool true) ∧ Kept w w' := by
  have q := ptr_eql
  have HAN : Hid (∀ W, _) := anchor14
  have HNW : Hid (∀ W, _) := new14
  have HL : Hid _ := hl
  obtain ⟨L, eL⟩ : ∃ L, L = l.length := ⟨_, rfl⟩
  rw [← eL] at hll ⊢
  have EL : Hid _ := eL
  clear hl eL
  go_enter Try.func4, Try.ntmps4
  go_wp2_with fail
  refine Calls.mono (HAN.out w) ?_
  rintro r w1 ⟨rfl, k1⟩
  have K1 : Hid _ := k1
  clear k1 HAN
  go_wp2_with fail
  refine Calls.mono (HNW.out w1) ?_
  rintro r w2 ⟨fb, F, rfl, f2, hF, k2⟩
  have HS0 : Hid (OvS w w2 fb [] F 0) := ⟨f2, fun b hb => Nat.le_trans K1.out.size (hF b hb), Same.trans' K1.out k2⟩
  clear f2 hF k2 HNW K1
  go_wp2_with fail
  clear q
  go_loopw [8, 23] (fun cv iv wr => ∃ (j : Nat) (A : List Ks) (F : Nat → Prop), j ≤ L ∧ iv = .int .i64 j ∧ cv = .int .i64 (ovK A kk fm tl).length ∧ OvS w wr fb A F j) (fun _ iv _ => L - (intOf iv).toNat)
  case atStart => exact ⟨0, [], F, Nat.zero_le _, rfl, rfl, HS0.out⟩
  case round =>
    obtain ⟨j, A, F, hj, rfl, rfl, hS⟩ := hrel
    have HSS : Hid (OvS w wr fb A F j) := hS
    have hnl := hS.len kk fm tl
    obtain ⟨n, en⟩ : ∃ n, n = (ovK A kk fm tl).length := ⟨_, rfl⟩
    rw [← en] at hnl ⊢
    have EN : Hid _ := en
    have hn9 : (n : Int) ≤ 1048576 := by omega
    clear hS HS0 en
    by_cases hlt : j < L
    · have c1 : decide ((j : Int) < (L : Int)) = true := by simp only [decide_eq_true_eq]; omega
      have c2 : (j : Int) < (L : Int) := by omega
      obtain ⟨x, hx⟩ : ∃ x, l[j]? = some x := ⟨_, List.getElem?_eq_getElem (by rw [← show L = _ from EL.out]; exact hlt)⟩
      obtain ⟨b, off, rfl, hbl, m0, m1, m2⟩ := (SpsAt.on HL.out HSS.out.kept) j x hx
      have HIN : Hid _ := insert14 (HSS.out.on ((Same.refl _ wr).alloc (spO x))).fo kk (by decide) x (by omega)
      have HST : Hid (∀ A' bd' w', StpP F (wr.alloc (spO x)) fb A' bd' w' → (∃ F', OvS w w' fb A' F' bd') ∧ w'.heap[wr.heap.size]? = some (spO x)) := fun A' bd' w' h9 => HSS.out.ins h9
      have HCD : Hid ((rightS x = false ∧ codeI A kk x = 140 ∧ insI A kk x = A) ∨ (x ∈ kf A kk ∧ codeI A kk x = 141 ∧ insI A kk x = A) ∨ (rightS x = true ∧ x ∉ kf A kk)) := by
        by_cases h1 : rightS x = true
        · by_cases h2 : x ∈ kf A kk
          · exact .inr (.inl ⟨h2, codeI_two kk_right h1 h2⟩)
          · exact .inr (.inr ⟨h1, h2⟩)
        · exact .inl ⟨by simpa using h1, codeI_bad kk_right (by simpa using h1)⟩
      have HWK : Hid _ := HSS.out.fo.wks.1
      obtain ⟨xf, xt, xi⟩ := x
      simp only at m0 m1 m2
      clear hx hbl HSS
      go_wp2_with fail
      refine Calls.mono HIN.out ?_
      rintro r w4 ⟨rfl, h4⟩
      obtain ⟨⟨F4, hs4⟩, hbx⟩ := HST.out _ _ _ h4
      obtain ⟨x0, x1, x2⟩ := sp_cells hbx
      simp only at x0 x1 x2
      have HS4 : Hid _ := hs4
      clear h4 hs4 hbx HST HIN m0 m1 m2
      rcases HCD.out with ⟨-, e1, e2⟩ | ⟨-, e1, e2⟩ | ⟨h1, h2⟩
      · rw [e1]
        rw [e2] at HS4
        clear e1 e2 HCD
        go_wp2_with fail
        go_roundw
        case rel => exact ⟨j + 1, A, F4, by omega, by simp, by rw [show n = _ from EN.out], HS4.out⟩
        case measure => simp only [intOf]; omega
      · rw [e1]
        rw [e2] at HS4
        clear e1 e2 HCD
        go_wp2_with fail
        go_roundw
        case rel => exact ⟨j + 1, A, F4, by omega, by simp, by rw [show n = _ from EN.out], HS4.out⟩
        case measure => simp only [intOf]; omega
      · obtain ⟨e1, e2⟩ := codeI_ok kk_right h1 h2
        rw [e1]
        rw [e2] at HS4
        have HOV : Hid _ := ov_put HWK.out kk ⟨xf, xt, xi⟩ fm tl
        clear e1 e2 HCD h1 h2
        by_cases o1 : xf < tl
        · by_cases o2 : fm < xt
          · go_wp2_with fail
            go_roundw
            case rel =>
              refine ⟨j + 1, _, F4, by omega, by simp, ?_, HS4.out⟩
              rw [HOV.out, if_pos (by simp only [ovl, decide_eq_true_eq]; exact ⟨o1, o2⟩), ← show n = _ from EN.out]
              rfl
            case measure => simp only [intOf]; omega
          · go_wp2_with fail
            go_roundw
            case rel =>
              refine ⟨j + 1, _, F4, by omega, by simp, ?_, HS4.out⟩
              rw [HOV.out, if_neg (by simp only [ovl, decide_eq_true_eq]; omega), ← show n = _ from EN.out]
              rfl
            case measure => simp only [intOf]; omega
        · go_wp2_with fail
          go_roundw
          case rel =>
            refine ⟨j + 1, _, F4, by omega, by simp, ?_, HS4.out⟩
            rw [HOV.out, if_neg (by simp only [ovl, decide_eq_true_eq]; omega), ← show n = _ from EN.out]
            rfl
          case measure => simp only [intOf]; omega
    · have c1 : decide ((j : Int) < (L : Int)) = false := by simp only [decide_eq_false_iff_not]; omega
      have HO : Hid _ := overlap14 HSS.out.fo kk (by decide) fm tl (by omega)
      have HFS : Hid (∀ W', Kept wr W' → _) := fun W' k9 => first14 (HSS.out.on k9).fo kk (by decide) fm tl
      have HSR : Hid (Srt (ovK A kk fm tl)) := (HSS.out.fo.wks.2 kk).sublist List.filter_sublist
      have HOV : Hid (∀ y ∈ ovK A kk fm tl, (y.f < tl ∧ fm < y.t) ∧ y ∈ kf A kk ∧ codeI A kk y = 141 ∧ insI A kk y = A) := fun y hy => by
        obtain ⟨h1, h2⟩ := List.mem_filter.1 hy
        refine ⟨by simpa [ovl] using h2, h1, ?_⟩
        obtain ⟨e, he, rfl⟩ := kf_mem h1
        obtain ⟨nb, cp, fr, mb, e0, N, D, R, FL, g1, g2, g3, g4, -⟩ := HSS.out.fo
        exact codeI_two kk_right (g4 e he) h1
      generalize ovK A kk fm tl = xs at *
      go_wp2_with fail
      refine Calls.mono HO.out ?_
      rintro r w3 ⟨v, rfl, o3, k3⟩
      obtain ⟨ga, gc, rfl, sa, hga⟩ := OwnSp.at o3
      have HFS3 : Hid _ := HFS.out w3 k3
      rw [← show n = _ from EN.out]
      have K3 : Hid _ := k3
      have SA : Hid _ := sa
      have HGA : Hid _ := hga
      clear o3 k3 sa hga HO HFS
      obtain ⟨o, ho⟩ : ∃ o, bst xs = o := ⟨_, rfl⟩
      rw [ho] at HFS3
      have nn : ((n : Int) != (n : Int)) = false := by simp
      cases o with
      | none =>
        obtain rfl := bst_none ho
        obtain rfl : n = 0 := EN.out
        go_wp2_with fail
        refine Calls.mono HFS3.out ?_
        rintro r w5 ⟨rfl, k5⟩
        have K5 : Hid _ := k5
        clear k5 HFS3
        unfold spV
        simp only [fst, Option.getD, Option.isSome, z3]
        have K6 : Hid (Kept w (w5.alloc (.cells #[.int .i64 0, .int .i64 0, .int .i64 0] 31))) := (Same.trans' HSS.out.kept (Same.trans' K3.out K5.out)).alloc _
        go_wp2_with fail
        generalize w5.alloc (.cells #[.int .i64 0, .int .i64 0, .int .i64 0] 31) = Z at *
        go_loopw [69] (fun iv wz => iv = .int .i64 0 ∧ wz = Z) (fun _ _ => 0)
        case atStart => exact ⟨rfl, rfl⟩
        case round =>
          obtain ⟨rfl, rfl⟩ := hrel
          go_wp2_with fail
          go_ret
          exact ⟨rfl, K6.out⟩
      | some y =>
        have hym := bst_mem ho
        have HMIN : Hid _ := bst_min ho
        have HY : Hid _ := HOV.out y hym
        obtain ⟨yf, yt, yi⟩ := y
        have y1 : yf < tl := HY.out.1.1
        have y2 : fm < yt := HY.out.1.2
        have hn0 : (0 : Int) < (n : Int) := by
          have h9 : n = xs.length := EN.out
          have := List.length_pos_of_mem hym
          omega
        have hn2 : 0 < n := by omega
        have hn3 : ¬ (n = 0) := by omega
        have hn4 : ¬ ((n : Int) ≤ 0) := by omega
        clear hym ho
        go_wp2_with fail
        refine Calls.mono HFS3.out ?_
        rintro r w5 ⟨rfl, k5⟩
        have HZ : Hid (OvZ w (w5.alloc (spO ⟨yf, yt, yi⟩)) fb A F j ga xs w5.heap.size ⟨yf, yt, yi⟩) := ⟨HSS.out.on ((Same.trans' K3.out k5).alloc _), SpsAt.on SA.out (k5.alloc _), fun b off s e => by
          have h1 := HGA.out b off s e
          have h2 := k5.size
          exact ⟨fun hf => by have := HSS.out.fo.lt b hf; omega, by rw [World.size_alloc]; omega⟩, heap_new w5 (spO ⟨yf, yt, yi⟩), fun hf => by have := HSS.out.fo.lt _ hf; have := K3.out.size; have := k5.size; omega⟩
        clear k5 HFS3 SA HGA K3 HSS
        unfold spV
        simp only [fst, Option.getD, Option.isSome]
        go_wp2_with fail
        generalize w5.alloc (spO ⟨yf, yt, yi⟩) = Z at HZ ⊢
        generalize w5.heap.size = g at HZ ⊢
        go_loopw [69] (fun iv wz => ∃ (z : Nat) (F : Nat → Prop), z ≤ n ∧ iv = .int .i64 z ∧ OvZ w wz fb A F (j + z) ga xs g ⟨yf, yt, yi⟩) (fun iv _ => n - (intOf iv).toNat)
        case atStart => exact ⟨0, F, Nat.zero_le _, rfl, HZ.out⟩
        case round =>
          obtain ⟨z, F5, hz, rfl, hZ⟩ := hrel
          have HZ5 : Hid (OvZ w wr fb A F5 (j + z) ga xs g ⟨yf, yt, yi⟩) := hZ
          clear hZ HZ
          by_cases hlt2 : z < n
          · have d1 : decide ((z : Int) < (n : Int)) = true := by simp only [decide_eq_true_eq]; omega
            have d2 : (z : Int) < (n : Int) := by omega
            obtain ⟨x, hx⟩ : ∃ x, xs[z]? = some x := ⟨_, List.getElem?_eq_getElem (by rw [← show n = _ from EN.out]; exact hlt2)⟩
            have hxm : x ∈ xs := List.mem_of_getElem? hx
            obtain ⟨⟨q1, q2⟩, q3, q4, q5⟩ := HOV.out x hxm
            have q6 := HMIN.out x hxm
            obtain ⟨b, off, rfl, hbl, m0, m1, m2⟩ := HZ5.out.at' z x hx
            have HPV : Hid (∀ m, z = m + 1 → ∃ p, (sl p x = true) ∧ ∀ W', Kept wr W' → W'.cell? ⟨b, off + m * 3, none⟩ = some (.int .i64 p.f) ∧ W'.cell? ⟨b, off + m * 3 + 1, none⟩ = some (.int .i64 p.t) ∧ W'.cell? ⟨b, off + m * 3 + 2, none⟩ = some (.int .i64 p.i)) := fun m hm => by
              obtain ⟨p, hp⟩ : ∃ p, xs[m]? = some p := ⟨_, List.getElem?_eq_getElem (by rw [← show n = _ from EN.out]; omega)⟩
              refine ⟨p, ?_, fun W' k9 => ?_⟩
              · obtain ⟨i1, e1⟩ := List.getElem?_eq_some_iff.1 hp
                obtain ⟨i2, e2⟩ := List.getElem?_eq_some_iff.1 hx
                rw [← e1, ← e2]
                exact List.pairwise_iff_getElem.1 HSR.out m z i1 i2 (by omega)
              · obtain ⟨b', off', e, hb', c0, c1, c2⟩ := (SpsAt.on HZ5.out.at' k9) m p hp
                cases e
                exact ⟨c0, c1, c2⟩
            have HIN : Hid (∀ W', Kept wr W' → Calls Try.prog 16 #[.pointer (some ⟨fb, 0, none⟩), .string ⟨#[107]⟩, spV x] W' fun r w' => r = .returned (.int .i64 141) ∧ ∃ F', OvZ w w' fb A F' (j + (z + 1)) (some ⟨b, off, none⟩) xs g ⟨yf, yt, yi⟩) := fun W' k9 => by
              refine Calls.mono (insert14 (HZ5.out.s.on k9).fo kk (by decide) x (by omega)) ?_
              rintro r w' ⟨rfl, h9⟩
              rw [q5] at h9
              exact ⟨by rw [q4], HZ5.out.step k9 h9⟩
            have K9 : Hid _ := (Same.refl (fun _ => False) wr).alloc (spO x)
            have GX : Hid _ := heap_new wr (spO x)
            have HYC : Hid _ := HZ5.out.bx
            obtain ⟨xf, xt, xi⟩ := x
            simp only [spV] at m0 m1 m2 q1 q2 q6 HIN
            have p1 : ¬ (tl ≤ xf) := by omega
            have p2 : ¬ (xt ≤ fm) := by omega
            have p3 : ¬ (xt < yt) ∧ ¬ (xt = yt ∧ xi < yi) := by
              simp only [fl, decide_eq_false_iff_not] at q6
              omega
            clear hx hxm q1 q2 q3 q4 q5 q6 hbl
            go_upto_region 20 with fail
            generalize wr.alloc (spO ⟨xf, xt, xi⟩) = Y at *
            generalize wr.heap.size = gx at GX ⊢
            obtain ⟨x0, x1, x2⟩ := sp_cells GX.out
            obtain ⟨u0, u1, u2⟩ := sp_cells ((K9.out.block g (lt_of_heap HYC.out) (fun e => e)).trans HYC.out)
            simp only at x0 x1 x2 u0 u1 u2
            have hgx := lt_of_heap GX.out
            clear m0 m1 m2
            go_cut [104] (fun s104 wx => s104 = .bool false ∧ wx = Y)
            case first =>
              by_cases e : xt = yt
              · subst e
                have p4 : ¬ (xi < yi) := by omega
                clear p3
                go_wp2_with fail
                go_meet
                exact ⟨rfl, rfl⟩
              · have p4 : ¬ (xt < yt) := by omega
                clear p3
                go_wp2_with fail
                go_meet
                exact ⟨rfl, rfl⟩
            case rest =>
              obtain ⟨rfl, rfl⟩ := hcut
              clear p1 p2 p3 u0 u1 u2
              rename World => Y
              go_upto_region 22 with fail
              go_cut [161] (fun s161 wx => s161 = .bool false ∧ Kept Y wx)
              case first =>
                by_cases hz0 : z = 0
                · subst hz0
                  go_quiet (fail)
                  go_wp2_with fail
                  go_meet
                  exact ⟨rfl, Same.drewN (Same.refl _ _) _⟩
                · obtain ⟨m, hm⟩ : ∃ m, z = m + 1 := ⟨z - 1, by omega⟩
                  obtain ⟨⟨pf, pt, pi⟩, hsl, hpc⟩ := HPV.out m hm
                  obtain ⟨r0, r1, r2⟩ := hpc Y K9.out
                  simp only [sl, decide_eq_true_eq] at r0 r1 r2 hsl
                  have z1 : decide ((0 : Int) < (z : Int)) = true := by simp only [decide_eq_true_eq]; omega
                  have z2 : (0 : Int) < (z : Int) := by omega
                  have z3 : 0 < z := by omega
                  have z4 : (m : Int) < (n : Int) := by omega
                  have z5 : (z : Int) - 1 = (m : Int) := by omega
                  have z6 : IntKind.i64.wrap ((z : Int) - 1) = (m : Int) := by rw [IntKind.wrap_i64]; omega
                  clear hz0 hm HPV HIN
                  rcases hsl with h1 | ⟨rfl, h2 | ⟨rfl, h3⟩⟩
                  · have t1 : decide (xf < pf) = false := by simp only [decide_eq_false_iff_not]; omega
                    have t3 : (pf == xf) = false := by simp only [beq_eq_false_iff_ne, ne_eq]; omega
                    clear h1
                    go_quiet (fail)
                    go_wp2_with fail
                    go_meet
                    exact ⟨rfl, Same.drewN (Same.refl _ _) _⟩
                  · have t1 : decide (pf < pf) = false := by simp
                    have t5 : decide (xt < pt) = false := by simp only [decide_eq_false_iff_not]; omega
                    have t3 : (pt == xt) = false := by simp only [beq_eq_false_iff_ne, ne_eq]; omega
                    clear h2
                    go_quiet (fail)
                    go_wp2_with fail
                    go_meet
                    exact ⟨rfl, Same.drewN (Same.refl _ _) _⟩
                  · have t2 : decide (xi ≤ pi) = false := by simp only [decide_eq_false_iff_not]; omega
                    clear h3
                    go_quiet (fail)
                    go_wp2_with fail
                    go_meet
                    exact ⟨rfl, Same.drewN (Same.refl _ _) _⟩
              case rest =>
                obtain ⟨rfl, kx⟩ := hcut
                rename World => X
                have KX : Hid _ := kx
                clear x0 x1 x2
                obtain ⟨x0, x1, x2⟩ := sp_cells ((kx.block gx hgx (fun e => e)).trans GX.out)
                simp only at x0 x1 x2
                have HIN2 : Hid _ := HIN.out X (Same.trans' K9.out kx)
                clear kx HIN
                go_wp2_with fail
                refine Calls.mono HIN2.out ?_
                rintro r w8 ⟨rfl, F8, z8⟩
                have Z8 : Hid _ := z8
                clear z8 HIN2 x0 x1 x2
                go_wp2_with fail
                go_roundw
                case rel => exact ⟨z + 1, F8, by omega, by simp, Z8.out⟩
                case measure => simp only [intOf]; omega
          · have d1 : decide ((z : Int) < (n : Int)) = false := by simp only [decide_eq_false_iff_not]; omega
            have HRM : Hid _ := remove14 HZ5.out.s.fo kk (by decide) ⟨yf, yt, yi⟩ (by omega)
            obtain ⟨u0, u1, u2⟩ := sp_cells HZ5.out.bx
            simp only at u0 u1 u2
            have hgl := lt_of_heap HZ5.out.bx
            go_wp2_with fail
            refine Calls.mono HRM.out ?_
            rintro r w9 ⟨⟨bb, rfl, hb9⟩, h9⟩
            obtain rfl : bb = true := hb9.2 HY.out.2.1
            obtain ⟨F9, f9⟩ := HZ5.out.step (Same.refl _ _) h9
            have F9' : Hid _ := f9.s.kept
            clear h9 f9 hb9 HRM u0 u1 u2 hgl
            go_wp2_with fail
            go_ret
            exact ⟨rfl, F9'.out⟩
end Go.Proofs.Ytifhbhgcnobmiaa
