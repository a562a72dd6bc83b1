/- What is proved: the document's Keys gives the keys that have a version, each once, rising, in a list of its own; the store lies in memory. -/
import Derived.Test.YtnjpbagfbklofaaCRefE
import Derived.Deep.RegionLaw
namespace Go.Proofs.Ytnjpbagfbklofaa
open Go.RowKit
open Go.Proofs (encStr)

theorem mid_get {l : List (List UInt8)} {q : Nat} {y : List UInt8} (h : q ≤ l.length) : (l.take q ++ y :: l.drop q)[q]? = some y := by
  rw [List.getElem?_append_right (by rw [List.length_take]; omega), show q - (l.take q).length = 0 by rw [List.length_take]; omega]
  rfl
set_option maxRecDepth 100000 in
set_option maxHeartbeats 3200000 in
theorem rkeys13 {G : Nat → Prop} {w : World} {rb : Nat} {A : List En} (h : RSt G w rb A) (hn : A.length + 1 ≤ 3909374676537) :
    Calls Try.prog 12 #[.pointer (some ⟨rb, 0, none⟩)] w fun r w' => ∃ v l, r = .returned v ∧ KeysOf A l ∧ OwnS w.heap.size w' v l ∧ Kept w w' := by
  obtain ⟨va, hob, how, -⟩ := h.ex
  obtain ⟨a, cap, rfl, hens, -⟩ := OwnE.ens how
  have y0 : w.cell? ⟨rb, 0, none⟩ = some (.slice a A.length cap) := (cell_of hob 0).trans rfl
  have hrl := lt_of_heap hob
  have HEN : Hid _ := hens
  obtain ⟨n, en⟩ : ∃ n, n = A.length := ⟨_, rfl⟩
  rw [← en] at hn y0
  have EN : Hid _ := en
  clear hob how hens en h
  go_enter Try.func12, Try.ntmps12
  go_wp2_with fail
  go_loopw [3, 4] (fun s3 s4 wr => ∃ j : Nat, j ≤ n ∧ s4 = .int .i64 j ∧ ∃ l, KeysOf (A.take j) l ∧ l.length ≤ j ∧ OwnS w.heap.size wr s3 l ∧ (∃ a' c', s3 = .slice a' l.length c') ∧ Kept w wr) (fun _ s4 _ => n - (intOf s4).toNat)
  case atStart => exact ⟨0, Nat.zero_le _, rfl, [], ⟨.nil, by simp⟩, Nat.le_refl _, OwnS.nil _ _, ⟨_, _, rfl⟩, Same.refl _ _⟩
  case round =>
    obtain ⟨j, hj, rfl, l, hkl, hlj, ho, ⟨a', c', rfl⟩, kk⟩ := hrel
    have KK : Hid _ := kk
    have HO0 : Hid (OwnS w.heap.size wr (.slice a' l.length c') l) := ho
    have HKL : Hid (KeysOf (A.take j) l) := hkl
    have z0 : wr.cell? ⟨rb, 0, none⟩ = some (.slice a n cap) := (kk.cell (p := ⟨rb, 0, none⟩) hrl (fun e => e)).trans y0
    have zl : rb < wr.heap.size := Nat.lt_of_lt_of_le hrl kk.size
    clear kk hkl
    by_cases hlt : j < n
    · have c1 : decide ((j : Int) < (n : Int)) = true := by simp only [decide_eq_true_eq]; omega
      have hlt2 : (j : Int) < (n : Int) := by omega
      have hlt3 : (0 : Int) ≤ (j : Int) := by omega
      obtain ⟨e, he⟩ : ∃ e, A[j]? = some e := ⟨_, List.getElem?_eq_getElem (by rw [← show n = A.length from EN.out]; exact hlt)⟩
      obtain ⟨b, off, rfl, hb, q0, -⟩ := (EnsAt.on HEN.out KK.out) j e he
      have HTK : Hid (A.take (j + 1) = A.take j ++ [e]) := by
        show A.take (j + 1) = _
        rw [List.take_add_one, he]
        rfl
      clear he
      obtain ⟨a2, c2, e2, hst, -⟩ := OwnS.strs ho
      cases e2
      have HST : Hid _ := hst
      clear hst ho
      obtain ⟨L, eL⟩ : ∃ L, L = l.length := ⟨_, rfl⟩
      have HO : Hid (OwnS w.heap.size wr (.slice a' L c') l) := by
        show OwnS w.heap.size wr (.slice a' L c') l
        rw [eL]
        exact HO0.out
      rw [← eL] at hlj
      rw [← eL]
      have EL : Hid _ := eL
      clear eL HO0
      go_wp2_with fail
      go_loopw [6] (fun s6 wx => ∃ p : Nat, p ≤ L ∧ s6 = .int .i64 p ∧ wx = wr ∧ Low l p e.key.toList) (fun s6 _ => L - (intOf s6).toNat)
      case atStart => exact ⟨0, Nat.zero_le _, rfl, rfl, Low.nil _ _⟩
      case round =>
        obtain ⟨p, hp, rfl, rfl, hlow⟩ := hrel
        have HLOW : Hid (Low l p e.key.toList) := hlow
        clear hlow
        have hp3 : (0 : Int) ≤ (p : Int) := by omega
        have key : (p < L ∧ ∃ b' off' y, a' = some ⟨b', off', none⟩ ∧ b' < wr.heap.size ∧ wr.cell? ⟨b', off' + p, none⟩ = some (.string y) ∧ Op.bytesLess y.toList e.key.toList = true ∧ Hid (Low l (p + 1) e.key.toList)) ∨ (p < L ∧ ∃ b' off' y, a' = some ⟨b', off', none⟩ ∧ b' < wr.heap.size ∧ wr.cell? ⟨b', off' + p, none⟩ = some (.string y) ∧ Op.bytesLess y.toList e.key.toList = false ∧ (y.toList == e.key.toList) = true ∧ Hid (KeysOf (A.take (j + 1)) l)) ∨ Hid (KeysOf (A.take (j + 1)) (l.take p ++ e.key.toList :: l.drop p)) ∧ ((p < L ∧ ∃ b' off' y, a' = some ⟨b', off', none⟩ ∧ b' < wr.heap.size ∧ wr.cell? ⟨b', off' + p, none⟩ = some (.string y) ∧ Op.bytesLess y.toList e.key.toList = false ∧ (y.toList == e.key.toList) = false) ∨ p = L) := by
          rw [show A.take (j + 1) = _ from HTK.out]
          by_cases hpl : p < L
          · obtain ⟨x, hx⟩ : ∃ x, l[p]? = some x := ⟨_, List.getElem?_eq_getElem (by rw [← show L = l.length from EL.out]; exact hpl)⟩
            obtain ⟨b', off', ea, hb', hc⟩ := HST.out p x hx
            have hyl : (⟨x.toArray⟩ : ByteArray).toList = x := ByteArray.toList_mk x
            by_cases h1 : x < e.key.toList
            · exact .inl ⟨hpl, b', off', _, ea, hb', hc, by rw [hyl, bytesLess_eq]; exact decide_eq_true h1, Low.more HLOW.out hx h1⟩
            · by_cases h2 : x = e.key.toList
              · exact .inr (.inl ⟨hpl, b', off', _, ea, hb', hc, by rw [hyl, bytesLess_eq]; exact decide_eq_false h1, by rw [hyl]; exact beq_iff_eq.2 h2, KeysOf.in_ HKL.out (h2 ▸ List.mem_of_getElem? hx)⟩)
              · exact .inr (.inr ⟨KeysOf.put HKL.out HLOW.out (high (show KeysOf _ _ from HKL.out).1 hx h1 h2), .inl ⟨hpl, b', off', _, ea, hb', hc, by rw [hyl, bytesLess_eq]; exact decide_eq_false h1, by rw [hyl]; exact beq_eq_false_iff_ne.2 h2⟩⟩)
          · have : p = L := by omega
            refine .inr (.inr ⟨KeysOf.put HKL.out HLOW.out (fun y hy => ?_), .inr this⟩)
            rw [this, show L = l.length from EL.out, List.drop_length] at hy
            cases hy
        rcases key with ⟨hpl, b', off', y, rfl, hb', hc, s1, HL2⟩ | ⟨hpl, b', off', y, rfl, hb', hc, s1, s2, HK2⟩ | ⟨HK2, hh⟩
        · have c2 : decide ((p : Int) < (L : Int)) = true := by simp only [decide_eq_true_eq]; omega
          have hpl2 : (p : Int) < (L : Int) := by omega
          go_wp2_with fail
          go_roundw
          case rel => exact ⟨p + 1, by omega, by simp, by trivial, HL2.out⟩
          case measure => simp only [intOf]; omega
        · have c2 : decide ((p : Int) < (L : Int)) = true := by simp only [decide_eq_true_eq]; omega
          have hpl2 : (p : Int) < (L : Int) := by omega
          go_wp2_with fail
          go_roundw
          case rel => exact ⟨j + 1, by omega, by simp, l, HK2.out, by rw [← show L = l.length from EL.out]; omega, HO.out, ⟨_, _, by rw [← show L = l.length from EL.out]⟩, KK.out⟩
          case measure => simp only [intOf]; omega
        · have HAP : Hid (∀ ty, ∃ v' w', (Builtin.append_ #[35, 35] ty #[.slice a' L c', .slice (some ⟨wr.heap.size, 0, none⟩) 1 1]).run Try.prog (wr.alloc (.cells #[.string { data := #[] }] 9 (0, 0))) = .ok v' w' ∧ (OwnS w.heap.size w' v' (l ++ [[]]) ∧ (∃ g' c', v' = .slice (some ⟨g', 0, none⟩) (L + 1) c') ∧ Kept w w')) := fun ty => by
            have k0 : Kept wr (wr.alloc (.cells #[.string { data := #[] }] 9 (0, 0))) := (Same.refl _ wr).alloc _
            obtain ⟨v', w', hr, r1, r2, r3⟩ := app_strs (base := w.heap.size) (ys := [[]]) (OwnS.on HO.out k0) (heap_new wr _) (by decide) (by rw [← show L = l.length from EL.out]; show L + 1 ≤ _; omega) (by rw [World.size_alloc]; have := KK.out.size; omega) ty
            rw [← show L = l.length from EL.out] at r3
            exact ⟨v', w', hr, r1, r3, Same.trans (Same.trans' KK.out k0) r2 (fun q hq hq' => by have := OwnS.low HO.out hq'; omega)⟩
          rcases hh with ⟨hpl, b', off', y, rfl, hb', hc, s1, s2⟩ | rfl
          · have c2 : decide ((p : Int) < (L : Int)) = true := by simp only [decide_eq_true_eq]; omega
            have hpl2 : (p : Int) < (L : Int) := by omega
            go_wp2_with (at_builtin; refine wpList_app rfl (.tmp 51) (.tmp 52) 35 rfl _ _ rfl rfl _ HAP.out ?_; rintro v4 w4 ⟨o4, ⟨g4, c4, rfl⟩, k4⟩)
            have O4 : Hid (OwnS w.heap.size w4 (.slice (some ⟨g4, 0, none⟩) (L + 1) c4) (l ++ [[]])) := o4
            have K4 : Hid (Kept w w4) := k4
            clear o4 k4 HAP
            go_loopw [7] (fun s7 wx => ∃ q : Nat, p ≤ q ∧ q ≤ L ∧ s7 = .int .i64 q ∧ ∃ y, OwnS w.heap.size wx (.slice (some ⟨g4, 0, none⟩) (L + 1) c4) (l.take q ++ y :: l.drop q) ∧ Kept w wx) (fun s7 _ => (intOf s7).toNat - p)
            case atStart => exact ⟨L, by omega, Nat.le_refl _, by simp, [], by rw [List.take_of_length_le (Nat.le_of_eq (show L = l.length from EL.out).symm), List.drop_of_length_le (Nat.le_of_eq (show L = l.length from EL.out).symm)]; exact O4.out, K4.out⟩
            case round =>
              obtain ⟨q, hq, hqL, rfl, y, oq, kq⟩ := hrel
              have hlen : (l.take q ++ y :: l.drop q).length = L + 1 := by
                have := show L = l.length from EL.out
                simp only [List.length_append, List.length_take, List.length_cons, List.length_drop]
                omega
              have OQ : Hid (OwnS w.heap.size wr (.slice (some ⟨g4, 0, none⟩) (L + 1) c4) (l.take q ++ y :: l.drop q)) := oq
              have KQ : Hid (Kept w wr) := kq
              obtain ⟨a5, c5, e5, hst5, -⟩ := OwnS.strs oq
              rw [hlen] at e5
              cases e5
              obtain ⟨cur5, hg5⟩ : ∃ cur, wr.heap[g4]? = some (.cells cur 9 (0, 0)) := by
                rcases oq.2 with ⟨h9, _⟩ | ⟨g, cap, cur, h9, hb9, hg9, -⟩
                · cases h9
                · rw [hlen] at h9
                  cases h9
                  exact ⟨cur, hg9⟩
              have hgl : g4 < wr.heap.size := lt_of_heap hg5
              have HFZ : Hid (∀ o, wr.frozen? ⟨g4, o, none⟩ = false) := frozen_of hg5
              clear oq kq hg5
              by_cases hqp : p < q
              · obtain ⟨m, rfl⟩ : ∃ m, q = m + 1 := ⟨q - 1, by omega⟩
                have c3 : decide ((p : Int) < ((m + 1 : Nat) : Int)) = true := by simp only [decide_eq_true_eq]; omega
                obtain ⟨z, hz⟩ : ∃ z, l[m]? = some z := ⟨_, List.getElem?_eq_getElem (by rw [← show L = l.length from EL.out]; omega)⟩
                obtain ⟨hs1, hs2⟩ := shift (y := y) hz
                obtain ⟨b6, off6, e6, -, hcz⟩ := hst5 m z hs2
                cases e6
                rw [Nat.zero_add] at hcz
                have hm0 : (0 : Int) ≤ (m : Int) := by omega
                have hm1 : (m : Int) < ((L + 1 : Nat) : Int) := by omega
                have hm2 : ((m + 1 : Nat) : Int) < ((L + 1 : Nat) : Int) := by omega
                have hm3 : ((m + 1 : Nat) : Int) - 1 = (m : Int) := by omega
                have hf1 : wr.frozen? ⟨g4, m + 1, none⟩ = false := HFZ.out (m + 1)
                have hcy : wr.cell? ⟨g4, m + 1, none⟩ = some (.string ⟨y.toArray⟩) := by
                  obtain ⟨b7, off7, e7, -, h7⟩ := hst5 (m + 1) y (mid_get (by rw [← show L = l.length from EL.out]; omega))
                  cases e7
                  rw [Nat.zero_add] at h7
                  exact h7
                have NEW : Hid (OwnS w.heap.size (wr.setCell ⟨g4, m + 1, none⟩ (.string ⟨z.toArray⟩)) (.slice (some ⟨g4, 0, none⟩) (L + 1) c4) (l.take m ++ z :: l.drop m)) := by
                  have h9 := (OwnS.put OQ.out hlen.symm (m + 1) z).1
                  rw [hs1] at h9
                  exact h9
                have SAM : Hid (Kept w (wr.setCell ⟨g4, m + 1, none⟩ (.string ⟨z.toArray⟩))) := Same.setCell KQ.out ⟨g4, m + 1, none⟩ (.inl (OwnS.low OQ.out rfl)) _
                clear hs1 hs2 hst5 hlen hz OQ KQ HFZ
                go_wp2_with fail
                go_roundw
                case rel => exact ⟨m, by omega, by omega, by simp, z, NEW.out, SAM.out⟩
                case measure => simp only [intOf]; omega
              · obtain rfl : q = p := by omega
                have c3 : decide ((q : Int) < (q : Int)) = false := by simp
                have hq0 : (0 : Int) ≤ (q : Int) := by omega
                have hq1 : (q : Int) < ((L + 1 : Nat) : Int) := by omega
                have hf1 : wr.frozen? ⟨g4, q, none⟩ = false := HFZ.out q
                have hcy : wr.cell? ⟨g4, q, none⟩ = some (.string ⟨y.toArray⟩) := by
                  obtain ⟨b7, off7, e7, -, h7⟩ := hst5 q y (mid_get (by rw [← show L = l.length from EL.out]; omega))
                  cases e7
                  rw [Nat.zero_add] at h7
                  exact h7
                have NEW : Hid (OwnS w.heap.size (wr.setCell ⟨g4, q, none⟩ (.string e.key)) (.slice (some ⟨g4, 0, none⟩) (L + 1) c4) (l.take q ++ e.key.toList :: l.drop q)) := by
                  have h9 := (OwnS.put OQ.out hlen.symm q e.key.toList).1
                  rw [str_mk, List.set_append_right _ _ (by rw [List.length_take]; omega), show q - (l.take q).length = 0 by rw [List.length_take, ← show L = l.length from EL.out]; omega, List.set_cons_zero] at h9
                  exact h9
                have SAM : Hid (Kept w (wr.setCell ⟨g4, q, none⟩ (.string e.key))) := Same.setCell KQ.out ⟨g4, q, none⟩ (.inl (OwnS.low OQ.out rfl)) _
                have LEN : Hid ((l.take q ++ e.key.toList :: l.drop q).length = L + 1) := by
                  show (l.take q ++ e.key.toList :: l.drop q).length = L + 1
                  rw [← hlen]
                  simp
                clear hst5 hlen OQ KQ HFZ
                go_wp2_with fail
                go_roundw
                case rel => exact ⟨j + 1, by omega, by simp, _, HK2.out, by rw [show (l.take q ++ e.key.toList :: l.drop q).length = L + 1 from LEN.out]; omega, NEW.out, ⟨_, _, by rw [show (l.take q ++ e.key.toList :: l.drop q).length = L + 1 from LEN.out]⟩, SAM.out⟩
                case measure => simp only [intOf]; omega
          · have c2 : decide ((p : Int) < (p : Int)) = false := by simp
            go_wp2_with (at_builtin; refine wpList_app rfl (.tmp 51) (.tmp 52) 35 rfl _ _ rfl rfl _ HAP.out ?_; rintro v4 w4 ⟨o4, ⟨g4, c4, rfl⟩, k4⟩)
            have O4 : Hid (OwnS w.heap.size w4 (.slice (some ⟨g4, 0, none⟩) (p + 1) c4) (l ++ [[]])) := o4
            have K4 : Hid (Kept w w4) := k4
            clear o4 k4 HAP
            go_loopw [7] (fun s7 wx => ∃ q : Nat, p ≤ q ∧ q ≤ p ∧ s7 = .int .i64 q ∧ ∃ y, OwnS w.heap.size wx (.slice (some ⟨g4, 0, none⟩) (p + 1) c4) (l.take q ++ y :: l.drop q) ∧ Kept w wx) (fun s7 _ => (intOf s7).toNat - p)
            case atStart => exact ⟨p, by omega, Nat.le_refl _, by simp, [], by rw [List.take_of_length_le (Nat.le_of_eq (show p = l.length from EL.out).symm), List.drop_of_length_le (Nat.le_of_eq (show p = l.length from EL.out).symm)]; exact O4.out, K4.out⟩
            case round =>
              obtain ⟨q, hq, hqL, rfl, y, oq, kq⟩ := hrel
              have hlen : (l.take q ++ y :: l.drop q).length = p + 1 := by
                have := show p = l.length from EL.out
                simp only [List.length_append, List.length_take, List.length_cons, List.length_drop]
                omega
              have OQ : Hid (OwnS w.heap.size wr (.slice (some ⟨g4, 0, none⟩) (p + 1) c4) (l.take q ++ y :: l.drop q)) := oq
              have KQ : Hid (Kept w wr) := kq
              obtain ⟨a5, c5, e5, hst5, -⟩ := OwnS.strs oq
              rw [hlen] at e5
              cases e5
              obtain ⟨cur5, hg5⟩ : ∃ cur, wr.heap[g4]? = some (.cells cur 9 (0, 0)) := by
                rcases oq.2 with ⟨h9, _⟩ | ⟨g, cap, cur, h9, hb9, hg9, -⟩
                · cases h9
                · rw [hlen] at h9
                  cases h9
                  exact ⟨cur, hg9⟩
              have hgl : g4 < wr.heap.size := lt_of_heap hg5
              have HFZ : Hid (∀ o, wr.frozen? ⟨g4, o, none⟩ = false) := frozen_of hg5
              clear oq kq hg5
              by_cases hqp : p < q
              · omega
              · obtain rfl : q = p := by omega
                have c3 : decide ((q : Int) < (q : Int)) = false := by simp
                have hq0 : (0 : Int) ≤ (q : Int) := by omega
                have hq1 : (q : Int) < ((q + 1 : Nat) : Int) := by omega
                have hf1 : wr.frozen? ⟨g4, q, none⟩ = false := HFZ.out q
                have hcy : wr.cell? ⟨g4, q, none⟩ = some (.string ⟨y.toArray⟩) := by
                  obtain ⟨b7, off7, e7, -, h7⟩ := hst5 q y (mid_get (by rw [← show q = l.length from EL.out]; omega))
                  cases e7
                  rw [Nat.zero_add] at h7
                  exact h7
                have NEW : Hid (OwnS w.heap.size (wr.setCell ⟨g4, q, none⟩ (.string e.key)) (.slice (some ⟨g4, 0, none⟩) (q + 1) c4) (l.take q ++ e.key.toList :: l.drop q)) := by
                  have h9 := (OwnS.put OQ.out hlen.symm q e.key.toList).1
                  rw [str_mk, List.set_append_right _ _ (by rw [List.length_take]; omega), show q - (l.take q).length = 0 by rw [List.length_take, ← show q = l.length from EL.out]; omega, List.set_cons_zero] at h9
                  exact h9
                have SAM : Hid (Kept w (wr.setCell ⟨g4, q, none⟩ (.string e.key))) := Same.setCell KQ.out ⟨g4, q, none⟩ (.inl (OwnS.low OQ.out rfl)) _
                have LEN : Hid ((l.take q ++ e.key.toList :: l.drop q).length = q + 1) := by
                  show (l.take q ++ e.key.toList :: l.drop q).length = q + 1
                  rw [← hlen]
                  simp
                clear hst5 hlen OQ KQ HFZ
                go_wp2_with fail
                go_roundw
                case rel => exact ⟨j + 1, by omega, by simp, _, HK2.out, by rw [show (l.take q ++ e.key.toList :: l.drop q).length = q + 1 from LEN.out]; omega, NEW.out, ⟨_, _, by rw [show (l.take q ++ e.key.toList :: l.drop q).length = q + 1 from LEN.out]⟩, SAM.out⟩
                case measure => simp only [intOf]; omega
    · have c1 : decide ((j : Int) < (n : Int)) = false := by simp only [decide_eq_false_iff_not]; omega
      obtain rfl : j = n := by omega
      go_wp2_with fail
      go_ret
      refine ⟨_, l, rfl, ?_, HO0.out, KK.out⟩
      have h9 : KeysOf (A.take j) l := HKL.out
      rw [show A.take j = A by rw [show j = A.length from EN.out]; exact List.take_length] at h9
      exact h9
end Go.Proofs.Ytnjpbagfbklofaa
