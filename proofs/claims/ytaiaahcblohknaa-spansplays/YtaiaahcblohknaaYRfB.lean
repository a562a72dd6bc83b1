/- What is proved: the document's Overlap, Drop, Of and Remove: what they answer and leave; its forest lies in memory. -/
import Derived.Test.YtaiaahcblohknaaYRfA
import Derived.Test.YtaiaahcblohknaaYDrm
namespace Go.Proofs.Ytaiaahcblohknaa
open Go.RowKit

theorem filter_takeK {A : List Ks} {j : Nat} {e : Ks} (he : A[j]? = some e) (p : Ks → Bool) : (A.take (j + 1)).filter p = (A.take j).filter p ++ (if p e = true then [e] else []) := by
  rw [List.take_add_one, he, List.filter_append]
  simp [List.filter_cons]
theorem filter_takeN (A : List Ks) (j : Nat) (p : Ks → Bool) : ((A.take j).filter p).length ≤ A.length := by
  refine Nat.le_trans (List.length_filter_le _ _) ?_
  rw [List.length_take]
  omega
/-- A span of the key that overlaps. -/
def ovk (k : ByteArray) (fm tl : Int) (e : Ks) : Bool := e.key.toList == k.toList && ovl fm tl e.s
theorem ovk_true {k : ByteArray} {fm tl : Int} {e : Ks} (h : ovk k fm tl e = true) : (e.key.toList == k.toList) = true ∧ e.s.f < tl ∧ fm < e.s.t := by
  simpa [ovk, ovl] using h
theorem ovk_false {k : ByteArray} {fm tl : Int} {e : Ks} (h : ¬ ovk k fm tl e = true) : (e.key.toList == k.toList) = false ∨ ((e.key.toList == k.toList) = true ∧ ¬ e.s.f < tl) ∨ ((e.key.toList == k.toList) = true ∧ e.s.f < tl ∧ ¬ fm < e.s.t) := by
  by_cases h1 : (e.key.toList == k.toList) = true
  · by_cases h2 : e.s.f < tl
    · by_cases h3 : fm < e.s.t
      · exact absurd (by simp [ovk, ovl, h2, h3, beq_iff_eq.1 h1]) h
      · exact .inr (.inr ⟨h1, h2, h3⟩)
    · exact .inr (.inl ⟨h1, h2⟩)
  · exact .inl (by simpa using h1)
set_option maxRecDepth 100000 in
set_option maxHeartbeats 1600000 in
theorem roverlap14 {G : Nat → Prop} {w : World} {rb : Nat} {A : List Ks} (h : RFo G w rb A) (k : ByteArray) (fm tl : Int) (hn : A.length + 1 ≤ 5000000000000) :
    Calls Try.prog 10 #[.pointer (some ⟨rb, 0, none⟩), .string k, .int .i64 fm, .int .i64 tl] w fun r w' => ∃ v, r = .returned v ∧ OwnK w.heap.size w' v (A.filter (ovk k fm tl)) ∧ Kept w w' := by
  obtain ⟨va, hob, how, -⟩ := h.ex
  obtain ⟨a, cap, rfl, hens, -⟩ := OwnK.at how
  have y0 : w.cell? ⟨rb, 0, none⟩ = some (.slice a A.length cap) := (cell_of hob 0).trans rfl
  have hrl := lt_of_heap hob
  have HEN : Hid _ := hens
  obtain ⟨n, en⟩ : ∃ n, n = A.length := ⟨_, rfl⟩
  rw [← en] at hn y0
  have EN : Hid _ := en
  clear hob how hens en h
  go_enter Try.func10, Try.ntmps10
  go_wp2_with fail
  go_loopw [9, 10] (fun s5 s6 wr => ∃ j : Nat, j ≤ n ∧ s6 = .int .i64 j ∧ OwnK w.heap.size wr s5 ((A.take j).filter (ovk k fm tl)) ∧ (∃ a' n' c', s5 = .slice a' n' c') ∧ Kept w wr) (fun _ s6 _ => n - (intOf s6).toNat)
  case atStart => exact ⟨0, Nat.zero_le _, rfl, OwnK.nil _ _, ⟨_, _, _, rfl⟩, Same.refl _ _⟩
  case round =>
    obtain ⟨j, hj, rfl, ho, ⟨a', n', c', rfl⟩, kk⟩ := hrel
    have KK : Hid (Kept w wr) := kk
    have HO : Hid _ := ho
    have z0 : wr.cell? ⟨rb, 0, none⟩ = some (.slice a n cap) := (kk.cell (p := ⟨rb, 0, none⟩) hrl (fun e => e)).trans y0
    have zl : rb < wr.heap.size := Nat.lt_of_lt_of_le hrl kk.size
    clear kk ho
    by_cases hlt : j < n
    · have c1 : decide ((j : Int) < (n : Int)) = true := by simp only [decide_eq_true_eq]; omega
      have hlt2 : (j : Int) < (n : Int) := by omega
      have hlt3 : (0 : Int) ≤ (j : Int) := by omega
      obtain ⟨e, he⟩ : ∃ e, A[j]? = some e := ⟨_, List.getElem?_eq_getElem (by rw [← show n = A.length from EN.out]; exact hlt)⟩
      obtain ⟨b, off, rfl, hb, q0, q1, q2, q3⟩ := (KsAt.on HEN.out KK.out) j e he
      have HFT : Hid _ := filter_takeK he (ovk k fm tl)
      have HFN : Hid (((A.take j).filter (ovk k fm tl)).length ≤ n) := by
        have h9 := filter_takeN A j (ovk k fm tl)
        rw [← show n = A.length from EN.out] at h9
        exact h9
      clear he
      by_cases hq : ovk k fm tl e = true
      · obtain ⟨s1, s2, s3⟩ := ovk_true hq
        have d2 : decide (e.s.f < tl) = true := decide_eq_true s2
        have d3 : decide (fm < e.s.t) = true := decide_eq_true s3
        have HF1 : Hid ((A.take (j + 1)).filter (ovk k fm tl) = (A.take j).filter (ovk k fm tl) ++ [e]) := (show (A.take (j + 1)).filter (ovk k fm tl) = _ from HFT.out).trans (by rw [if_pos hq])
        have HAP : Hid (∀ g, g = wr.heap.size + 1 → ∀ ty, _) := fun g hg ty => app_since e HO.out KK.out (by have h9 : ((A.take j).filter (ovk k fm tl)).length ≤ n := HFN.out; omega) ((wr.alloc (ksO e)).alloc (ksO e)) (((Same.refl _ wr).alloc _).alloc _) (g := g) (by
          have h9 := heap_new (wr.alloc (ksO e)) (ksO e)
          rw [World.size_alloc] at h9
          rw [hg]
          exact h9) ty
        clear hq HFT
        go_wp2_with (at_builtin; refine wpList_app rfl (.tmp 44) (.tmp 46) 27 rfl _ _ rfl rfl _ (HAP.out _ (by first | rfl | simp)) ?_; rintro v4 w4 ⟨o4, ⟨a4, n4, c4, rfl⟩, k4, -⟩)
        go_roundw
        case rel => exact ⟨j + 1, by omega, by simp, by rw [show (A.take (j + 1)).filter (ovk k fm tl) = _ from HF1.out]; exact o4, ⟨_, _, _, rfl⟩, k4⟩
        case measure => simp only [intOf]; omega
      · have hs := ovk_false hq
        have HF1 : Hid ((A.take (j + 1)).filter (ovk k fm tl) = (A.take j).filter (ovk k fm tl)) := (show (A.take (j + 1)).filter (ovk k fm tl) = _ from HFT.out).trans (by rw [if_neg hq, List.append_nil])
        have HO2 : Hid _ := OwnK.on HO.out ((Same.refl _ wr).alloc (ksO e))
        have K2 : Hid (Kept w (wr.alloc (ksO e))) := Same.alloc KK.out _
        clear hq HFT
        rcases hs with s1 | ⟨s1, s2⟩ | ⟨s1, s2, s3⟩
        · go_wp2_with fail
          go_roundw
          case rel => exact ⟨j + 1, by omega, by simp, by rw [show (A.take (j + 1)).filter (ovk k fm tl) = _ from HF1.out]; exact HO2.out, ⟨_, _, _, rfl⟩, K2.out⟩
          case measure => simp only [intOf]; omega
        · have d2 : decide (e.s.f < tl) = false := decide_eq_false s2
          go_wp2_with fail
          go_roundw
          case rel => exact ⟨j + 1, by omega, by simp, by rw [show (A.take (j + 1)).filter (ovk k fm tl) = _ from HF1.out]; exact HO2.out, ⟨_, _, _, rfl⟩, K2.out⟩
          case measure => simp only [intOf]; omega
        · have d2 : decide (e.s.f < tl) = true := decide_eq_true s2
          have d3 : decide (fm < e.s.t) = false := decide_eq_false s3
          go_wp2_with fail
          go_roundw
          case rel => exact ⟨j + 1, by omega, by simp, by rw [show (A.take (j + 1)).filter (ovk k fm tl) = _ from HF1.out]; exact HO2.out, ⟨_, _, _, rfl⟩, K2.out⟩
          case measure => simp only [intOf]; omega
    · have c1 : decide ((j : Int) < (n : Int)) = false := by simp only [decide_eq_false_iff_not]; omega
      obtain rfl : j = n := by omega
      go_wp2_with fail
      go_ret
      refine ⟨_, rfl, ?_, KK.out⟩
      have h9 := HO.out
      rw [show A.take j = A by rw [show j = A.length from EN.out]; exact List.take_length] at h9
      exact h9
set_option maxRecDepth 100000 in
set_option maxHeartbeats 1600000 in
theorem rdrop14 {G : Nat → Prop} {w : World} {rb : Nat} {A : List Ks} (h : RFo G w rb A) (fl : Int) (hn : A.length + 1 ≤ 5000000000000) :
    Calls Try.prog 22 #[.pointer (some ⟨rb, 0, none⟩), .int .i64 fl] w fun r w' => r = .returned (.int .i64 ((A.length - (drp A fl).length : Nat) : Int)) ∧ RStp G w rb (drp A fl) w' := by
  obtain ⟨va, hob, how, -⟩ := h.ex
  obtain ⟨a, cap, rfl, hens, -⟩ := OwnK.at how
  have y0 : w.cell? ⟨rb, 0, none⟩ = some (.slice a A.length cap) := (cell_of hob 0).trans rfl
  have hrl := lt_of_heap hob
  have HEN : Hid _ := hens
  have HS : Hid _ := h
  obtain ⟨p, ep⟩ : ∃ p : Ks → Bool, p = fun y => decide (fl < y.s.t) := ⟨_, rfl⟩
  have EP : Hid _ := ep
  obtain ⟨n, en⟩ : ∃ n, n = A.length := ⟨_, rfl⟩
  rw [← en] at hn y0
  have EN : Hid _ := en
  have HDR : Hid (drp A fl = A.filter p) := by
    have h9 : drp A fl = A.filter p := by rw [ep]; rfl
    exact h9
  have HND : Hid ((drp A fl).length ≤ A.length) := drp_length A fl
  clear hob how hens h ep
  rw [← en]
  clear en
  go_enter Try.func22, Try.ntmps22
  go_wp2_with fail
  go_loopw [5, 6] (fun s5 s6 wr => ∃ j : Nat, j ≤ n ∧ s6 = .int .i64 j ∧ OwnK w.heap.size wr s5 ((A.take j).filter p) ∧ (∃ a' n' c', s5 = .slice a' n' c') ∧ Kept w wr) (fun _ s6 _ => n - (intOf s6).toNat)
  case atStart => exact ⟨0, Nat.zero_le _, rfl, OwnK.nil _ _, ⟨_, _, _, rfl⟩, Same.refl _ _⟩
  case round =>
    obtain ⟨j, hj, rfl, ho, ⟨a', n', c', rfl⟩, kk⟩ := hrel
    have KK : Hid (Kept w wr) := kk
    have HO : Hid _ := ho
    have z0 : wr.cell? ⟨rb, 0, none⟩ = some (.slice a n cap) := (kk.cell (p := ⟨rb, 0, none⟩) hrl (fun e => e)).trans y0
    have zl : rb < wr.heap.size := Nat.lt_of_lt_of_le hrl kk.size
    clear kk ho
    by_cases hlt : j < n
    · have c1 : decide ((j : Int) < (n : Int)) = true := by simp only [decide_eq_true_eq]; omega
      have hlt2 : (j : Int) < (n : Int) := by omega
      have hlt3 : (0 : Int) ≤ (j : Int) := by omega
      obtain ⟨e, he⟩ : ∃ e, A[j]? = some e := ⟨_, List.getElem?_eq_getElem (by rw [← show n = A.length from EN.out]; exact hlt)⟩
      obtain ⟨b, off, rfl, hb, q0, q1, q2, q3⟩ := (KsAt.on HEN.out KK.out) j e he
      have HFT : Hid _ := filter_takeK he p
      have HFN : Hid (((A.take j).filter p).length ≤ n) := by
        have h9 := filter_takeN A j p
        rw [← show n = A.length from EN.out] at h9
        exact h9
      clear he
      by_cases hq : fl < e.s.t
      · have d2 : decide (fl < e.s.t) = true := decide_eq_true hq
        have HF1 : Hid ((A.take (j + 1)).filter p = (A.take j).filter p ++ [e]) := (show (A.take (j + 1)).filter p = _ from HFT.out).trans (by rw [if_pos (by rw [show p = _ from EP.out]; exact d2)])
        have HAP : Hid (∀ g, g = wr.heap.size → ∀ ty, _) := fun g hg ty => app_since e HO.out KK.out (by have h9 : ((A.take j).filter p).length ≤ n := HFN.out; omega) (wr.alloc (ksO e)) ((Same.refl _ wr).alloc _) (g := g) (by rw [hg]; exact heap_new _ _) ty
        clear HFT
        go_wp2_with (at_builtin; refine wpList_app rfl (.tmp 27) (.tmp 35) 27 rfl _ _ rfl rfl _ (HAP.out _ (by first | rfl | simp)) ?_; rintro v4 w4 ⟨o4, ⟨a4, n4, c4, rfl⟩, k4, -⟩)
        go_roundw
        case rel => exact ⟨j + 1, by omega, by simp, by rw [show (A.take (j + 1)).filter p = _ from HF1.out]; exact o4, ⟨_, _, _, rfl⟩, k4⟩
        case measure => simp only [intOf]; omega
      · have d2 : decide (fl < e.s.t) = false := decide_eq_false hq
        have HF1 : Hid ((A.take (j + 1)).filter p = (A.take j).filter p) := (show (A.take (j + 1)).filter p = _ from HFT.out).trans (by rw [if_neg (by rw [show p = _ from EP.out]; simpa using hq), List.append_nil])
        clear HFT
        go_wp2_with fail
        go_roundw
        case rel => exact ⟨j + 1, by omega, by simp, by rw [show (A.take (j + 1)).filter p = _ from HF1.out]; exact HO.out, ⟨_, _, _, rfl⟩, KK.out⟩
        case measure => simp only [intOf]; omega
    · have c1 : decide ((j : Int) < (n : Int)) = false := by simp only [decide_eq_false_iff_not]; omega
      obtain rfl : n = j := by omega
      have ho2 := HO.out
      rw [show A.take n = A by rw [show n = A.length from EN.out]; exact List.take_length, ← show drp A fl = _ from HDR.out] at ho2
      have hle : (drp A fl).length ≤ n := by rw [show n = A.length from EN.out]; exact HND.out
      obtain ⟨a5, c5, e5, -⟩ := OwnK.at ho2
      cases e5
      obtain ⟨⟨u, hu⟩, hf, hrb, hst⟩ := RFo.lay HS.out KK.out ho2
      have HST : Hid _ := hst
      clear hst ho2 HO hu
      obtain ⟨q, hq⟩ : ∃ q : Nat, q = n - (drp A fl).length := ⟨_, rfl⟩
      have HQ : Hid (q = n - (drp A fl).length) := hq
      have hq1 : (n : Int) - ((drp A fl).length : Int) = (q : Int) := by omega
      have hq2 : (q : Int) ≤ 5000000000000 := by omega
      clear hq hle HND HDR
      generalize hT : drp A fl = T at *
      have HT : Hid (drp A fl = T) := hT
      clear hT
      go_wp2_with fail
      go_ret
      have e9 : Ending.returned (.int .i64 (q : Int)) = Ending.returned (.int .i64 ((n - (drp A fl).length : Nat) : Int)) := by rw [show q = _ from HQ.out, show drp A fl = T from HT.out]
      exact ⟨e9, by rw [show drp A fl = T from HT.out]; exact HST.out⟩
theorem kf_of (A : List Ks) (k : ByteArray) : (kf A k).length = (A.filter fun e => e.key.toList == k.toList).length := by
  unfold kf
  rw [List.length_map]
set_option maxRecDepth 100000 in
set_option maxHeartbeats 1600000 in
theorem rof14 {G : Nat → Prop} {w : World} {rb : Nat} {A : List Ks} (h : RFo G w rb A) (k : ByteArray) (hn : A.length + 1 ≤ 5000000000000) :
    Calls Try.prog 24 #[.pointer (some ⟨rb, 0, none⟩), .string k] w fun r w' => r = .returned (.int .i64 ((kf A k).length : Nat)) ∧ Kept w w' := by
  obtain ⟨va, hob, how, -⟩ := h.ex
  obtain ⟨a, cap, rfl, hens, -⟩ := OwnK.at how
  have y0 : w.cell? ⟨rb, 0, none⟩ = some (.slice a A.length cap) := (cell_of hob 0).trans rfl
  have hrl := lt_of_heap hob
  have HEN : Hid _ := hens
  obtain ⟨p, ep⟩ : ∃ p : Ks → Bool, p = fun e => e.key.toList == k.toList := ⟨_, rfl⟩
  have EP : Hid _ := ep
  obtain ⟨n, en⟩ : ∃ n, n = A.length := ⟨_, rfl⟩
  rw [← en] at hn y0
  have EN : Hid _ := en
  rw [kf_of, ← ep]
  clear hob how hens en h ep
  go_enter Try.func24, Try.ntmps24
  go_wp2_with fail
  go_loopw [5, 6] (fun s5 s6 wr => ∃ j q : Nat, j ≤ n ∧ s6 = .int .i64 j ∧ s5 = .int .i64 q ∧ q = ((A.take j).filter p).length ∧ wr = w) (fun _ s6 _ => n - (intOf s6).toNat)
  case atStart => exact ⟨0, 0, Nat.zero_le _, rfl, rfl, rfl, rfl⟩
  case round =>
    obtain ⟨j, q, hj, rfl, rfl, hq, ew⟩ := hrel
    subst ew
    have HQ : Hid _ := hq
    have hqn : (q : Int) ≤ (n : Int) := by
      have h9 := filter_takeN A j p
      rw [← hq, ← show n = A.length from EN.out] at h9
      omega
    clear hq
    by_cases hlt : j < n
    · have c1 : decide ((j : Int) < (n : Int)) = true := by simp only [decide_eq_true_eq]; omega
      have hlt2 : (j : Int) < (n : Int) := by omega
      have hlt3 : (0 : Int) ≤ (j : Int) := by omega
      obtain ⟨e, he⟩ : ∃ e, A[j]? = some e := ⟨_, List.getElem?_eq_getElem (by rw [← show n = A.length from EN.out]; exact hlt)⟩
      obtain ⟨b, off, rfl, hb, q0, q1, q2, q3⟩ := HEN.out j e he
      have HFT : Hid _ := filter_takeK he p
      clear he
      by_cases hke : (e.key.toList == k.toList) = true
      · have HF1 : Hid (q + 1 = ((A.take (j + 1)).filter p).length) := by
          show q + 1 = _
          rw [show (A.take (j + 1)).filter p = _ from HFT.out, if_pos (by rw [show p = _ from EP.out]; exact hke), List.length_append, ← show q = _ from HQ.out]
          rfl
        clear HFT
        go_wp2_with fail
        go_roundw
        case rel => exact ⟨j + 1, q + 1, by omega, by simp, by simp, HF1.out, trivial⟩
        case measure => simp only [intOf]; omega
      · have s1 : (e.key.toList == k.toList) = false := by simpa using hke
        have HF1 : Hid (q = ((A.take (j + 1)).filter p).length) := by
          show q = _
          rw [show (A.take (j + 1)).filter p = _ from HFT.out, if_neg (by rw [show p = _ from EP.out]; exact hke), List.append_nil]
          exact HQ.out
        clear HFT hke
        go_wp2_with fail
        go_roundw
        case rel => exact ⟨j + 1, q, by omega, by simp, rfl, HF1.out, trivial⟩
        case measure => simp only [intOf]; omega
    · have c1 : decide ((j : Int) < (n : Int)) = false := by simp only [decide_eq_false_iff_not]; omega
      obtain rfl : n = j := by omega
      have e9 : q = (A.filter p).length := by
        rw [show q = _ from HQ.out, show A.take n = A by rw [show n = A.length from EN.out]; exact List.take_length]
      have E9 : Hid _ := e9
      clear e9
      go_wp2_with fail
      go_ret
      have e8 : Ending.returned (.int .i64 (q : Int)) = Ending.returned (.int .i64 (((A.filter p).length : Nat) : Int)) := by rw [show q = _ from E9.out]
      exact ⟨e8, Same.refl _ _⟩
end Go.Proofs.Ytaiaahcblohknaa
