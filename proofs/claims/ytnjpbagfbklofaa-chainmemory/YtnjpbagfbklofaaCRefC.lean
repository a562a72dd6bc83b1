/- What is proved: the document's At and After tell what the chains say; the store lies in memory. -/
import Derived.Test.YtnjpbagfbklofaaCRefA
namespace Go.Proofs.Ytnjpbagfbklofaa
open Go.RowKit

/-- The best so far of those of a key that q lets pass. -/
def Bst (q : Vn → Bool) (bet : Vn → Vn → Bool) (A : List En) (k : ByteArray) (j : Nat) (bi : Int) : Prop :=
  (bi = -1 ∧ ∀ e ∈ A.take j, isK k e = true → q e.x = false) ∨
    (∃ (i : Nat) (e : En), bi = (i : Int) ∧ i < j ∧ A[i]? = some e ∧ isK k e = true ∧ q e.x = true ∧ ∀ e' ∈ A.take j, isK k e' = true → q e'.x = true → bet e'.x e.x = false)
theorem mem_take_succ {A : List En} {j : Nat} {e e' : En} (he : A[j]? = some e) (h : e' ∈ A.take (j + 1)) : e' ∈ A.take j ∨ e' = e := by
  rw [List.take_add_one, he] at h
  rcases List.mem_append.1 h with h' | h'
  · exact .inl h'
  · simp only [Option.toList_some, List.mem_singleton] at h'
    exact .inr h'
theorem Bst.no {q : Vn → Bool} {bet : Vn → Vn → Bool} {A : List En} {k : ByteArray} {j : Nat} {bi : Int} (h : Bst q bet A k j bi) {e : En} (he : A[j]? = some e) (hn : isK k e = false ∨ q e.x = false) : Bst q bet A k (j + 1) bi := by
  rcases h with ⟨h1, h2⟩ | ⟨i, ei, h1, h2, h3, h4, h5, h6⟩
  · refine .inl ⟨h1, fun e' he' hk => ?_⟩
    rcases mem_take_succ he he' with h' | rfl
    · exact h2 e' h' hk
    · rcases hn with h' | h'
      · rw [hk] at h'; cases h'
      · exact h'
  · refine .inr ⟨i, ei, h1, by omega, h3, h4, h5, fun e' he' hk hq => ?_⟩
    rcases mem_take_succ he he' with h' | rfl
    · exact h6 e' h' hk hq
    · rcases hn with h' | h'
      · rw [hk] at h'; cases h'
      · rw [hq] at h'; cases h'
theorem Bst.first {q : Vn → Bool} {bet : Vn → Vn → Bool} {A : List En} {k : ByteArray} {j : Nat} (h : ∀ e ∈ A.take j, isK k e = true → q e.x = false) {e : En} (he : A[j]? = some e) (hk : isK k e = true) (hq : q e.x = true) (hb : bet e.x e.x = false) : Bst q bet A k (j + 1) (j : Int) := by
  refine .inr ⟨j, e, rfl, by omega, he, hk, hq, fun e' he' hk' hq' => ?_⟩
  rcases mem_take_succ he he' with h' | rfl
  · rw [h e' h' hk'] at hq'; cases hq'
  · exact hb
theorem Bst.more {q : Vn → Bool} {bet : Vn → Vn → Bool} (tr : ∀ a b c, bet a b = true → bet b c = true → bet a c = true) (ir : ∀ a, bet a a = false) {A : List En} {k : ByteArray} {j : Nat} {ei : En} (h : ∀ e' ∈ A.take j, isK k e' = true → q e'.x = true → bet e'.x ei.x = false) {e : En} (he : A[j]? = some e) (hk : isK k e = true) (hq : q e.x = true) (hb : bet e.x ei.x = true) : Bst q bet A k (j + 1) (j : Int) := by
  refine .inr ⟨j, e, rfl, by omega, he, hk, hq, fun e' he' hk' hq' => ?_⟩
  rcases mem_take_succ he he' with h' | rfl
  · have h1 := h e' h' hk' hq'
    cases hc : bet e'.x e.x
    · rfl
    · rw [tr _ _ _ hc hb] at h1; cases h1
  · exact ir _
theorem Bst.less {q : Vn → Bool} {bet : Vn → Vn → Bool} {A : List En} {k : ByteArray} {j i : Nat} {ei : En} (hi : i < j) (hei : A[i]? = some ei) (hki : isK k ei = true) (hqi : q ei.x = true) (h : ∀ e' ∈ A.take j, isK k e' = true → q e'.x = true → bet e'.x ei.x = false) {e : En} (he : A[j]? = some e) (hb : bet e.x ei.x = false) : Bst q bet A k (j + 1) (i : Int) := by
  refine .inr ⟨i, ei, rfl, by omega, hei, hki, hqi, fun e' he' hk' hq' => ?_⟩
  rcases mem_take_succ he he' with h' | rfl
  · exact h e' h' hk' hq'
  · exact hb
/-- What At is by the document's search. -/
theorem bst_at {A : List En} (h : Good A) {k : ByteArray} {t : Int} {i : Nat} {e : En} (he : A[i]? = some e) (hk : isK k e = true) (hq : decide (e.x.c ≤ t) = true) (hm : ∀ e' ∈ A, isK k e' = true → decide (e'.x.c ≤ t) = true → gt e'.x e.x = false) : atM (ch A k) t = some e.x := by
  refine (h k).at_spec (mem_ch.2 ⟨e, List.mem_of_getElem? he, by simpa [isK] using hk, rfl⟩) (by simpa using hq) fun y hy hyc => ?_
  obtain ⟨e', he', hk', rfl⟩ := mem_ch.1 hy
  exact hm e' he' (by simpa [isK] using hk') (by simpa using hyc)
theorem bst_at_none {A : List En} {k : ByteArray} {t : Int} (hm : ∀ e' ∈ A, isK k e' = true → decide (e'.x.c ≤ t) = false) : atM (ch A k) t = none :=
  Asc.at_none fun y hy hyc => by
    obtain ⟨e', he', hk', rfl⟩ := mem_ch.1 hy
    have := hm e' he' (by simpa [isK] using hk')
    simp at this
    omega
theorem bst_af {A : List En} (h : Good A) {k : ByteArray} {t : Int} {i : Nat} {e : En} (he : A[i]? = some e) (hk : isK k e = true) (hq : decide (t < e.x.c) = true) (hm : ∀ e' ∈ A, isK k e' = true → decide (t < e'.x.c) = true → gt e.x e'.x = false) : afM (ch A k) t = some e.x := by
  refine (h k).af_spec (mem_ch.2 ⟨e, List.mem_of_getElem? he, by simpa [isK] using hk, rfl⟩) (by simpa using hq) fun y hy hyc => ?_
  obtain ⟨e', he', hk', rfl⟩ := mem_ch.1 hy
  exact hm e' he' (by simpa [isK] using hk') (by simpa using hyc)
theorem bst_af_none {A : List En} {k : ByteArray} {t : Int} (hm : ∀ e' ∈ A, isK k e' = true → decide (t < e'.x.c) = false) : afM (ch A k) t = none :=
  af_none fun y hy hyc => by
    obtain ⟨e', he', hk', rfl⟩ := mem_ch.1 hy
    have := hm e' he' (by simpa [isK] using hk')
    simp at this
    omega
def e0 : En := ⟨⟨#[]⟩, v0⟩
set_option maxRecDepth 100000 in
set_option maxHeartbeats 1600000 in
theorem rat13 {G : Nat → Prop} {w : World} {rb : Nat} {A : List En} (h : RSt G w rb A) (hgd : Good A) (k : ByteArray) (t : Int) (hn : A.length < 4611686018427387904) :
    Calls Try.prog 23 #[.pointer (some ⟨rb, 0, none⟩), .string k, .int .i64 t] w fun r w' => ∃ e : En, r = .returned (.tuple #[enV e, .bool (atM (ch A k) t).isSome]) ∧ e.x = ans (atM (ch A k) t) ∧ Kept w w' := by
  have HK0 : Hid _ := (Same.refl (fun _ => False) w).alloc (.cells #[.string ⟨#[]⟩, .int .i64 0, .int .i64 0, .bool false, .string ⟨#[]⟩] 52 (0, 0))
  have HG : Hid _ := heap_new w (.cells #[.string ⟨#[]⟩, .int .i64 0, .int .i64 0, .bool false, .string ⟨#[]⟩] 52 (0, 0))
  have HS : Hid _ := h
  have HGD : Hid _ := hgd
  clear h hgd
  generalize hq : atM (ch A k) t = o
  have HQ : Hid _ := hq
  clear hq
  go_enter Try.func23, Try.ntmps23
  go_upto_region 1 with fail
  generalize w.alloc (.cells #[.string ⟨#[]⟩, .int .i64 0, .int .i64 0, .bool false, .string ⟨#[]⟩] 52 (0, 0)) = W at HK0 HG ⊢
  generalize hgg : w.heap.size = g at HG ⊢
  have HGW : Hid (w.heap.size = g) := hgg
  clear hgg
  obtain ⟨va, hob, how, -⟩ := RSt.ex (RSt.on HS.out HK0.out)
  obtain ⟨a, cap, rfl, hens, -⟩ := OwnE.ens how
  have y0 : W.cell? ⟨rb, 0, none⟩ = some (.slice a A.length cap) := (cell_of hob 0).trans rfl
  have hrl := lt_of_heap hob
  have HEN : Hid _ := hens
  obtain ⟨n, en⟩ : ∃ n, n = A.length := ⟨_, rfl⟩
  rw [← en] at hn y0
  have EN : Hid _ := en
  clear hob how hens en
  go_wp2_with fail
  go_loopw [8, 9] (fun s8 s9 wr => ∃ (j : Nat) (bi : Int), j ≤ n ∧ s9 = .int .i64 j ∧ s8 = .int .i64 bi ∧ Kept W wr ∧ Bst (fun y => decide (y.c ≤ t)) (fun a b => gt a b) A k j bi) (fun _ s9 _ => n - (intOf s9).toNat)
  case atStart => exact ⟨0, -1, Nat.zero_le _, rfl, rfl, Same.refl _ _, .inl ⟨rfl, fun e he => by simp at he⟩⟩
  case round =>
    obtain ⟨j, bi, hj, rfl, rfl, kk, bst⟩ := hrel
    have KK : Hid _ := kk
    have BST : Hid _ := bst
    have z0 : wr.cell? ⟨rb, 0, none⟩ = some (.slice a n cap) := (kk.cell (p := ⟨rb, 0, none⟩) hrl (fun e => e)).trans y0
    have zl : rb < wr.heap.size := Nat.lt_of_lt_of_le hrl kk.size
    clear kk bst
    by_cases hlt : j < n
    · have c1 : decide ((j : Int) < (n : Int)) = true := by simp only [decide_eq_true_eq]; omega
      have hlt2 : (j : Int) < (n : Int) := by omega
      have hlt3 : (0 : Int) ≤ (j : Int) := by omega
      obtain ⟨e, he⟩ : ∃ e, A[j]? = some e := ⟨_, List.getElem?_eq_getElem (by rw [← show n = A.length from EN.out]; exact hlt)⟩
      obtain ⟨b, off, rfl, hb, q0, q1, q2, q3, q4⟩ := (EnsAt.on HEN.out KK.out) j e he
      have HE : Hid _ := he
      have KW : Hid _ := (Same.refl (fun _ => False) wr).alloc (.cells #[.string e.key, .int .i64 e.x.c, .int .i64 e.x.w, .bool e.x.f, .string e.x.v] 52 (0, 0))
      have GX : Hid _ := heap_new wr (.cells #[.string e.key, .int .i64 e.x.c, .int .i64 e.x.w, .bool e.x.f, .string e.x.v] 52 (0, 0))
      clear he
      go_upto_region 6 with fail
      have HENW : Hid _ := EnsAt.on HEN.out (Same.trans' KK.out KW.out)
      have z0' : (wr.alloc (.cells #[.string e.key, .int .i64 e.x.c, .int .i64 e.x.w, .bool e.x.f, .string e.x.v] 52 (0, 0))).cell? ⟨rb, 0, none⟩ = some (.slice (some ⟨b, off, none⟩) n cap) := (KW.out.cell (p := ⟨rb, 0, none⟩) zl (fun e => e)).trans z0
      have zl' : rb < (wr.alloc (.cells #[.string e.key, .int .i64 e.x.c, .int .i64 e.x.w, .bool e.x.f, .string e.x.v] 52 (0, 0))).heap.size := by rw [World.size_alloc]; omega
      clear z0 zl q0 q1 q2 q3 q4 hb
      generalize wr.alloc (.cells #[.string e.key, .int .i64 e.x.c, .int .i64 e.x.w, .bool e.x.f, .string e.x.v] 52 (0, 0)) = Y at *
      generalize wr.heap.size = gx at *
      obtain ⟨⟨u0, u1, u2, u3, u4⟩, -⟩ := en_obj GX.out
      have ugl := lt_of_heap GX.out
      have KY : Hid (Kept W Y) := Same.trans' KK.out KW.out
      clear KW KK
      by_cases hke : e.key.toList = k.toList
      · have s1 : (e.key.toList == k.toList) = true := by simpa using hke
        have HKE : Hid (isK k e = true) := s1
        clear hke
        by_cases hct : e.x.c ≤ t
        · have t1 : decide (e.x.c ≤ t) = true := decide_eq_true hct
          have HCT : Hid (decide (e.x.c ≤ t) = true) := t1
          rcases BST.out with ⟨hb1, hno⟩ | ⟨i, ei, hb1, hij, hei, hki, hqi, hmx⟩
          · subst hb1
            have HNO : Hid _ := hno
            clear hno hct
            go_quiet (fail)
            go_wp2_with fail
            go_roundw
            case rel => exact ⟨j + 1, (j : Int), by omega, by simp, rfl, Same.drewN KY.out _, Bst.first HNO.out HE.out HKE.out HCT.out (gt_irrefl _)⟩
            case measure => simp only [intOf]; omega
          · subst hb1
            obtain ⟨b2, off2, eb2, hb2, p0, p1, p2, p3, p4⟩ := (show EnsAt Y (some ⟨b, off, none⟩) A from HENW.out) i ei hei
            cases eb2
            have i1 : ¬ ((i : Int) < 0) := by omega
            have i2 : decide ((i : Int) < 0) = false := decide_eq_false i1
            have i3 : (i : Int) < (n : Int) := by omega
            have i4 : decide ((i : Int) < (n : Int)) = true := decide_eq_true i3
            have i5 : (0 : Int) ≤ (i : Int) := by omega
            have HBX : Hid (∀ W', Kept Y W' → Kept Y W' ∧ W'.cell? ⟨rb, 0, none⟩ = some (.slice (some ⟨b, off, none⟩) n cap) ∧ (W'.cell? ⟨gx, 0, none⟩ = some (.string e.key) ∧ W'.cell? ⟨gx, 1, none⟩ = some (.int .i64 e.x.c) ∧ W'.cell? ⟨gx, 2, none⟩ = some (.int .i64 e.x.w) ∧ W'.cell? ⟨gx, 3, none⟩ = some (.bool e.x.f) ∧ W'.cell? ⟨gx, 4, none⟩ = some (.string e.x.v)) ∧ (W'.cell? ⟨b, off + i * 5, none⟩ = some (.string ei.key) ∧ W'.cell? ⟨b, off + i * 5 + 1, none⟩ = some (.int .i64 ei.x.c) ∧ W'.cell? ⟨b, off + i * 5 + 2, none⟩ = some (.int .i64 ei.x.w) ∧ W'.cell? ⟨b, off + i * 5 + 3, none⟩ = some (.bool ei.x.f) ∧ W'.cell? ⟨b, off + i * 5 + 4, none⟩ = some (.string ei.x.v))) := fun W' k' =>
              ⟨k', (k'.cell (p := ⟨rb, 0, none⟩) zl' (fun e => e)).trans z0', ⟨(k'.cell (p := ⟨gx, 0, none⟩) ugl (fun e => e)).trans u0, (k'.cell (p := ⟨gx, 1, none⟩) ugl (fun e => e)).trans u1, (k'.cell (p := ⟨gx, 2, none⟩) ugl (fun e => e)).trans u2, (k'.cell (p := ⟨gx, 3, none⟩) ugl (fun e => e)).trans u3, (k'.cell (p := ⟨gx, 4, none⟩) ugl (fun e => e)).trans u4⟩, ⟨(k'.cell (p := ⟨b, _, none⟩) hb2 (fun e => e)).trans p0, (k'.cell (p := ⟨b, _, none⟩) hb2 (fun e => e)).trans p1, (k'.cell (p := ⟨b, _, none⟩) hb2 (fun e => e)).trans p2, (k'.cell (p := ⟨b, _, none⟩) hb2 (fun e => e)).trans p3, (k'.cell (p := ⟨b, _, none⟩) hb2 (fun e => e)).trans p4⟩⟩
            have HA1 : Hid (∀ W', Calls Try.prog 35 #[.agg #[.string e.key, .int .i64 e.x.c, .int .i64 e.x.w, .bool e.x.f, .string e.x.v], .agg #[.string ei.key, .int .i64 ei.x.c, .int .i64 ei.x.w, .bool ei.x.f, .string ei.x.v]] W' fun r w' => r = .returned (.bool (gt e.x ei.x)) ∧ Kept W' w') := fun W' => above_any e ei W'
            have HIJ : Hid _ := hij
            have HEI : Hid _ := hei
            have HKI : Hid _ := hki
            have HQI : Hid _ := hqi
            have HMX : Hid _ := hmx
            generalize hgt : gt e.x ei.x = gg at HA1
            have HGT : Hid (gt e.x ei.x = gg) := hgt
            clear hgt hct hij hei hki hqi hmx
            go_cut [51] (fun s51 wx => s51 = .bool gg ∧ Kept Y wx)
            case first =>
              go_region_held3 (fun W' => Kept Y W' ∧ W'.cell? ⟨rb, 0, none⟩ = some (.slice (some ⟨b, off, none⟩) n cap) ∧ (W'.cell? ⟨gx, 0, none⟩ = some (.string e.key) ∧ W'.cell? ⟨gx, 1, none⟩ = some (.int .i64 e.x.c) ∧ W'.cell? ⟨gx, 2, none⟩ = some (.int .i64 e.x.w) ∧ W'.cell? ⟨gx, 3, none⟩ = some (.bool e.x.f) ∧ W'.cell? ⟨gx, 4, none⟩ = some (.string e.x.v)) ∧ (W'.cell? ⟨b, off + i * 5, none⟩ = some (.string ei.key) ∧ W'.cell? ⟨b, off + i * 5 + 1, none⟩ = some (.int .i64 ei.x.c) ∧ W'.cell? ⟨b, off + i * 5 + 2, none⟩ = some (.int .i64 ei.x.w) ∧ W'.cell? ⟨b, off + i * 5 + 3, none⟩ = some (.bool ei.x.f) ∧ W'.cell? ⟨b, off + i * 5 + 4, none⟩ = some (.string ei.x.v)))
                (exact HBX.out _ (by (repeat (first | exact Same.refl _ _ | apply Same.alloc | apply Same.drew | apply Same.drewN | refine Same.trans' ?_ kq)); done))
                ((go_at_call 35; refine Calls.mono (HA1.out _) ?_; rintro r w2 ⟨rfl, kq⟩))
              all_goals
                go_wp2_with fail
                go_meet
                exact ⟨rfl, (by (repeat (first | exact Same.refl _ _ | apply Same.alloc | apply Same.drew | apply Same.drewN | refine Same.trans' ?_ kq)); done)⟩
            case rest =>
              obtain ⟨rfl, k2⟩ := hcut
              have K2 : Hid _ := k2
              clear k2
              cases gg
              · go_wp2_with fail
                go_roundw
                case rel => exact ⟨j + 1, (i : Int), by omega, by simp, rfl, Same.trans' KY.out K2.out, Bst.less HIJ.out HEI.out HKI.out HQI.out HMX.out HE.out HGT.out⟩
                case measure => simp only [intOf]; omega
              · go_wp2_with fail
                go_roundw
                case rel => exact ⟨j + 1, (j : Int), by omega, by simp, rfl, Same.trans' KY.out K2.out, Bst.more (q := fun y => decide (y.c ≤ t)) (bet := fun a b => gt a b) (fun _ _ _ h1 h2 => gt_trans h1 h2) (fun _ => gt_irrefl _) HMX.out HE.out HKE.out HCT.out HGT.out⟩
                case measure => simp only [intOf]; omega
        · have t1 : decide (e.x.c ≤ t) = false := decide_eq_false hct
          have HCT : Hid (decide (e.x.c ≤ t) = false) := t1
          go_quiet (fail)
          go_wp2_with fail
          go_roundw
          case rel => exact ⟨j + 1, bi, by omega, by simp, rfl, Same.drewN KY.out _, Bst.no BST.out HE.out (.inr HCT.out)⟩
          case measure => simp only [intOf]; omega
      · have s1 : (e.key.toList == k.toList) = false := by simpa using hke
        have HKE : Hid (isK k e = false) := s1
        clear hke
        go_quiet (fail)
        go_wp2_with fail
        go_roundw
        case rel => exact ⟨j + 1, bi, by omega, by simp, rfl, Same.drewN KY.out _, Bst.no BST.out HE.out (.inl HKE.out)⟩
        case measure => simp only [intOf]; omega
    · have c1 : decide ((j : Int) < (n : Int)) = false := by simp only [decide_eq_false_iff_not]; omega
      obtain rfl : j = n := by omega
      have hgo := (KK.out.block g (lt_of_heap HG.out) (fun e => e)).trans HG.out
      obtain ⟨⟨u0, u1, u2, u3, u4⟩, f0, f1, f2, f3, f4⟩ := en_obj hgo
      have HGO : Hid _ := hgo
      have HTK : Hid (A.take j = A) := by
        show A.take j = A
        rw [show j = A.length from EN.out]
        exact List.take_length
      clear hgo
      have KF : Hid (Kept w wr) := Same.trans' HK0.out KK.out
      rcases BST.out with ⟨hb1, hno⟩ | ⟨i, ei, hb1, hij, hei, hki, hqi, hmx⟩
      · subst hb1
        have EO : Hid (o = none) := (show atM (ch A k) t = o from HQ.out).symm.trans (bst_at_none (by rw [show A.take j = A from HTK.out] at hno; exact hno))
        clear hno
        go_wp2_with fail
        refine bodyPost_ret (results_ct (a := 6) (t := 52) (u := 7) rfl rfl (loadVar_en (e := e0) (put5 HGO.out _ _ _ _ _))) rfl ?_
        exact ⟨e0, by rw [show o = none from EO.out]; rfl, by rw [show o = none from EO.out]; rfl, put5_same KF.out (.inl (by rw [show w.heap.size = g from HGW.out]; exact Nat.le_refl _)) _ _ _ _ _⟩
      · subst hb1
        have EO : Hid (o = some ei.x) := (show atM (ch A k) t = o from HQ.out).symm.trans (bst_at HGD.out hei hki hqi (by rw [show A.take j = A from HTK.out] at hmx; exact hmx))
        obtain ⟨b, off, rfl, hb, q0, q1, q2, q3, q4⟩ := (EnsAt.on HEN.out KK.out) i ei hei
        have i1 : ¬ ((i : Int) < 0) := by omega
        have i2 : decide ((i : Int) < 0) = false := decide_eq_false i1
        have i3 : (i : Int) < (j : Int) := by omega
        have i4 : decide ((i : Int) < (j : Int)) = true := decide_eq_true i3
        clear hij hei hki hqi hmx
        go_wp2_with fail
        refine bodyPost_ret (results_ct (a := 6) (t := 52) (u := 7) rfl rfl (loadVar_en (e := ei) (put5 HGO.out _ _ _ _ _))) rfl ?_
        exact ⟨ei, by rw [show o = some ei.x from EO.out]; rfl, by rw [show o = some ei.x from EO.out]; rfl, put5_same KF.out (.inl (by rw [show w.heap.size = g from HGW.out]; exact Nat.le_refl _)) _ _ _ _ _⟩
set_option maxRecDepth 100000 in
set_option maxHeartbeats 1600000 in
theorem rafter13 {G : Nat → Prop} {w : World} {rb : Nat} {A : List En} (h : RSt G w rb A) (hgd : Good A) (k : ByteArray) (t : Int) (hn : A.length < 4611686018427387904) :
    Calls Try.prog 24 #[.pointer (some ⟨rb, 0, none⟩), .string k, .int .i64 t] w fun r w' => ∃ e : En, r = .returned (.tuple #[enV e, .bool (afM (ch A k) t).isSome]) ∧ e.x = ans (afM (ch A k) t) ∧ Kept w w' := by
  have HK0 : Hid _ := (Same.refl (fun _ => False) w).alloc (.cells #[.string ⟨#[]⟩, .int .i64 0, .int .i64 0, .bool false, .string ⟨#[]⟩] 52 (0, 0))
  have HG : Hid _ := heap_new w (.cells #[.string ⟨#[]⟩, .int .i64 0, .int .i64 0, .bool false, .string ⟨#[]⟩] 52 (0, 0))
  have HS : Hid _ := h
  have HGD : Hid _ := hgd
  clear h hgd
  generalize hq : afM (ch A k) t = o
  have HQ : Hid _ := hq
  clear hq
  go_enter Try.func24, Try.ntmps24
  go_upto_region 1 with fail
  generalize w.alloc (.cells #[.string ⟨#[]⟩, .int .i64 0, .int .i64 0, .bool false, .string ⟨#[]⟩] 52 (0, 0)) = W at HK0 HG ⊢
  generalize hgg : w.heap.size = g at HG ⊢
  have HGW : Hid (w.heap.size = g) := hgg
  clear hgg
  obtain ⟨va, hob, how, -⟩ := RSt.ex (RSt.on HS.out HK0.out)
  obtain ⟨a, cap, rfl, hens, -⟩ := OwnE.ens how
  have y0 : W.cell? ⟨rb, 0, none⟩ = some (.slice a A.length cap) := (cell_of hob 0).trans rfl
  have hrl := lt_of_heap hob
  have HEN : Hid _ := hens
  obtain ⟨n, en⟩ : ∃ n, n = A.length := ⟨_, rfl⟩
  rw [← en] at hn y0
  have EN : Hid _ := en
  clear hob how hens en
  go_wp2_with fail
  go_loopw [8, 9] (fun s8 s9 wr => ∃ (j : Nat) (bi : Int), j ≤ n ∧ s9 = .int .i64 j ∧ s8 = .int .i64 bi ∧ Kept W wr ∧ Bst (fun y => decide (t < y.c)) (fun a b => gt b a) A k j bi) (fun _ s9 _ => n - (intOf s9).toNat)
  case atStart => exact ⟨0, -1, Nat.zero_le _, rfl, rfl, Same.refl _ _, .inl ⟨rfl, fun e he => by simp at he⟩⟩
  case round =>
    obtain ⟨j, bi, hj, rfl, rfl, kk, bst⟩ := hrel
    have KK : Hid _ := kk
    have BST : Hid _ := bst
    have z0 : wr.cell? ⟨rb, 0, none⟩ = some (.slice a n cap) := (kk.cell (p := ⟨rb, 0, none⟩) hrl (fun e => e)).trans y0
    have zl : rb < wr.heap.size := Nat.lt_of_lt_of_le hrl kk.size
    clear kk bst
    by_cases hlt : j < n
    · have c1 : decide ((j : Int) < (n : Int)) = true := by simp only [decide_eq_true_eq]; omega
      have hlt2 : (j : Int) < (n : Int) := by omega
      have hlt3 : (0 : Int) ≤ (j : Int) := by omega
      obtain ⟨e, he⟩ : ∃ e, A[j]? = some e := ⟨_, List.getElem?_eq_getElem (by rw [← show n = A.length from EN.out]; exact hlt)⟩
      obtain ⟨b, off, rfl, hb, q0, q1, q2, q3, q4⟩ := (EnsAt.on HEN.out KK.out) j e he
      have HE : Hid _ := he
      have KW : Hid _ := (Same.refl (fun _ => False) wr).alloc (.cells #[.string e.key, .int .i64 e.x.c, .int .i64 e.x.w, .bool e.x.f, .string e.x.v] 52 (0, 0))
      have GX : Hid _ := heap_new wr (.cells #[.string e.key, .int .i64 e.x.c, .int .i64 e.x.w, .bool e.x.f, .string e.x.v] 52 (0, 0))
      clear he
      go_upto_region 6 with fail
      have HENW : Hid _ := EnsAt.on HEN.out (Same.trans' KK.out KW.out)
      have z0' : (wr.alloc (.cells #[.string e.key, .int .i64 e.x.c, .int .i64 e.x.w, .bool e.x.f, .string e.x.v] 52 (0, 0))).cell? ⟨rb, 0, none⟩ = some (.slice (some ⟨b, off, none⟩) n cap) := (KW.out.cell (p := ⟨rb, 0, none⟩) zl (fun e => e)).trans z0
      have zl' : rb < (wr.alloc (.cells #[.string e.key, .int .i64 e.x.c, .int .i64 e.x.w, .bool e.x.f, .string e.x.v] 52 (0, 0))).heap.size := by rw [World.size_alloc]; omega
      clear z0 zl q0 q1 q2 q3 q4 hb
      generalize wr.alloc (.cells #[.string e.key, .int .i64 e.x.c, .int .i64 e.x.w, .bool e.x.f, .string e.x.v] 52 (0, 0)) = Y at *
      generalize wr.heap.size = gx at *
      obtain ⟨⟨u0, u1, u2, u3, u4⟩, -⟩ := en_obj GX.out
      have ugl := lt_of_heap GX.out
      have KY : Hid (Kept W Y) := Same.trans' KK.out KW.out
      clear KW KK
      by_cases hke : e.key.toList = k.toList
      · have s1 : (e.key.toList == k.toList) = true := by simpa using hke
        have HKE : Hid (isK k e = true) := s1
        clear hke
        by_cases hct : t < e.x.c
        · have t1 : decide (t < e.x.c) = true := decide_eq_true hct
          have HCT : Hid (decide (t < e.x.c) = true) := t1
          rcases BST.out with ⟨hb1, hno⟩ | ⟨i, ei, hb1, hij, hei, hki, hqi, hmx⟩
          · subst hb1
            have HNO : Hid _ := hno
            clear hno hct
            go_quiet (fail)
            go_wp2_with fail
            go_roundw
            case rel => exact ⟨j + 1, (j : Int), by omega, by simp, rfl, Same.drewN KY.out _, Bst.first HNO.out HE.out HKE.out HCT.out (gt_irrefl _)⟩
            case measure => simp only [intOf]; omega
          · subst hb1
            obtain ⟨b2, off2, eb2, hb2, p0, p1, p2, p3, p4⟩ := (show EnsAt Y (some ⟨b, off, none⟩) A from HENW.out) i ei hei
            cases eb2
            have i1 : ¬ ((i : Int) < 0) := by omega
            have i2 : decide ((i : Int) < 0) = false := decide_eq_false i1
            have i3 : (i : Int) < (n : Int) := by omega
            have i4 : decide ((i : Int) < (n : Int)) = true := decide_eq_true i3
            have i5 : (0 : Int) ≤ (i : Int) := by omega
            have HBX : Hid (∀ W', Kept Y W' → Kept Y W' ∧ W'.cell? ⟨rb, 0, none⟩ = some (.slice (some ⟨b, off, none⟩) n cap) ∧ (W'.cell? ⟨gx, 0, none⟩ = some (.string e.key) ∧ W'.cell? ⟨gx, 1, none⟩ = some (.int .i64 e.x.c) ∧ W'.cell? ⟨gx, 2, none⟩ = some (.int .i64 e.x.w) ∧ W'.cell? ⟨gx, 3, none⟩ = some (.bool e.x.f) ∧ W'.cell? ⟨gx, 4, none⟩ = some (.string e.x.v)) ∧ (W'.cell? ⟨b, off + i * 5, none⟩ = some (.string ei.key) ∧ W'.cell? ⟨b, off + i * 5 + 1, none⟩ = some (.int .i64 ei.x.c) ∧ W'.cell? ⟨b, off + i * 5 + 2, none⟩ = some (.int .i64 ei.x.w) ∧ W'.cell? ⟨b, off + i * 5 + 3, none⟩ = some (.bool ei.x.f) ∧ W'.cell? ⟨b, off + i * 5 + 4, none⟩ = some (.string ei.x.v))) := fun W' k' =>
              ⟨k', (k'.cell (p := ⟨rb, 0, none⟩) zl' (fun e => e)).trans z0', ⟨(k'.cell (p := ⟨gx, 0, none⟩) ugl (fun e => e)).trans u0, (k'.cell (p := ⟨gx, 1, none⟩) ugl (fun e => e)).trans u1, (k'.cell (p := ⟨gx, 2, none⟩) ugl (fun e => e)).trans u2, (k'.cell (p := ⟨gx, 3, none⟩) ugl (fun e => e)).trans u3, (k'.cell (p := ⟨gx, 4, none⟩) ugl (fun e => e)).trans u4⟩, ⟨(k'.cell (p := ⟨b, _, none⟩) hb2 (fun e => e)).trans p0, (k'.cell (p := ⟨b, _, none⟩) hb2 (fun e => e)).trans p1, (k'.cell (p := ⟨b, _, none⟩) hb2 (fun e => e)).trans p2, (k'.cell (p := ⟨b, _, none⟩) hb2 (fun e => e)).trans p3, (k'.cell (p := ⟨b, _, none⟩) hb2 (fun e => e)).trans p4⟩⟩
            have HA1 : Hid (∀ W', Calls Try.prog 35 #[.agg #[.string ei.key, .int .i64 ei.x.c, .int .i64 ei.x.w, .bool ei.x.f, .string ei.x.v], .agg #[.string e.key, .int .i64 e.x.c, .int .i64 e.x.w, .bool e.x.f, .string e.x.v]] W' fun r w' => r = .returned (.bool (gt ei.x e.x)) ∧ Kept W' w') := fun W' => above_any ei e W'
            have HIJ : Hid _ := hij
            have HEI : Hid _ := hei
            have HKI : Hid _ := hki
            have HQI : Hid _ := hqi
            have HMX : Hid _ := hmx
            generalize hgt : gt ei.x e.x = gg at HA1
            have HGT : Hid (gt ei.x e.x = gg) := hgt
            clear hgt hct hij hei hki hqi hmx
            go_cut [51] (fun s51 wx => s51 = .bool gg ∧ Kept Y wx)
            case first =>
              go_region_held3 (fun W' => Kept Y W' ∧ W'.cell? ⟨rb, 0, none⟩ = some (.slice (some ⟨b, off, none⟩) n cap) ∧ (W'.cell? ⟨gx, 0, none⟩ = some (.string e.key) ∧ W'.cell? ⟨gx, 1, none⟩ = some (.int .i64 e.x.c) ∧ W'.cell? ⟨gx, 2, none⟩ = some (.int .i64 e.x.w) ∧ W'.cell? ⟨gx, 3, none⟩ = some (.bool e.x.f) ∧ W'.cell? ⟨gx, 4, none⟩ = some (.string e.x.v)) ∧ (W'.cell? ⟨b, off + i * 5, none⟩ = some (.string ei.key) ∧ W'.cell? ⟨b, off + i * 5 + 1, none⟩ = some (.int .i64 ei.x.c) ∧ W'.cell? ⟨b, off + i * 5 + 2, none⟩ = some (.int .i64 ei.x.w) ∧ W'.cell? ⟨b, off + i * 5 + 3, none⟩ = some (.bool ei.x.f) ∧ W'.cell? ⟨b, off + i * 5 + 4, none⟩ = some (.string ei.x.v)))
                (exact HBX.out _ (by (repeat (first | exact Same.refl _ _ | apply Same.alloc | apply Same.drew | apply Same.drewN | refine Same.trans' ?_ kq)); done))
                ((go_at_call 35; refine Calls.mono (HA1.out _) ?_; rintro r w2 ⟨rfl, kq⟩))
              all_goals
                go_wp2_with fail
                go_meet
                exact ⟨rfl, (by (repeat (first | exact Same.refl _ _ | apply Same.alloc | apply Same.drew | apply Same.drewN | refine Same.trans' ?_ kq)); done)⟩
            case rest =>
              obtain ⟨rfl, k2⟩ := hcut
              have K2 : Hid _ := k2
              clear k2
              cases gg
              · go_wp2_with fail
                go_roundw
                case rel => exact ⟨j + 1, (i : Int), by omega, by simp, rfl, Same.trans' KY.out K2.out, Bst.less HIJ.out HEI.out HKI.out HQI.out HMX.out HE.out HGT.out⟩
                case measure => simp only [intOf]; omega
              · go_wp2_with fail
                go_roundw
                case rel => exact ⟨j + 1, (j : Int), by omega, by simp, rfl, Same.trans' KY.out K2.out, Bst.more (q := fun y => decide (t < y.c)) (bet := fun a b => gt b a) (fun _ _ _ h1 h2 => gt_trans h2 h1) (fun _ => gt_irrefl _) HMX.out HE.out HKE.out HCT.out HGT.out⟩
                case measure => simp only [intOf]; omega
        · have t1 : decide (t < e.x.c) = false := decide_eq_false hct
          have HCT : Hid (decide (t < e.x.c) = false) := t1
          go_quiet (fail)
          go_wp2_with fail
          go_roundw
          case rel => exact ⟨j + 1, bi, by omega, by simp, rfl, Same.drewN KY.out _, Bst.no BST.out HE.out (.inr HCT.out)⟩
          case measure => simp only [intOf]; omega
      · have s1 : (e.key.toList == k.toList) = false := by simpa using hke
        have HKE : Hid (isK k e = false) := s1
        clear hke
        go_quiet (fail)
        go_wp2_with fail
        go_roundw
        case rel => exact ⟨j + 1, bi, by omega, by simp, rfl, Same.drewN KY.out _, Bst.no BST.out HE.out (.inl HKE.out)⟩
        case measure => simp only [intOf]; omega
    · have c1 : decide ((j : Int) < (n : Int)) = false := by simp only [decide_eq_false_iff_not]; omega
      obtain rfl : j = n := by omega
      have hgo := (KK.out.block g (lt_of_heap HG.out) (fun e => e)).trans HG.out
      obtain ⟨⟨u0, u1, u2, u3, u4⟩, f0, f1, f2, f3, f4⟩ := en_obj hgo
      have HGO : Hid _ := hgo
      have HTK : Hid (A.take j = A) := by
        show A.take j = A
        rw [show j = A.length from EN.out]
        exact List.take_length
      clear hgo
      have KF : Hid (Kept w wr) := Same.trans' HK0.out KK.out
      rcases BST.out with ⟨hb1, hno⟩ | ⟨i, ei, hb1, hij, hei, hki, hqi, hmx⟩
      · subst hb1
        have EO : Hid (o = none) := (show afM (ch A k) t = o from HQ.out).symm.trans (bst_af_none (by rw [show A.take j = A from HTK.out] at hno; exact hno))
        clear hno
        go_wp2_with fail
        refine bodyPost_ret (results_ct (a := 6) (t := 52) (u := 7) rfl rfl (loadVar_en (e := e0) (put5 HGO.out _ _ _ _ _))) rfl ?_
        exact ⟨e0, by rw [show o = none from EO.out]; rfl, by rw [show o = none from EO.out]; rfl, put5_same KF.out (.inl (by rw [show w.heap.size = g from HGW.out]; exact Nat.le_refl _)) _ _ _ _ _⟩
      · subst hb1
        have EO : Hid (o = some ei.x) := (show afM (ch A k) t = o from HQ.out).symm.trans (bst_af HGD.out hei hki hqi (by rw [show A.take j = A from HTK.out] at hmx; exact hmx))
        obtain ⟨b, off, rfl, hb, q0, q1, q2, q3, q4⟩ := (EnsAt.on HEN.out KK.out) i ei hei
        have i1 : ¬ ((i : Int) < 0) := by omega
        have i2 : decide ((i : Int) < 0) = false := decide_eq_false i1
        have i3 : (i : Int) < (j : Int) := by omega
        have i4 : decide ((i : Int) < (j : Int)) = true := decide_eq_true i3
        clear hij hei hki hqi hmx
        go_wp2_with fail
        refine bodyPost_ret (results_ct (a := 6) (t := 52) (u := 7) rfl rfl (loadVar_en (e := ei) (put5 HGO.out _ _ _ _ _))) rfl ?_
        exact ⟨ei, by rw [show o = some ei.x from EO.out]; rfl, by rw [show o = some ei.x from EO.out]; rfl, put5_same KF.out (.inl (by rw [show w.heap.size = g from HGW.out]; exact Nat.le_refl _)) _ _ _ _ _⟩
end Go.Proofs.Ytnjpbagfbklofaa
