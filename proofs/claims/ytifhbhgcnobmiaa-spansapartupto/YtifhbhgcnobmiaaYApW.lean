/- What is proved: the law on two forests answers true for every list of small length, every keys and bounds; both lie in memory, apart of one another. -/
import Derived.Test.YtifhbhgcnobmiaaYOvW
namespace Go.Proofs.Ytifhbhgcnobmiaa
open Go.RowKit

theorem neq_one (f t i : Int) (w : World) : (binOp .neq 31 (.agg #[.int .i64 f, .int .i64 t, .int .i64 i]) (.agg #[.int .i64 f, .int .i64 t, .int .i64 i])).run Try.prog w = .ok (.bool false) w := by
  have h := neq_sp ⟨f, t, i⟩ ⟨f, t, i⟩ w
  simpa using h
/-- Two forests, apart of one another. -/
structure ApS (w wr : World) (sb ob : Nat) (A B : List Ks) (F G : Nat → Prop) (m n : Nat) : Prop where
  a : Fo F wr sb A m
  b : Fo G wr ob B n
  dis : ∀ x, F x → ¬ G x
  la : ∀ x, F x → w.heap.size ≤ x
  lb : ∀ x, G x → w.heap.size ≤ x
  kept : Kept w wr
theorem ApS.swap {w wr : World} {sb ob : Nat} {A B : List Ks} {F G : Nat → Prop} {m n : Nat} (h : ApS w wr sb ob A B F G m n) : ApS w wr ob sb B A G F n m := ⟨h.b, h.a, fun x hx hy => h.dis x hy hx, h.lb, h.la, h.kept⟩
theorem ApS.on {w wr w' : World} {sb ob : Nat} {A B : List Ks} {F G : Nat → Prop} {m n : Nat} (h : ApS w wr sb ob A B F G m n) (k : Kept wr w') : ApS w w' sb ob A B F G m n := ⟨h.a.on k, h.b.on k, h.dis, h.la, h.lb, Same.trans' h.kept k⟩
theorem ApS.step {w wr w' : World} {sb ob : Nat} {A A' B : List Ks} {F G : Nat → Prop} {m m' n : Nat} (h : ApS w wr sb ob A B F G m n) (hi : StpP F wr sb A' m' w') : ∃ F', ApS w w' sb ob A' B F' G m' n := by
  obtain ⟨F', q1, q2, q3⟩ := hi
  refine ⟨F', q1, h.b.off q3 (fun x hx hf => h.dis x hf hx), fun x hx hg => ?_, fun x hx => ?_, h.lb, h.kept.trans q3 (fun i hi hf => ?_)⟩
  · rcases q2 x hx with h1 | h1
    · exact h.dis x h1 hg
    · have := h.b.lt x hg; omega
  · rcases q2 x hx with h1 | h1
    · exact h.la x h1
    · exact Nat.le_trans h.kept.size h1
  · have := h.la i hf; omega
/-- The same while a list of spans outside them is read. -/
structure ApZ (w wr : World) (sb ob : Nat) (A B : List Ks) (F G : Nat → Prop) (m n : Nat) (a : Option Addr) (xs : List Sp) : Prop where
  s : ApS w wr sb ob A B F G m n
  at' : SpsAt wr a xs
  an : ∀ b off s, a = some ⟨b, off, s⟩ → ¬ F b ∧ b < wr.heap.size
theorem ApZ.on {w wr w' : World} {sb ob : Nat} {A B : List Ks} {F G : Nat → Prop} {m n : Nat} {a : Option Addr} {xs : List Sp} (h : ApZ w wr sb ob A B F G m n a xs) (k : Kept wr w') : ApZ w w' sb ob A B F G m n a xs :=
  ⟨h.s.on k, h.at'.on k, fun b off s e => ⟨(h.an b off s e).1, Nat.lt_of_lt_of_le (h.an b off s e).2 k.size⟩⟩
theorem ApZ.step {w wr w' : World} {sb ob : Nat} {A A' B : List Ks} {F G : Nat → Prop} {m m' n : Nat} {a : Option Addr} {xs : List Sp} (h : ApZ w wr sb ob A B F G m n a xs) (hi : StpP F wr sb A' m' w') : ∃ F', ApZ w w' sb ob A' B F' G m' n a xs := by
  obtain ⟨F', q1, q2, q3⟩ := hi
  refine ⟨F', ⟨q1, h.s.b.off q3 (fun x hx hf => h.s.dis x hf hx), fun x hx hg => ?_, fun x hx => ?_, h.s.lb, h.s.kept.trans q3 (fun i hi hf => ?_)⟩, fun i x hx => ?_, fun b off s e => ⟨fun hf => ?_, Nat.lt_of_lt_of_le (h.an b off s e).2 q3.size⟩⟩
  · rcases q2 x hx with h1 | h1
    · exact h.s.dis x h1 hg
    · have := h.s.b.lt x hg; omega
  · rcases q2 x hx with h1 | h1
    · exact h.s.la x h1
    · exact Nat.le_trans h.s.kept.size h1
  · have := h.s.la i hf; omega
  · obtain ⟨b, off, e, hb, c0, c1, c2⟩ := h.at' i x hx
    have hk : ∀ o, w'.cell? ⟨b, o, none⟩ = wr.cell? ⟨b, o, none⟩ := fun o => q3.cell (p := ⟨b, o, none⟩) hb (h.an b off none e).1
    exact ⟨b, off, e, Nat.lt_of_lt_of_le hb q3.size, (hk _).trans c0, (hk _).trans c1, (hk _).trans c2⟩
  · rcases q2 b hf with h1 | h1
    · exact (h.an b off s e).1 h1
    · have := (h.an b off s e).2; omega
theorem insI_mem {A : List Ks} (hw : Wks A) {k : ByteArray} (hk : rightK k = true) (x y : Sp) : y ∈ kf (insI A k x) k ↔ y ∈ kf A k ∨ (rightS x = true ∧ y = x) := by
  by_cases h1 : rightS x = true
  · by_cases h2 : x ∈ kf A k
    · rw [(codeI_two hk h1 h2).2]
      exact ⟨.inl, fun h => h.elim id fun h9 => h9.2 ▸ h2⟩
    · rw [(codeI_ok hk h1 h2).2, rput_same hw rfl, putL_mem]
      exact ⟨fun h => h.elim (fun e => .inr ⟨h1, e⟩) .inl, fun h => h.elim .inr fun e => .inl e.2⟩
  · rw [(codeI_bad hk (by simpa using h1)).2]
    exact ⟨.inl, fun h => h.elim id fun h9 => (h1 h9.1).elim⟩
theorem insI_other {A : List Ks} {k o : ByteArray} (h : o.toList ≠ k.toList) (x : Sp) : kf (insI A o x) k = kf A k := by
  unfold insI
  split
  · exact rput_other h
  · rfl
/-- What the two forests hold of the key when j spans of the list were put, from both ends. -/
def Ends (l : List Sp) (k : ByteArray) (A B : List Ks) (j : Nat) : Prop :=
  (∀ y, y ∈ kf A k ↔ rightS y = true ∧ y ∈ l.take j) ∧ ∀ y, y ∈ kf B k ↔ rightS y = true ∧ y ∈ l.drop (l.length - j)
theorem Ends.start (l : List Sp) (k : ByteArray) : Ends l k [] [] 0 := ⟨fun y => by simp [kf], fun y => by simp [kf]⟩
theorem Ends.more {l : List Sp} {k o : ByteArray} {A B : List Ks} {j j' : Nat} {x x' z : Sp} (h : Ends l k A B j) (hA : Wks A) (hB : Wks B) (hk : rightK k = true) (ho : o.toList ≠ k.toList) (hj : j + j' + 1 = l.length) (hx : l[j]? = some x) (hx' : l[j']? = some x') :
    Ends l k (insI (insI A k x) o z) (insI B k x') (j + 1) := by
  refine ⟨fun y => ?_, fun y => ?_⟩
  · rw [insI_other ho, insI_mem hA hk, h.1, List.take_add_one, hx]
    simp only [Option.toList_some, List.mem_append, List.mem_singleton]
    exact ⟨fun h9 => h9.elim (fun e => ⟨e.1, .inl e.2⟩) fun e => ⟨e.2 ▸ e.1, .inr e.2⟩, fun ⟨e1, e2⟩ => e2.elim (fun e => .inl ⟨e1, e⟩) fun e => .inr ⟨e ▸ e1, e⟩⟩
  · obtain ⟨i2, e2⟩ := List.getElem?_eq_some_iff.1 hx'
    rw [insI_mem hB hk, h.2, show l.length - j = j' + 1 by omega, show l.length - (j + 1) = j' by omega, List.drop_eq_getElem_cons i2, e2]
    simp only [List.mem_cons]
    exact ⟨fun h9 => h9.elim (fun e => ⟨e.1, .inr e.2⟩) fun e => ⟨e.2 ▸ e.1, .inl e.2⟩, fun ⟨e1, e2⟩ => e2.elim (fun e => .inr ⟨e ▸ e1, e⟩) fun e => .inl ⟨e1, e⟩⟩
theorem Ends.same {l : List Sp} {k : ByteArray} {A B : List Ks} (h : Ends l k A B l.length) (hA : Srt (kf A k)) (hB : Srt (kf B k)) : kf A k = kf B k := by
  refine Srt.unique hA hB fun y => ?_
  rw [h.1, h.2]
  simp
/-- The spans from place z on are all that is left of those that overlap. -/
theorem left_more {A : List Ks} {k : ByteArray} {xs : List Sp} {z : Nat} {x : Sp} {K : List Sp} (hs : Srt xs) (hx : xs[z]? = some x) (hm : x ∈ K) (h : ∀ y, y ∈ kf A k ↔ y ∈ K ∧ y ∉ xs.take z) : x ∈ kf A k ∧ ∀ y, y ∈ kf (rdel A k x) k ↔ y ∈ K ∧ y ∉ xs.take (z + 1) := by
  have hn : x ∉ xs.take z := fun h9 => by
    obtain ⟨i, hi, e⟩ := List.mem_iff_getElem.1 h9
    obtain ⟨i2, e2⟩ := List.getElem?_eq_some_iff.1 hx
    rw [List.length_take] at hi
    rw [List.getElem_take] at e
    have := List.pairwise_iff_getElem.1 hs i z (by omega) i2 (by omega)
    rw [e, e2, sl_irrefl] at this
    cases this
  refine ⟨(h x).2 ⟨hm, hn⟩, fun y => ?_⟩
  rw [rdel_same, List.mem_filter, h, List.take_add_one, hx]
  simp only [decide_eq_true_eq, Option.toList_some, List.mem_append, List.mem_singleton, not_or, ne_eq, and_assoc]
set_option maxRecDepth 100000 in
set_option maxHeartbeats 6400000 in
theorem apart_law (w : World) (a : Option Addr) (cap : Nat) (l : List Sp) (k o : ByteArray) (fm tl : Int) (hl : SpsAt w a l) (hll : l.length ≤ 1048576) (hk : k.size ≤ maxLen) (ho : o.size ≤ maxLen) :
    Calls Try.prog 7 #[.slice a l.length cap, .string k, .string o, .int .i64 fm, .int .i64 tl] w fun r w' => r = .returned (.bool true) ∧ Kept w w' := by
  have q := ptr_eql
  have HAN : Hid (∀ W, _) := anchor14
  have HNW : Hid (∀ W, _) := new14
  have HL : Hid _ := hl
  have HKL : Hid _ := hk
  have HOL : Hid _ := ho
  have hks : (k.size : Int) ≤ 9223372036854775807 := by unfold maxLen at hk; omega
  obtain ⟨L, eL⟩ : ∃ L, L = l.length := ⟨_, rfl⟩
  rw [← eL] at hll ⊢
  have EL : Hid _ := eL
  clear hl eL hk ho
  by_cases s1 : (k.toList == o.toList) = true
  · go_enter Try.func7, Try.ntmps7
    go_wp2_with fail
    refine Calls.mono (HAN.out w) ?_
    rintro r w1 ⟨rfl, k1⟩
    have K1 : Hid _ := k1
    clear k1
    go_wp2_with fail
    go_ret
    exact ⟨rfl, K1.out⟩
  · have s2 : (k.toList == o.toList) = false := by simpa using s1
    have HNE : Hid (o.toList ≠ k.toList) := fun e => by rw [e] at s2; simp at s2
    clear s1
    by_cases hr : 0 < k.size ∧ k.size ≤ 8
    · have d1 : ¬ ((k.size : Int) < 1) := by omega
      have d2 : ¬ ((8 : Int) < (k.size : Int)) := by omega
      have d3 : ¬ k = ByteArray.empty := fun e9 => by rw [e9] at hr; simp at hr
      have d4 : ¬ (k.size = 0) := by omega
      have HRK : Hid (rightK k = true) := by
        have h9 : rightK k = true := by simpa [rightK] using hr
        exact h9
      clear hr
      go_enter Try.func7, Try.ntmps7
      go_wp2_with fail
      refine Calls.mono (HAN.out w) ?_
      rintro r w1 ⟨rfl, k1⟩
      have K1 : Hid _ := k1
      clear k1 HAN
      go_wp2_with fail
      refine Calls.mono (HNW.out w1) ?_
      rintro r w2 ⟨sb, F, rfl, f2, hF, k2⟩
      have HF2 : Hid (Fo F w2 sb [] 0) := f2
      have HFF : Hid _ := hF
      have K2 : Hid _ := Same.trans' K1.out k2
      clear f2 hF k2
      go_wp2_with fail
      refine Calls.mono (HNW.out w2) ?_
      rintro r w3 ⟨ob, G, rfl, f3, hG, k3⟩
      have HS0 : Hid (ApS w w3 sb ob [] [] F G 0 0) := ⟨HF2.out.on k3, f3, fun x hx hy => by have := HF2.out.lt x hx; have := hG x hy; omega, fun x hx => Nat.le_trans K1.out.size (HFF.out x hx), fun x hx => Nat.le_trans K2.out.size (hG x hx), Same.trans' K2.out k3⟩
      clear f3 hG k3 HF2 HFF K2 K1 HNW
      go_wp2_with fail
      clear q d1 d2 d3 d4 s2
      go_loopw [46] (fun iv wr => ∃ (j : Nat) (A B : List Ks) (F G : Nat → Prop), j ≤ L ∧ iv = .int .i64 j ∧ ApS w wr sb ob A B F G (2 * j) j ∧ Ends l k A B j) (fun iv _ => L - (intOf iv).toNat)
      case atStart => exact ⟨0, [], [], F, G, Nat.zero_le _, rfl, HS0.out, Ends.start _ _⟩
      case round =>
        obtain ⟨j, A, B, F, G, hj, rfl, hS, hE⟩ := hrel
        have HSS : Hid (ApS w wr sb ob A B F G (2 * j) j) := hS
        have HEE : Hid (Ends l k A B j) := hE
        clear hS hE HS0
        by_cases hlt : j < L
        · have c1 : decide ((j : Int) < (L : Int)) = true := by simp only [decide_eq_true_eq]; omega
          have c2 : (j : Int) < (L : Int) := by omega
          obtain ⟨x, hx⟩ : ∃ x, l[j]? = some x := ⟨_, List.getElem?_eq_getElem (by rw [← show L = _ from EL.out]; exact hlt)⟩
          obtain ⟨j', hj'⟩ : ∃ j', j + j' + 1 = L := ⟨L - 1 - j, by omega⟩
          obtain ⟨x', hx'⟩ : ∃ x, l[j']? = some x := ⟨_, List.getElem?_eq_getElem (by rw [← show L = _ from EL.out]; omega)⟩
          obtain ⟨b, off, rfl, hbl, m0, m1, m2⟩ := (SpsAt.on HL.out HSS.out.kept) j x hx
          have c3 : (L : Int) - 1 - (j : Int) = (j' : Int) := by omega
          have c4 : (j' : Int) < (L : Int) := by omega
          have c5 : ((j : Int).tmod 4096) = ((j % 4096 : Nat) : Int) := rfl
          have HX2 : Hid (∀ W', Kept w W' → W'.cell? ⟨b, off + j' * 3, none⟩ = some (.int .i64 x'.f) ∧ W'.cell? ⟨b, off + j' * 3 + 1, none⟩ = some (.int .i64 x'.t) ∧ W'.cell? ⟨b, off + j' * 3 + 2, none⟩ = some (.int .i64 x'.i)) := fun W' k9 => by
            obtain ⟨b', off', e, hb', n0, n1, n2⟩ := (SpsAt.on HL.out k9) j' x' hx'
            cases e
            exact ⟨n0, n1, n2⟩
          have HMO : Hid (∀ z, Ends l k (insI (insI A k x) o z) (insI B k x') (j + 1)) := fun z => HEE.out.more HSS.out.a.wks.1 HSS.out.b.wks.1 HRK.out HNE.out (by rw [← show L = _ from EL.out]; exact hj') hx hx'
          have HSA : Hid _ := HSS.out.on ((Same.refl _ wr).alloc (spO x))
          have HIN : Hid _ := insert14 HSA.out.a k HKL.out x (by omega)
          have HBX : Hid (∀ A' bd' w', StpP F (wr.alloc (spO x)) sb A' bd' w' → w'.heap[wr.heap.size]? = some (spO x)) := fun A' bd' w' h9 => by
            obtain ⟨F', q1, q2, q3⟩ := h9
            exact (q3.block wr.heap.size (by simp) fun e => by have := HSS.out.a.lt _ e; omega).trans (heap_new wr (spO x))
          generalize j % 4096 = jm at *
          obtain ⟨xf, xt, xi⟩ := x
          obtain ⟨yf, yt, yi⟩ := x'
          simp only at m0 m1 m2 HX2
          clear hx hx' hbl HSS HEE
          go_wp2_with fail
          refine Calls.mono HIN.out ?_
          rintro r w4 ⟨rfl, h4⟩
          obtain ⟨x0, x1, x2⟩ := sp_cells (HBX.out _ _ _ h4)
          simp only at x0 x1 x2
          obtain ⟨F4, hs4⟩ := HSA.out.step h4
          have HS4 : Hid _ := hs4
          have HIN2 : Hid _ := insert14 hs4.a o HOL.out ⟨xf, xt, (jm : Int)⟩ (by omega)
          clear h4 hs4 HSA HIN HBX m0 m1 m2
          go_wp2_with fail
          refine Calls.mono HIN2.out ?_
          rintro r w5 ⟨rfl, h5⟩
          obtain ⟨F5, hs5⟩ := HS4.out.step h5
          have HS5 : Hid _ := hs5
          have HIN3 : Hid _ := insert14 hs5.b k HKL.out ⟨yf, yt, yi⟩ (by omega)
          obtain ⟨n0, n1, n2⟩ := HX2.out w5 hs5.kept
          clear h5 hs5 HS4 HIN2 x0 x1 x2 HX2
          go_wp2_with fail
          refine Calls.mono HIN3.out ?_
          rintro r w6 ⟨rfl, h6⟩
          obtain ⟨G6, hs6⟩ := HS5.out.swap.step h6
          have HS6 : Hid _ := hs6.swap
          clear h6 hs6 HS5 HIN3 n0 n1 n2
          go_wp2_with fail
          go_roundw
          case rel => exact ⟨j + 1, _, _, F5, G6, by omega, by simp, HS6.out, HMO.out _⟩
          case measure => simp only [intOf]; omega
        · have c1 : decide ((j : Int) < (L : Int)) = false := by simp only [decide_eq_false_iff_not]; omega
          obtain rfl : j = L := by omega
          have hsame : kf A k = kf B k := Ends.same (by rw [← show j = _ from EL.out]; exact HEE.out) (HSS.out.a.wks.2 k) (HSS.out.b.wks.2 k)
          have ovEq : ovK B k fm tl = ovK A k fm tl := by unfold ovK; rw [hsame]
          have HO1 : Hid _ := overlap14 HSS.out.a k HKL.out fm tl (by omega)
          have HO2 : Hid (∀ W', Kept wr W' → _) := fun W' k9 => overlap14 (HSS.out.b.on k9) k HKL.out fm tl (by omega)
          rw [ovEq] at HO2
          have HSR : Hid (Srt (ovK A k fm tl)) := (HSS.out.a.wks.2 k).sublist List.filter_sublist
          have HMM : Hid (∀ y ∈ ovK A k fm tl, y ∈ kf A k) := fun y hy => (List.mem_filter.1 hy).1
          have HEND : Hid (∀ A', (∀ y, y ∈ kf A' k ↔ y ∈ kf A k ∧ y ∉ (ovK A k fm tl).take (ovK A k fm tl).length) → ovK A' k fm tl = []) := fun A' h9 => by
            refine List.eq_nil_iff_forall_not_mem.2 fun y hy => ?_
            obtain ⟨h1, h2⟩ := List.mem_filter.1 hy
            obtain ⟨h3, h4⟩ := (h9 y).1 h1
            rw [List.take_length] at h4
            exact h4 (List.mem_filter.2 ⟨h3, h2⟩)
          have HNL : Hid ((ovK A k fm tl).length ≤ 2 * j) := by
            obtain ⟨nb, cp, fr, mb, e, N, D, R, FL, h1, h2, h3, h4, h5, h6⟩ := HSS.out.a
            have h9 : (ovK A k fm tl).length ≤ 2 * j := Nat.le_trans (List.length_filter_le _ _) (Nat.le_trans (kf_length A k) h6)
            exact h9
          clear hsame ovEq HEE
          generalize ovK A k fm tl = xs at *
          obtain ⟨n, en⟩ : ∃ n, n = xs.length := ⟨_, rfl⟩
          have EN : Hid _ := en
          have hn9 : (n : Int) ≤ 2097152 := by have h9 : xs.length ≤ 2 * j := HNL.out; omega
          clear en
          go_wp2_with fail
          refine Calls.mono HO1.out ?_
          rintro r w4 ⟨v, rfl, o4, k4⟩
          obtain ⟨pa, pc, rfl, sp, hpa⟩ := OwnSp.at o4
          have HO2' : Hid _ := HO2.out w4 k4
          have HZ4 : Hid (ApZ w w4 sb ob A B F G (2 * j) j pa xs) := ⟨HSS.out.on k4, sp, fun b off s e => ⟨fun hf => by have h1 := (hpa b off s e).1; have := HSS.out.a.lt b hf; omega, (hpa b off s e).2⟩⟩
          rw [← show n = _ from EN.out]
          clear o4 k4 sp hpa HO1 HO2 HSS
          go_wp2_with fail
          refine Calls.mono HO2'.out ?_
          rintro r w5 ⟨v, rfl, o5, k5⟩
          obtain ⟨qa, qc, rfl, sq, -⟩ := OwnSp.at o5
          have HZ5 : Hid (ApZ w w5 sb ob A B F G (2 * j) j pa xs) := HZ4.out.on k5
          have SQ : Hid (SpsAt w5 qa xs) := sq
          rw [← show n = _ from EN.out]
          have nn : ((n : Int) != (n : Int)) = false := by simp
          clear o5 k5 sq HO2' HZ4
          go_wp2_with fail
          go_loopw [94] (fun iv wz => ∃ z : Nat, z ≤ n ∧ iv = .int .i64 z ∧ Kept w5 wz) (fun iv _ => n - (intOf iv).toNat)
          case atStart => exact ⟨0, Nat.zero_le _, rfl, Same.refl _ _⟩
          case round =>
            obtain ⟨z, hz, rfl, kz⟩ := hrel
            have KZ : Hid (Kept w5 wr) := kz
            clear kz
            by_cases hlt2 : z < n
            · have d1 : decide ((z : Int) < (n : Int)) = true := by simp only [decide_eq_true_eq]; omega
              have d2 : (z : Int) < (n : Int) := by omega
              obtain ⟨x, hx⟩ : ∃ x, xs[z]? = some x := ⟨_, List.getElem?_eq_getElem (by rw [← show n = _ from EN.out]; exact hlt2)⟩
              obtain ⟨b1, o1, rfl, hb1, m0, m1, m2⟩ := (SpsAt.on HZ5.out.at' KZ.out) z x hx
              have K9 : Hid _ := (Same.refl (fun _ => False) wr).alloc (spO x)
              obtain ⟨b2, o2, rfl, hb2, n0, n1, n2⟩ := (SpsAt.on SQ.out (Same.trans' KZ.out K9.out)) z x hx
              have GX : Hid _ := heap_new wr (spO x)
              obtain ⟨xf, xt, xi⟩ := x
              simp only at m0 m1 m2 n0 n1 n2
              have nq := neq_one xf xt xi
              clear hx hb1 hb2
              go_upto_region 21 with fail
              generalize wr.alloc (spO ⟨xf, xt, xi⟩) = Y at *
              generalize wr.heap.size = gx at GX ⊢
              obtain ⟨x0, x1, x2⟩ := sp_cells GX.out
              simp only at x0 x1 x2
              have hgx := lt_of_heap GX.out
              clear m0 m1 m2
              go_quiet (fail)
              go_wp2_with fail
              go_roundw
              case rel => exact ⟨z + 1, by omega, by simp, Same.drewN (Same.trans' KZ.out K9.out) _⟩
              case measure => simp only [intOf]; omega
            · have d1 : decide ((z : Int) < (n : Int)) = false := by simp only [decide_eq_false_iff_not]; omega
              have HZ6 : Hid (ApZ w wr sb ob A B F G (2 * j) j pa xs) := HZ5.out.on KZ.out
              clear KZ HZ5 SQ
              go_wp2_with fail
              go_loopw [108] (fun iv wz => ∃ (y : Nat) (A' : List Ks) (F' : Nat → Prop), y ≤ n ∧ iv = .int .i64 y ∧ ApZ w wz sb ob A' B F' G (2 * j) j pa xs ∧ ∀ u, u ∈ kf A' k ↔ u ∈ kf A k ∧ u ∉ xs.take y) (fun iv _ => n - (intOf iv).toNat)
              case atStart => exact ⟨0, A, F, Nat.zero_le _, rfl, HZ6.out, fun u => by simp⟩
              case round =>
                obtain ⟨y, A', F', hy, rfl, hZ, hU⟩ := hrel
                have HZ7 : Hid (ApZ w wr sb ob A' B F' G (2 * j) j pa xs) := hZ
                have HU : Hid (∀ u, u ∈ kf A' k ↔ u ∈ kf A k ∧ u ∉ xs.take y) := hU
                clear hZ hU HZ6
                by_cases hlt3 : y < n
                · have e1 : decide ((y : Int) < (n : Int)) = true := by simp only [decide_eq_true_eq]; omega
                  have e2 : (y : Int) < (n : Int) := by omega
                  obtain ⟨x, hx⟩ : ∃ x, xs[y]? = some x := ⟨_, List.getElem?_eq_getElem (by rw [← show n = _ from EN.out]; exact hlt3)⟩
                  obtain ⟨b1, o1, rfl, hb1, m0, m1, m2⟩ := HZ7.out.at' y x hx
                  have HZ8 : Hid _ := HZ7.out.on ((Same.refl _ wr).alloc (spO x))
                  have HLM : Hid _ := left_more HSR.out hx (HMM.out x (List.mem_of_getElem? hx)) HU.out
                  have HRM : Hid _ := remove14 HZ8.out.s.a k HKL.out x (by omega)
                  obtain ⟨xf, xt, xi⟩ := x
                  simp only at m0 m1 m2
                  clear hx hb1 HU HZ7
                  go_wp2_with fail
                  refine Calls.mono HRM.out ?_
                  rintro r w8 ⟨⟨bb, rfl, hb9⟩, h9⟩
                  obtain rfl : bb = true := hb9.2 HLM.out.1
                  obtain ⟨F9, z9⟩ := HZ8.out.step h9
                  have Z9 : Hid _ := z9
                  clear h9 z9 hb9 HRM HZ8 m0 m1 m2
                  go_wp2_with fail
                  go_roundw
                  case rel => exact ⟨y + 1, _, F9, by omega, by simp, Z9.out, HLM.out.2⟩
                  case measure => simp only [intOf]; omega
                · have e1 : decide ((y : Int) < (n : Int)) = false := by simp only [decide_eq_false_iff_not]; omega
                  have ey : y = xs.length := by have h9 : n = xs.length := EN.out; omega
                  have eov := HEND.out A' (by rw [← ey]; exact HU.out)
                  have HO3 : Hid _ := overlap14 HZ7.out.s.a k HKL.out fm tl (by omega)
                  rw [eov] at HO3
                  clear ey eov HU
                  go_wp2_with fail
                  refine Calls.mono HO3.out ?_
                  rintro r w9 ⟨v, rfl, o9, k9⟩
                  obtain ⟨va, vc, rfl, -, -⟩ := OwnSp.at o9
                  have K9 : Hid _ := Same.trans' HZ7.out.s.kept k9
                  clear o9 k9 HO3
                  simp only [List.length_nil]
                  go_wp2_with fail
                  go_ret
                  exact ⟨rfl, K9.out⟩
    · have d1 : ((k.size : Int) < 1 ∧ k = ByteArray.empty) ∨ (¬ ((k.size : Int) < 1) ∧ ¬ k = ByteArray.empty ∧ (8 : Int) < (k.size : Int)) := by
        by_cases h9 : k.size = 0
        · exact .inl ⟨by omega, ByteArray.size_eq_zero_iff.1 h9⟩
        · exact .inr ⟨by omega, fun e9 => h9 (by rw [e9]; rfl), by omega⟩
      clear hr
      go_enter Try.func7, Try.ntmps7
      go_wp2_with fail
      refine Calls.mono (HAN.out w) ?_
      rintro r w1 ⟨rfl, k1⟩
      have K1 : Hid _ := k1
      clear k1
      rcases d1 with ⟨h1, h2⟩ | ⟨h1, h2, h3⟩
      all_goals
        go_wp2_with fail
        all_goals
          go_ret
          exact ⟨rfl, K1.out⟩
end Go.Proofs.Ytifhbhgcnobmiaa
