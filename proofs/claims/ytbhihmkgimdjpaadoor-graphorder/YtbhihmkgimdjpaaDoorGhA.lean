/- What is proved: New, node, Add and Reach of a graph; the graph lies in memory. -/
import Derived.Test.YtbhihmkgimdjpaaDoorGhE
import Derived.Test.YtbhihmkgimdjpaaDoorGhD
namespace Go.Proofs.YtbhihmkgimdjpaaDoor
open Go.RowKit

/-- A graph in memory, in blocks from base on. -/
structure Gb (base : Nat) (w : World) (gb n : Nat) (E : List Eg) : Prop where
  g : Gp w gb n E
  lo : base ≤ gb
  lm : ∀ mb, w.cell? ⟨gb, 1, none⟩ = some (.map (some mb)) → base ≤ mb
theorem Gb.on {base : Nat} {w w' : World} {gb n : Nat} {E : List Eg} (h : Gb base w gb n E) (k : Kept w w') : Gb base w' gb n E :=
  ⟨h.g.on k, h.lo, fun mb hm => h.lm mb ((k.cell (p := ⟨gb, 1, none⟩) h.g.lt (fun e => e)).symm.trans hm)⟩
/-- Is it a node? -/
def nd (n : Nat) (x : Int) : Bool := decide (0 ≤ x) && decide (x < n)
theorem nd_iff {n : Nat} {x : Int} : nd n x = true ↔ 0 ≤ x ∧ x < n := by simp [nd]
set_option maxRecDepth 100000 in
set_option maxHeartbeats 800000 in
theorem node19 {w : World} {gb n : Nat} {E : List Eg} (h : Gp w gb n E) (x : Int) : Calls Tryd.prog 33 #[.pointer (some ⟨gb, 0, none⟩), .int .i64 x] w fun e w' => e = .returned (.bool (nd n x)) ∧ w' = w := by
  obtain ⟨⟨mb, ho, -⟩, -⟩ := h
  have c0 : w.cell? ⟨gb, 0, none⟩ = some (.int .i64 n) := (cell_of ho 0).trans rfl
  unfold nd
  clear ho
  by_cases h1 : 0 ≤ x
  · have h2 : decide (0 ≤ x) = true := decide_eq_true h1
    have h3 : decide (x ≥ 0) = true := decide_eq_true h1
    go_enter Tryd.func33, Tryd.ntmps33
    go_wp2_with fail
    go_ret
    exact ⟨by simp [h1], rfl⟩
  · have h2 : decide (0 ≤ x) = false := decide_eq_false h1
    have h3 : decide (x ≥ 0) = false := decide_eq_false h1
    go_enter Tryd.func33, Tryd.ntmps33
    go_wp2_with fail
    go_ret
    exact ⟨by simp [], rfl⟩
set_option maxRecDepth 100000 in
theorem new19_no {n : Int} (h : n < 0 ∨ 1024 < n) (w : World) : Calls Tryd.prog 10 #[.int .i64 n] w fun e w' => e = .returned (.tuple #[.pointer none, .int .i64 190]) ∧ w' = w := by
  by_cases h1 : n < 0
  · have d1 : decide (n < 0) = true := decide_eq_true h1
    clear h
    go_enter Tryd.func10, Tryd.ntmps10
    go_wp2_with fail
    go_ret2
    exact ⟨rfl, rfl⟩
  · have d1 : decide (n < 0) = false := decide_eq_false h1
    have h2 : n > 1024 := by omega
    have d2 : decide (n > 1024) = true := decide_eq_true h2
    clear h
    go_enter Tryd.func10, Tryd.ntmps10
    go_wp2_with fail
    go_ret2
    exact ⟨rfl, rfl⟩
set_option maxRecDepth 100000 in
theorem new19_ok {n : Nat} (h : n ≤ 1024) (w : World) : Calls Tryd.prog 10 #[.int .i64 (n : Int)] w fun e w' => (∃ gb, e = .returned (.tuple #[.pointer (some ⟨gb, 0, none⟩), .int .i64 0]) ∧ Gb w.heap.size w' gb n []) ∧ Kept w w' := by
  have hmm := @run_makeMap Tryd.prog
  have d1 : decide ((n : Int) < 0) = false := decide_eq_false (by omega)
  have h1 : ¬ (n : Int) < 0 := by omega
  have h2 : ¬ (n : Int) > 1024 := by omega
  have d2 : decide ((n : Int) > 1024) = false := decide_eq_false h2
  go_enter Tryd.func10, Tryd.ntmps10
  go_wp2_with fail
  go_ret2
  have h9 := heap_new (w.alloc (Obj.map #[] 0)) (.cells #[.int .i64 n, .map (some w.heap.size)] 60)
  rw [World.size_alloc] at h9
  have k9 : Kept (w.alloc (Obj.map #[] 0)) ((w.alloc (Obj.map #[] 0)).alloc (.cells #[.int .i64 n, .map (some w.heap.size)] 60)) := (Same.refl _ _).alloc _
  refine ⟨⟨w.heap.size + 1, rfl, ⟨⟨⟨w.heap.size, h9, (Em.made w).kept k9 (fun e => e)⟩, h, fun e he => by simp at he, by simp⟩, by omega, fun mb hm => ?_⟩⟩, ((Same.refl _ w).alloc _).alloc _⟩
  have := (cell_of h9 1).symm.trans hm
  simp at this
  omega
/-- What Add answers. -/
def addC (n : Nat) (E : List Eg) (e : Eg) : Int := if nd n e.f = true ∧ nd n e.t = true then (if e.l < 1 ∨ 8 < e.l then 192 else if e ∈ E then 193 else if 65536 ≤ E.length then 194 else 0) else 191
def addE (n : Nat) (E : List Eg) (e : Eg) : List Eg := if addC n E e = 0 then E ++ [e] else E
theorem addC_fit {n : Nat} {E : List Eg} {e : Eg} : addC n E e = 0 ↔ EFit n e ∧ e ∉ E ∧ E.length < 65536 := by
  unfold addC
  by_cases h1 : nd n e.f = true ∧ nd n e.t = true
  · rw [if_pos h1]
    rw [nd_iff, nd_iff] at h1
    by_cases h2 : e.l < 1 ∨ 8 < e.l
    · rw [if_pos h2]
      exact ⟨fun h => by omega, fun ⟨⟨_, _, _, _, a, b⟩, _⟩ => by omega⟩
    · rw [if_neg h2]
      by_cases h3 : e ∈ E
      · rw [if_pos h3]
        exact ⟨fun h => by omega, fun ⟨_, h, _⟩ => absurd h3 h⟩
      · rw [if_neg h3]
        by_cases h4 : 65536 ≤ E.length
        · rw [if_pos h4]
          exact ⟨fun h => by omega, fun ⟨_, _, h⟩ => by omega⟩
        · rw [if_neg h4]
          exact ⟨fun _ => ⟨⟨h1.1.1, h1.1.2, h1.2.1, h1.2.2, by omega, by omega⟩, h3, by omega⟩, fun _ => rfl⟩
  · rw [if_neg h1]
    refine ⟨fun h => by omega, fun ⟨⟨a, b, c, d, _, _⟩, _⟩ => ?_⟩
    exact absurd ⟨nd_iff.2 ⟨a, b⟩, nd_iff.2 ⟨c, d⟩⟩ h1
theorem Gb.put {base : Nat} {w w' : World} {gb n mb : Nat} {E : List Eg} {e : Eg} (h : Gb base w gb n E) (hm : w.cell? ⟨gb, 1, none⟩ = some (.map (some mb))) (he : Em w' mb (E ++ [e])) (hs : Same (fun k => k = mb) w w') (hf : EFit n e) (hl : E.length < 65536) : Gb base w' gb n (E ++ [e]) ∧ Same (fun k => base ≤ k) w w' := by
  have hlm := h.lm mb hm
  obtain ⟨⟨⟨mb2, ho, hm2⟩, hnn, hfit, hlen⟩, hlo, -⟩ := h
  obtain rfl : mb2 = mb := by
    have := (cell_of ho 1).symm.trans hm
    simpa using this
  have hne : ¬ gb = mb2 := fun e => by
    obtain ⟨es, c, h9⟩ := hm2.obj
    rw [e, h9] at ho
    cases ho
  have h8 : w'.heap[gb]? = _ := (hs.block gb (lt_of_heap ho) hne).trans ho
  refine ⟨⟨⟨⟨mb2, h8, he⟩, hnn, fun x hx => ?_, by rw [List.length_append]; simp; omega⟩, hlo, fun mb hmb => ?_⟩, hs.mono fun k _ e => by rw [show k = mb2 from e]; exact hlm⟩
  · rcases List.mem_append.1 hx with h1 | h1
    · exact hfit x h1
    · obtain rfl := List.mem_singleton.1 h1
      exact hf
  · have := (cell_of h8 1).symm.trans hmb
    simp at this
    omega
set_option maxRecDepth 100000 in
set_option maxHeartbeats 3200000 in
theorem add19 {base : Nat} {w : World} {gb n : Nat} {E : List Eg} (h : Gb base w gb n E) (_ : base ≤ w.heap.size) (e : Eg) (he : Eok e) : Calls Tryd.prog 22 #[.pointer (some ⟨gb, 0, none⟩), egV e] w fun r w' => r = .returned (.int .i64 (addC n E e)) ∧ Gb base w' gb n (addE n E e) ∧ Same (fun k => base ≤ k) w w' := by
  have HG : Hid (Gb base w gb n E) := h
  have HND : Hid (∀ x W, Kept w W → _) := fun x W k => node19 (h.g.on k) x
  obtain ⟨⟨⟨mb, ho, hm⟩, hnn, hfit, hlen⟩, hlo, hlm⟩ := h
  have hmb := hlm mb ((cell_of ho 1).trans rfl)
  have hgl := lt_of_heap ho
  have hml := hm.lt
  have HM : Hid (∀ W, Kept w W → Em W mb E ∧ W.cell? ⟨gb, 1, none⟩ = some (.map (some mb))) := fun W k => ⟨hm.on' k, (k.cell (p := ⟨gb, 1, none⟩) hgl (fun e => e)).trans ((cell_of ho 1).trans rfl)⟩
  obtain ⟨cc, ecc⟩ : ∃ cc, cc = addC n E e := ⟨_, rfl⟩
  rw [← ecc]
  have HCC : Hid (cc = addC n E e) := ecc
  have HEO : Hid (Eok e) := he
  obtain ⟨ef, et, el⟩ := e
  have HNO : Hid (∀ c : Int, c ≠ 0 → addC n E ⟨ef, et, el⟩ = c → ∀ W, Kept w W → cc = c ∧ Gb base W gb n (addE n E ⟨ef, et, el⟩) ∧ Same (fun k => base ≤ k) w W) := fun c h0 hc W k => ⟨by rw [HCC.out]; exact hc, by unfold addE; rw [if_neg (by rw [hc]; exact h0)]; exact HG.out.on k, k.to _⟩
  clear ho hm hfit hlm he ecc
  have fin : ∀ c : Int, cc = c → (Ending.returned (Value.int IntKind.i64 c) : Ending) = .returned (.int .i64 cc) := fun c h => by rw [h]
  have HFN : Hid _ := fin
  clear fin
  cases hnf : nd n ef with
  | false =>
    have hc : addC n E ⟨ef, et, el⟩ = 191 := by unfold addC; rw [if_neg (by simp [hnf])]
    have HC : Hid _ := HNO.out 191 (by decide) hc
    clear hc HNO
    go_enter Tryd.func22, Tryd.ntmps22
    go_wp2_with (go_at_call 33; refine Calls.mono (HND.out _ _ (by (repeat (first | exact Same.refl _ _ | apply Same.alloc | apply Same.drew)); done)) ?_; rintro r w1 ⟨rfl, rfl⟩)
    go_ret
    obtain ⟨h1, h2⟩ := HC.out (w.alloc (egO ⟨ef, et, el⟩)) ((Same.refl _ w).alloc _)
    exact ⟨HFN.out _ h1, h2⟩
  | true =>
    cases hnt : nd n et with
    | false =>
      have hc : addC n E ⟨ef, et, el⟩ = 191 := by unfold addC; rw [if_neg (by simp [hnt])]
      have HC : Hid _ := HNO.out 191 (by decide) hc
      clear hc HNO
      go_enter Tryd.func22, Tryd.ntmps22
      go_wp2_with (go_at_call 33; refine Calls.mono (HND.out _ _ (by (repeat (first | exact Same.refl _ _ | apply Same.alloc | apply Same.drew)); done)) ?_; rintro r w1 ⟨rfl, rfl⟩)
      go_ret
      obtain ⟨h1, h2⟩ := HC.out (w.alloc (egO ⟨ef, et, el⟩)) ((Same.refl _ w).alloc _)
      exact ⟨HFN.out _ h1, h2⟩
    | true =>
      have hcN : addC n E ⟨ef, et, el⟩ = if el < 1 ∨ 8 < el then 192 else if (⟨ef, et, el⟩ : Eg) ∈ E then 193 else if 65536 ≤ E.length then 194 else 0 := by unfold addC; rw [if_pos ⟨hnf, hnt⟩]
      by_cases hl : el < 1 ∨ 8 < el
      · rw [if_pos hl] at hcN
        have HC : Hid _ := HNO.out 192 (by decide) hcN
        clear hcN HNO
        by_cases hl1 : el < 1
        · have d1 : decide (el < 1) = true := decide_eq_true hl1
          clear hl
          go_enter Tryd.func22, Tryd.ntmps22
          go_wp2_with (go_at_call 33; refine Calls.mono (HND.out _ _ (by (repeat (first | exact Same.refl _ _ | apply Same.alloc | apply Same.drew)); done)) ?_; rintro r w1 ⟨rfl, rfl⟩)
          go_ret
          obtain ⟨h1, h2⟩ := HC.out (w.alloc (egO ⟨ef, et, el⟩)) ((Same.refl _ w).alloc _)
          exact ⟨HFN.out _ h1, h2⟩
        · have d1 : decide (el < 1) = false := decide_eq_false hl1
          have hl2 : 8 < el := by omega
          have hl3 : el > 8 := hl2
          have d2 : decide (8 < el) = true := decide_eq_true hl2
          have d3 : decide (el > 8) = true := decide_eq_true hl2
          clear hl
          go_enter Tryd.func22, Tryd.ntmps22
          go_wp2_with (go_at_call 33; refine Calls.mono (HND.out _ _ (by (repeat (first | exact Same.refl _ _ | apply Same.alloc | apply Same.drew)); done)) ?_; rintro r w1 ⟨rfl, rfl⟩)
          go_ret
          obtain ⟨h1, h2⟩ := HC.out (w.alloc (egO ⟨ef, et, el⟩)) ((Same.refl _ w).alloc _)
          exact ⟨HFN.out _ h1, h2⟩
      · rw [if_neg hl] at hcN
        have hl1 : ¬ el < 1 := fun h => hl (.inl h)
        have hl2 : ¬ 8 < el := fun h => hl (.inr h)
        have hl3 : ¬ el > 8 := hl2
        have d1 : decide (el < 1) = false := decide_eq_false hl1
        have d2 : decide (8 < el) = false := decide_eq_false hl2
        have d3 : decide (el > 8) = false := decide_eq_false hl2
        obtain ⟨he1, hc1⟩ := HM.out (w.alloc (egO ⟨ef, et, el⟩)) ((Same.refl _ w).alloc _)
        have hlk := (he1.on' (Same.drew (Same.refl _ _))).look HEO.out
        have hlk1 := (he1.on' (Same.drew (Same.alloc (Same.refl _ _) (.cells #[] 70)))).look HEO.out
        have hlk2 := (he1.on' (Same.alloc (Same.drew (Same.refl _ _)) (.cells #[] 70))).look HEO.out
        have hgx := heap_new w (egO ⟨ef, et, el⟩)
        clear hl
        go_enter Tryd.func22, Tryd.ntmps22
        go_upto_region 5 with (go_at_call 33; refine Calls.mono (HND.out _ _ (by (repeat (first | exact Same.refl _ _ | apply Same.alloc | apply Same.drew)); done)) ?_; rintro r w1 ⟨rfl, rfl⟩)
        go_region
        all_goals
          have K2 : Kept w ((w.alloc (egO ⟨ef, et, el⟩)).alloc (Obj.cells #[] 70)).drew := (((Same.refl _ w).alloc _).alloc _).drew
          have h3 : (((w.alloc (egO ⟨ef, et, el⟩)).alloc (Obj.cells #[] 70)).drew).heap[w.heap.size]? = some (egO ⟨ef, et, el⟩) := (heap_old _ _ (by rw [World.size_alloc]; omega)).trans hgx
          generalize ((w.alloc (egO ⟨ef, et, el⟩)).alloc (Obj.cells #[] 70)).drew = W2 at K2 h3 ⊢
          obtain ⟨he2, hc2⟩ := HM.out W2 K2
          have g0 : W2.cell? ⟨w.heap.size, 0, none⟩ = some (.int .i64 ef) := (cell_of h3 0).trans rfl
          have g1 : W2.cell? ⟨w.heap.size, 1, none⟩ = some (.int .i64 et) := (cell_of h3 1).trans rfl
          have g2 : W2.cell? ⟨w.heap.size, 2, none⟩ = some (.int .i64 el) := (cell_of h3 2).trans rfl
          have HK2 : Hid (Kept w W2) := K2
          clear hlk hlk1 hlk2 hgx K2 h3 he1 hc1
          by_cases hin : (⟨ef, et, el⟩ : Eg) ∈ E
          · have hd : decide ((⟨ef, et, el⟩ : Eg) ∈ E) = true := decide_eq_true hin
            rw [if_pos hin] at hcN
            have HC : Hid _ := HNO.out 193 (by decide) hcN
            clear hcN HNO
            go_wp2_with fail
            go_ret
            obtain ⟨h1, h2⟩ := HC.out _ HK2.out
            exact ⟨HFN.out _ h1, h2⟩
          · have hd : decide ((⟨ef, et, el⟩ : Eg) ∈ E) = false := decide_eq_false hin
            rw [if_neg hin] at hcN
            have HIN : Hid ((⟨ef, et, el⟩ : Eg) ∉ E) := hin
            have hln := fun ty => he2.len ty
            by_cases hle : 65536 ≤ E.length
            · rw [if_pos hle] at hcN
              have HC : Hid _ := HNO.out 194 (by decide) hcN
              have h9 : ((E.length : Nat) : Int) ≥ 65536 := by omega
              have h8 : decide (((E.length : Nat) : Int) ≥ 65536) = true := decide_eq_true h9
              have h7 : (65536 : Int) ≤ ((E.length : Nat) : Int) := h9
              clear hcN HNO hle hlen
              generalize E.length = EL at *
              go_wp2_with fail
              go_ret
              obtain ⟨h1, h2⟩ := HC.out _ HK2.out
              exact ⟨HFN.out _ h1, h2⟩
            · rw [if_neg hle] at hcN
              have h9 : ¬ ((E.length : Nat) : Int) ≥ 65536 := by omega
              have h8 : decide (((E.length : Nat) : Int) ≥ 65536) = false := decide_eq_false h9
              have h7 : ¬ (65536 : Int) ≤ ((E.length : Nat) : Int) := h9
              obtain ⟨w9, hst, he9, hs9⟩ := (he2.on' (Same.drew (Same.refl _ W2))).store HEO.out HIN.out hlen
              have HF9 : Hid (cc = 0 ∧ addE n E ⟨ef, et, el⟩ = E ++ [⟨ef, et, el⟩] ∧ Em w9 mb (E ++ [⟨ef, et, el⟩]) ∧ Same (fun k => k = mb) W2.drew w9 ∧ E.length < 65536) := ⟨by rw [HCC.out]; exact hcN, by unfold addE; rw [if_pos hcN], he9, hs9, by omega⟩
              clear hcN HNO hle he9 hs9 hlen
              generalize E.length = EL at *
              go_upto_region 10 with fail
              go_region
              all_goals (go_wp2_with fail)
              all_goals
                go_ret
                obtain ⟨z1, z2, z3, z4, z5⟩ := HF9.out
                have zf := (addC_fit.1 (show addC n E ⟨ef, et, el⟩ = 0 by rw [← show cc = _ from HCC.out]; exact z1)).1
                have zs : Same (fun k => k = mb) w w9 := ((Kept.to HK2.out _).drew).trans' z4
                obtain ⟨y1, y2⟩ := Gb.put HG.out (HM.out w (Same.refl _ w)).2 z3 zs zf (addC_fit.1 (show addC n E ⟨ef, et, el⟩ = 0 by rw [← show cc = _ from HCC.out]; exact z1)).2.2
                exact ⟨HFN.out 0 z1, by rw [z2]; exact y1, y2⟩
set_option maxRecDepth 100000 in
set_option maxHeartbeats 3200000 in
theorem reach19 {w : World} {gb n : Nat} {E : List Eg} (h : Gp w gb n E) (hT : TabG w) (a b m : Int) : Calls Tryd.prog 15 #[.pointer (some ⟨gb, 0, none⟩), .int .i64 a, .int .i64 b, .int .i64 m] w fun r w' => (∃ v : Bool, r = .returned (.bool v) ∧ (v = true ↔ nd n a = true ∧ nd n b = true ∧ Way (adj E m) a.toNat b.toNat)) ∧ Kept w w' := by
  have HND : Hid (∀ x W, Kept w W → _) := fun x W k => node19 (h.on k) x
  have HBH : Hid _ := behind19 h m
  have HG : Hid (Gp w gb n E) := h
  have HT : Hid (TabG w) := hT
  clear h hT
  cases hna : nd n a with
  | false =>
    have HI : Hid (∀ P Q : Prop, ((false : Bool) = true ↔ (false : Bool) = true ∧ P ∧ Q)) := fun P Q => by simp
    go_enter Tryd.func15, Tryd.ntmps15
    go_wp2_with (go_at_call 33; refine Calls.mono (HND.out _ _ (Same.refl _ _)) ?_; rintro r w1 ⟨rfl, hw1⟩; subst w1)
    go_ret
    exact ⟨⟨false, rfl, by simp⟩, Same.refl _ _⟩
  | true =>
    cases hnb : nd n b with
    | false =>
      go_enter Tryd.func15, Tryd.ntmps15
      go_wp2_with (go_at_call 33; refine Calls.mono (HND.out _ _ (Same.refl _ _)) ?_; rintro r w1 ⟨rfl, hw1⟩; subst w1)
      go_ret
      exact ⟨⟨false, rfl, by simp⟩, Same.refl _ _⟩
    | true =>
      obtain ⟨ha0, han⟩ := nd_iff.1 hna
      obtain ⟨hb0, hbn⟩ := nd_iff.1 hnb
      obtain ⟨x, rfl⟩ : ∃ x : Nat, a = x := ⟨a.toNat, by omega⟩
      obtain ⟨y, rfl⟩ : ∃ y : Nat, b = y := ⟨b.toNat, by omega⟩
      go_enter Tryd.func15, Tryd.ntmps15
      go_wp2_with (go_at_call 33; refine Calls.mono (HND.out _ _ (Same.refl _ _)) ?_; rintro r w1 ⟨rfl, hw1⟩; subst w1)
      refine Calls.mono HBH.out ?_
      rintro r w1 ⟨g, l, rfl, ol, ll, tl, k1⟩
      have hA : ∀ p q, adj E m p q = true → q < n := fun p q hpq => by
        obtain ⟨e, he, h1, h2, h3⟩ := adj_iff.1 hpq
        have := HG.out.fit e he
        have := this.tn
        omega
      have HS : Hid _ := search19 (HT.out.on k1) HG.out.nle (s := x) (by omega) ol ll tl hA
      have K1 : Hid (Kept w w1) := k1
      have HAA : Hid _ := hA
      clear ol ll tl k1 hA
      go_wp2_with fail
      refine Calls.mono HS.out ?_
      rintro r w2 ⟨gc, c, q, rfl, oc, rn, k2⟩
      have hyn : y < n := by omega
      have hyi : (y : Int) < (n : Int) := by omega
      have hyb : (y : Int) ≤ 1024 := by have := HG.out.nle; omega
      obtain ⟨p1, p2, -⟩ := oc.cell1 ekI (cL_at hyn) rfl
      have HR2 : Hid (Kept w w2 ∧ ((cv c y != -1) = true ↔ Way (adj E m) x y)) := ⟨K1.out.trans' k2, by
        rw [bne_iff_ne, ne_eq, cv_none, Bool.not_eq_false]
        exact (rn.bf HAA.out).all⟩
      clear oc rn k2
      generalize cv c y = z at p1 HR2
      go_wp2_with fail
      go_ret
      exact ⟨⟨_, rfl, by simpa using HR2.out.2⟩, HR2.out.1⟩
end Go.Proofs.YtbhihmkgimdjpaaDoor
