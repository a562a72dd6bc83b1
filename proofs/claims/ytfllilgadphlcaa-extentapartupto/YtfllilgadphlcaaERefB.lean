/- What is proved: the document's space: its list of holes, its greatest hole, Alloc, Take and Free; the space is small. -/
import Derived.Test.YtfllilgadphlcaaERefA
namespace Go.Proofs.Ytfllilgadphlcaa
open Go.RowKit

theorem ExtsAt.of_row {w : World} {base : Nat} {e : TypeId} {v : Value} {n : Nat} {l : List Ex} (h : w.ownsRow base e 2 v n (ecs l)) : ∃ a cap, v = .slice a l.length cap ∧ ExtsAt w a l ∧ ∀ k, InB a l.length k → base ≤ k := by
  have hl := h.1
  rw [length_ecs] at hl
  have hl' : l.length = n := by omega
  rcases h.2 with ⟨rfl, hn⟩ | ⟨g, cap, cur, rfl, hb, hg, h1, h2, h3, h4⟩
  · have : l = [] := List.eq_nil_of_length_eq_zero (by omega)
    subst this
    exact ⟨none, 0, rfl, ExtsAt.nil _ _, fun k hk => absurd hk.1 (by simp)⟩
  · refine ⟨_, cap, by rw [hl'], fun i x hx => ⟨g, 0, rfl, lt_of_heap hg, ?_⟩, fun k hk => by obtain ⟨_, off, e⟩ := hk; cases e; exact hb⟩
    have hi := (List.getElem?_eq_some_iff.1 hx).1
    obtain ⟨c0, c1⟩ := ecs_get hx
    have hget : ∀ o, o < n * 2 → w.cell? ⟨g, 0 + o, none⟩ = (ecs l)[o]? := fun o ho => by
      rw [cell_of hg, Nat.zero_add, ← h4, List.getElem?_take_of_lt ho]; simp
    simp only [Nat.zero_add] at hget ⊢
    exact ⟨(hget _ (by omega)).trans c0, (hget _ (by omega)).trans c1⟩
theorem exts_new (w : World) (a b : Int) (t : TypeId) : ExtsAt (w.alloc (.cells #[.int .i64 a, .int .i64 b] t (0, 0))) (some ⟨w.heap.size, 0, none⟩) [⟨a, b⟩] := fun i e he => by
  have hi : i = 0 := by have := (List.getElem?_eq_some_iff.1 he).1; simp at this; omega
  subst hi
  simp at he
  subst he
  exact ⟨w.heap.size, 0, rfl, by simp, (cell_of (heap_new _ _) 0).trans rfl, (cell_of (heap_new _ _) 1).trans rfl⟩
theorem app_pair {w : World} {base : Nat} {v : Value} {i : Nat} {P : List Ex} {e : Ex} {b off c : Nat} (hown : w.ownsRow base 66 2 v i (ecs P)) (hc : ExtsAt w (some ⟨b, off, none⟩) [e]) (hi : i ≤ 4096) (hb : base ≤ w.heap.size) (ty : TypeId) :
    ∃ v' w', (Builtin.append_ #[58, 58] ty #[v, .slice (some ⟨b, off, none⟩) 1 c]).run Try.prog w = .ok v' w' ∧ (w'.ownsRow base 66 2 v' (i + 1) (ecs (P ++ [e])) ∧ Same (fun k => base ≤ k) w w') := by
  obtain ⟨i0, hi0, hz0, hz1, hz2⟩ := info_parts Try.infoPair
  obtain ⟨v', w', hr, r1, r2, _, r3⟩ := run_append_own_at (P := Try.prog) (w := w) base 58 ty 66 i0 _ 2 16 Try.underlying58 hi0 hz0 hz1 hz2 rfl (by decide) v i _ hown ⟨b, off, none⟩ 1 c (ecs [e]) (length_ecs _)
    (fun j u hu => by rw [Addr.add_lit]; exact hc.cells hu) (ecs_one _) (by simp only [maxLen]; omega) (by omega) hb
  refine ⟨v', w', hr, by rw [ecs_append]; exact r1, Same.of_grown r2 fun k hk => (World.ownsRow.lt hown k hk).1⟩

/-- The walk over the blocks stands at block j, m free ones behind it, i holes told. -/
def Hs (L : List Ex) (i : Nat) (j m : Nat) : Prop :=
  i ≤ L.length ∧ m ≤ j ∧ (∀ e ∈ L.take i, e.f + e.c ≤ j) ∧ (m = 0 → ∀ e, L[i]? = some e → (j : Int) ≤ e.f) ∧ (0 < m → ∃ e, L[i]? = some e ∧ e.f = (j : Int) - m ∧ (j : Int) ≤ e.f + e.c)
theorem Hs.start {N : Nat} {L : List Ex} (h : WF 0 N L) : Hs L 0 0 0 :=
  ⟨Nat.zero_le _, Nat.le_refl _, fun e he => by simp at he, fun _ e he => (h.mem (List.mem_of_getElem? he)).1, fun h => by omega⟩
theorem mm_split {L : List Ex} (i : Nat) (b : Int) (h : Mm b L) : Mm b (L.take i) ∨ Mm b (L.drop i) := by
  rw [← mm_append, List.take_append_drop]
  exact h
theorem wf_drop_at {N : Int} {L : List Ex} (h : WF 0 N L) {i : Nat} {e : Ex} (he : L[i]? = some e) : L.drop i = e :: L.drop (i + 1) ∧ WF (e.f + e.c + 1) N (L.drop (i + 1)) := by
  obtain ⟨hl, rfl⟩ := List.getElem?_eq_some_iff.1 he
  have e1 := List.drop_eq_getElem_cons hl
  refine ⟨e1, ?_⟩
  have h1 : WF 0 N (L.drop i) := by
    have h' := h
    rw [← List.take_append_drop i L] at h'
    obtain ⟨m, _, h2, _, h4⟩ := wf_append.1 h'
    exact h4.mono h2
  rw [e1] at h1
  exact h1.2.2.2
/-- Where block j is free. -/
theorem Hs.free {N : Nat} {L : List Ex} (hw : WF 0 N L) {i j m : Nat} (h : Hs L i j m) (hf : Mm (j : Int) L) : Hs L i (j + 1) (m + 1) := by
  obtain ⟨h1, h0, h2, h3, h4⟩ := h
  refine ⟨h1, by omega, fun e he => by have := h2 e he; omega, fun h => by omega, fun _ => ?_⟩
  have hd : Mm (j : Int) (L.drop i) := by
    rcases mm_split i _ hf with ⟨e, he, q1, q2⟩ | h
    · have := h2 e he; omega
    · exact h
  have hi : i < L.length := by
    rcases Nat.lt_or_ge i L.length with h | h
    · exact h
    · rw [List.drop_eq_nil_of_le h] at hd; exact absurd hd (mm_nil _)
  obtain ⟨e, he⟩ : ∃ e, L[i]? = some e := ⟨_, List.getElem?_eq_getElem hi⟩
  obtain ⟨d1, d2⟩ := wf_drop_at hw he
  rw [d1, mm_cons] at hd
  have hin : e.f ≤ (j : Int) ∧ (j : Int) < e.f + e.c := by
    rcases hd with h | h
    · exact h
    · have := d2.mm h
      have hc := (hw.mem (List.mem_of_getElem? he)).2.1
      rcases Nat.eq_zero_or_pos m with hm | hm
      · have := h3 hm e he; omega
      · obtain ⟨e', he', q1, q2⟩ := h4 hm
        rw [he] at he'
        cases he'
        omega
  refine ⟨e, he, ?_, by omega⟩
  rcases Nat.eq_zero_or_pos m with hm | hm
  · have := h3 hm e he; omega
  · obtain ⟨e', he', q1, q2⟩ := h4 hm
    rw [he] at he'
    cases he'
    omega
/-- Where it isn't, and none is behind it. -/
theorem Hs.used {L : List Ex} {i j : Nat} {N : Nat} (hw : WF 0 N L) (h : Hs L i j 0) (hf : ¬ Mm (j : Int) L) : Hs L i (j + 1) 0 := by
  obtain ⟨h1, h0, h2, h3, h4⟩ := h
  refine ⟨h1, by omega, fun e he => by have := h2 e he; omega, fun _ e he => ?_, fun h => by omega⟩
  have := h3 rfl e he
  have hm := List.mem_of_getElem? he
  have hc := (hw.mem hm).2.1
  rcases Int.lt_or_le (j : Int) e.f with q | q
  · omega
  · exact absurd ⟨e, hm, q, by omega⟩ hf
/-- Where it isn't, and some are behind it: that is a hole. -/
theorem Hs.hole {L : List Ex} {i j m : Nat} {N : Nat} (hw : WF 0 N L) (h : Hs L i j m) (hm : 0 < m) (hf : ¬ Mm (j : Int) L) : L[i]? = some ⟨(j : Int) - m, m⟩ ∧ L.take (i + 1) = L.take i ++ [⟨(j : Int) - m, m⟩] ∧ Hs L (i + 1) (j + 1) 0 := by
  obtain ⟨h1, h0, h2, h3, h4⟩ := h
  obtain ⟨e, he, q1, q2⟩ := h4 hm
  have hmem := List.mem_of_getElem? he
  have q3 : e.f + e.c ≤ (j : Int) := by
    rcases Int.lt_or_le (j : Int) (e.f + e.c) with q | q
    · exact absurd ⟨e, hmem, by omega, q⟩ hf
    · exact q
  have ee : e = ⟨(j : Int) - m, m⟩ := by
    obtain ⟨f, c⟩ := e
    simp only at *
    congr 1
    omega
  have ht : L.take (i + 1) = L.take i ++ [e] := by rw [List.take_add_one, he]; rfl
  subst ee
  refine ⟨he, ht, (List.getElem?_eq_some_iff.1 he).1, by omega, fun x hx => ?_, fun _ x hx => ?_, fun h => by omega⟩
  · rw [ht] at hx
    rcases List.mem_append.1 hx with hx | hx
    · have := h2 x hx; omega
    · rw [List.mem_singleton] at hx; subst hx; simp only; omega
  · obtain ⟨d1, d2⟩ := wf_drop_at hw he
    have hd : x ∈ L.drop (i + 1) := by
      rw [List.mem_iff_getElem?]
      exact ⟨0, by rw [List.getElem?_drop]; exact hx⟩
    have := d2.mem hd
    simp only at this
    omega
theorem Hs.done {L : List Ex} {i m : Nat} {N : Nat} (hw : WF 0 N L) (h : Hs L i (N + 1) m) : i = L.length ∧ m = 0 := by
  obtain ⟨h1, h0, h2, h3, h4⟩ := h
  have hm : m = 0 := by
    rcases Nat.eq_zero_or_pos m with hm | hm
    · exact hm
    · obtain ⟨e, he, q1, q2⟩ := h4 hm
      have := hw.mem (List.mem_of_getElem? he)
      omega
  refine ⟨?_, hm⟩
  rcases Nat.lt_or_ge i L.length with h | h
  · obtain ⟨e, he⟩ : ∃ e, L[i]? = some e := ⟨_, List.getElem?_eq_getElem h⟩
    have := h3 hm e he
    have := hw.mem (List.mem_of_getElem? he)
    omega
  · omega

set_option maxRecDepth 100000 in
set_option maxHeartbeats 1600000 in
theorem rholes_any {w : World} {q g N : Nat} {U : Nat → Bool} {L : List Ex} (h : RS w q g N U) (hN : N ≤ 4096) (hw : WF 0 N L) (hag : Ag U N L) : Calls Try.prog 26 #[.pointer (some ⟨q, 0, none⟩)] w fun e w' => ∃ a c, e = .returned (.slice a L.length c) ∧ ExtsAt w' a L ∧ (∀ k, InB a L.length k → w.heap.size ≤ k) ∧ Kept w w' := by
  have hnot : ∀ (x : Bool) (w : World), (Op.unary .not (.bool x)).run Try.prog w = .ok (.bool (!x)) w := fun _ _ => rfl
  have HR : Hid _ := h
  have HW : Hid _ := hw
  have HG : Hid _ := hag
  have HLL : Hid (L.length ≤ 4096) := hw.len hN
  clear h hw hag
  go_enter Try.func26, Try.ntmps26
  go_wp2_with fail
  go_loopw [3, 4, 5] (fun s n b wr => ∃ (i j m : Nat) (av : Value), j ≤ N + 1 ∧ b = .int .i64 j ∧ n = .int .i64 m ∧ av = s ∧ Hs L i j m ∧ wr.ownsRow w.heap.size 66 2 av i (ecs (L.take i)) ∧ Kept w wr) (fun _ _ b _ => N + 1 - (intOf b).toNat)
  case atStart => exact ⟨0, 0, 0, _, by omega, rfl, rfl, rfl, Hs.start HW.out, World.ownsRow_nil _ _ _ _, Same.refl _ _⟩
  case round =>
    obtain ⟨i, j, m, av, hj, rfl, rfl, rfl, hhs, hown, kk⟩ := hrel
    have KK : Hid _ := kk
    have HHS : Hid _ := hhs
    have HO : Hid _ := hown
    have hmj : m ≤ j := hhs.2.1
    have hil : Hid (i ≤ L.length) := hhs.1
    have hr := RS.on HR.out kk
    have c0 := hr.c0
    have hql := lt_of_heap hr.obj
    have hgl := hr.row.lt
    by_cases hle : j ≤ N
    · have a1 : decide ((j : Int) ≤ (N : Int)) = true := by simp only [decide_eq_true_eq]; omega
      have a2 : (j : Int) ≤ (N : Int) := by omega
      by_cases hfree : j < N ∧ U j = false
      · obtain ⟨hlt, hU⟩ := hfree
        have b1 : decide ((j : Int) < (N : Int)) = true := by simp only [decide_eq_true_eq]; omega
        have b2 : (j : Int) < (N : Int) := by omega
        have cj := hr.row.cell hlt
        rw [hU] at cj
        have HNX : Hid _ := Hs.free HW.out hhs ((HG.out j hlt).1 hU)
        clear kk hr hhs hown hU
        go_wp2_with fail
        go_roundw
        case rel => exact ⟨i, j + 1, m + 1, _, by omega, by simp, by simp, rfl, HNX.out, HO.out, KK.out⟩
        case measure => simp only [intOf]; omega
      · have hno : ¬ Mm (j : Int) L := by
          intro hm
          have hb := HW.out.mm hm
          have hlt : j < N := by omega
          exact hfree ⟨hlt, (HG.out j hlt).2 hm⟩
        have HNO : Hid _ := hno
        by_cases hlt : j < N
        · have b1 : decide ((j : Int) < (N : Int)) = true := by simp only [decide_eq_true_eq]; omega
          have b2 : (j : Int) < (N : Int) := by omega
          have hU : U j = true := by cases hU : U j with
            | true => rfl
            | false => exact absurd ⟨hlt, hU⟩ hfree
          have cj := hr.row.cell hlt
          rw [hU] at cj
          by_cases hm : 0 < m
          · have d1 : decide (0 < (m : Int)) = true := by simp only [decide_eq_true_eq]; omega
            have d2 : 0 < (m : Int) := by omega
            have HNX : Hid _ := Hs.hole HW.out hhs hm hno
            clear kk hr hhs hown hU hno hfree
            go_wp2_with (at_builtin; refine wpList_app rfl (.tmp 36) (.tmp 42) 58 rfl _ _ rfl rfl _ (app_pair (World.ownsRow.alloc HO.out _) (exts_new _ _ _ _) (Nat.le_trans hil.out HLL.out) (by rw [World.size_alloc]; have := KK.out.size; omega)) ?_; rintro v' w1 ⟨r1, r2⟩)
            go_roundw
            case rel =>
              obtain ⟨x1, x2, x3⟩ := HNX.out
              refine ⟨i + 1, j + 1, 0, _, by omega, by simp, rfl, rfl, x3, by rw [x2]; exact r1, ?_⟩
              exact (KK.out.alloc _).trans r2 fun k hk h => by omega
            case measure => simp only [intOf]; omega
          · have d1 : decide (0 < (m : Int)) = false := by simp only [decide_eq_false_iff_not]; omega
            obtain rfl : m = 0 := by omega
            have HNX : Hid _ := Hs.used HW.out hhs hno
            clear kk hr hhs hown hU hno hfree
            go_wp2_with fail
            go_roundw
            case rel => exact ⟨i, j + 1, 0, _, by omega, by simp, rfl, rfl, HNX.out, HO.out, KK.out⟩
            case measure => simp only [intOf]; omega
        · have b1 : decide ((j : Int) < (N : Int)) = false := by simp only [decide_eq_false_iff_not]; omega
          by_cases hm : 0 < m
          · have d1 : decide (0 < (m : Int)) = true := by simp only [decide_eq_true_eq]; omega
            have d2 : 0 < (m : Int) := by omega
            have HNX : Hid _ := Hs.hole HW.out hhs hm hno
            clear kk hr hhs hown hno hfree
            go_wp2_with (at_builtin; refine wpList_app rfl (.tmp 36) (.tmp 42) 58 rfl _ _ rfl rfl _ (app_pair (World.ownsRow.alloc HO.out _) (exts_new _ _ _ _) (Nat.le_trans hil.out HLL.out) (by rw [World.size_alloc]; have := KK.out.size; omega)) ?_; rintro v' w1 ⟨r1, r2⟩)
            go_roundw
            case rel =>
              obtain ⟨x1, x2, x3⟩ := HNX.out
              refine ⟨i + 1, j + 1, 0, _, by omega, by simp, rfl, rfl, x3, by rw [x2]; exact r1, ?_⟩
              exact (KK.out.alloc _).trans r2 fun k hk h => by omega
            case measure => simp only [intOf]; omega
          · have d1 : decide (0 < (m : Int)) = false := by simp only [decide_eq_false_iff_not]; omega
            obtain rfl : m = 0 := by omega
            have HNX : Hid _ := Hs.used HW.out hhs hno
            clear kk hr hhs hown hno hfree
            go_wp2_with fail
            go_roundw
            case rel => exact ⟨i, j + 1, 0, _, by omega, by simp, rfl, rfl, HNX.out, HO.out, KK.out⟩
            case measure => simp only [intOf]; omega
    · have a1 : decide ((j : Int) ≤ (N : Int)) = false := by simp only [decide_eq_false_iff_not]; omega
      obtain rfl : j = N + 1 := by omega
      have HD : Hid _ := Hs.done HW.out hhs
      clear kk hr hhs hown
      go_wp2_with fail
      go_ret
      obtain ⟨e1, _⟩ := HD.out
      have h5 := HO.out
      rw [e1, List.take_length] at h5
      obtain ⟨a, c, rfl, q2, q3⟩ := ExtsAt.of_row h5
      exact ⟨a, c, rfl, q2, q3, KK.out⟩
end Go.Proofs.Ytfllilgadphlcaa
