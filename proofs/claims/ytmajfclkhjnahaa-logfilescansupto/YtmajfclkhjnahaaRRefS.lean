/- What is proved: the document's Step for Number, Text and Take, at every argument; no condition. -/
import Derived.Test.YtmajfclkhjnahaaRRef
namespace Go.Proofs.Ytmajfclkhjnahaa
open Go.RowKit

section
variable {w : World} {rb : Nat} {a : Option Addr} {cap : Nat} {l : List Int} {pl : Nat} {ft : Int}
set_option maxRecDepth 100000 in
set_option maxHeartbeats 3200000 in
theorem step_num (h : RC w rb a cap l pl ft) (A B : Int) : Calls Try.prog 47 #[.pointer (some ⟨rb, 0, none⟩), .int .i64 2, .int .i64 A, .int .i64 B] w fun e w' => e = .returned (.tuple #[.int .i64 (rNum l pl ft B).1.1, .slice none 0 0, .int .i64 (rNum l pl ft B).1.2]) ∧ RC w' rb a cap l (rNum l pl ft B).2.1 (rNum l pl ft B).2.2 ∧ Same (fun k => k = rb) w w' := by
  unfold rNum
  by_cases hf : ft = 0
  · obtain ⟨c0, c1, c2, f1, f2⟩ := h.cells
    have hlt := h.lt
    have hple := h.ple
    have hlen := h.len
    have hbl : Byts (l.drop pl) := h.byts.drop pl
    have HF : Hid (∀ W, Kept w W → _) := fun W (k : Kept w W) => at_any W a cap l pl (h.on k).data h.byts hlen hple
    have HE : (num 8 (l.drop pl)).2.2 ≠ 0 → _ := fun e => num_err e
    have HO : (num 8 (l.drop pl)).2.2 = 0 → _ := fun e => num_one (by decide) hbl e
    generalize num 8 (l.drop pl) = q at HF HO HE ⊢
    obtain ⟨n, s, e⟩ := q
    simp only at HF HO HE
    rw [List.length_drop] at HO
    obtain ⟨d, ed⟩ : ∃ d, d = l.length - pl := ⟨_, rfl⟩
    have hd : (l.length : Int) - (pl : Int) = (d : Int) := by omega
    have hd2 : (d : Int) ≤ 140737488355328 := by omega
    subst hf
    obtain ⟨L, eL⟩ : ∃ L, L = l.length := ⟨_, rfl⟩
    by_cases he : e = 0
    · subst he
      obtain ⟨-, o2, o3, o4, o5, -⟩ := HO rfl
      obtain ⟨Z, eZ⟩ : ∃ Z, Z = d - s := ⟨_, rfl⟩
      have hZ : (d : Int) - (s : Int) = (Z : Int) := by omega
      have hZ2 : (Z : Int) ≤ 140737488355328 := by omega
      by_cases hm : B < (n : Int)
      · rw [rNumQ_range hm]
        have hm' : decide (B < (n : Int)) = true := decide_eq_true hm
        have H1 : Hid (∀ W, Kept w W → _) := fun W (k : Kept w W) => (h.on k).fault 53
        rw [← eL] at c0 HF hd
        clear h hbl HE HO ed eL hlen hple eZ o2 o3 o4 o5
        go_enter Try.func47, Try.ntmps47
        go_wp2_with fail
        go_quiet (first | (go_at_call 32; refine Calls.quiet_of_same (HF.out _ (by first | exact Same.refl _ _ | exact Same.drewN (Same.refl _ _) _ | exact Same.drew (Same.refl _ _)))))
        go_wp2_with fail
        go_quiet (fail)
        go_wp2_with fail
        go_quiet (fail)
        go_wp2_with fail
        go_ret3
        exact ⟨rfl, (H1.out _ (Same.drewN (Same.refl _ _) _)).1.on (Same.drewN (Same.refl _ _) _), ((Kept.to (Same.drewN (Same.refl _ _) _) _).trans' (H1.out _ (Same.drewN (Same.refl _ _) _)).2).drewN _⟩
      · rw [rNumQ_ok hm]
        have hm' : decide (B < (n : Int)) = false := decide_eq_false hm
        obtain ⟨p, ep⟩ : ∃ p, p = pl + s := ⟨_, rfl⟩
        have hp : (pl : Int) + (s : Int) = (p : Int) := by omega
        have hp2 : (p : Int) ≤ 140737488355328 := by omega
        have HH : Hid (∀ W, Kept w W → _) := fun W (k : Kept w W) => (h.on k).place p (by omega)
        rw [← ep]
        rw [← eL] at c0 HF hd
        clear h hbl HE HO ed eL hlen hple eZ o2 o3 o4 o5 ep
        go_enter Try.func47, Try.ntmps47
        go_wp2_with fail
        go_quiet (first | (go_at_call 32; refine Calls.quiet_of_same (HF.out _ (by first | exact Same.refl _ _ | exact Same.drewN (Same.refl _ _) _ | exact Same.drew (Same.refl _ _)))))
        go_wp2_with fail
        go_quiet (fail)
        go_wp2_with fail
        go_ret3
        exact ⟨rfl, (HH.out _ (Same.drewN (Same.refl _ _) _)).1, (Kept.to (Same.drewN (Same.refl _ _) _) _).trans' (HH.out _ (Same.drewN (Same.refl _ _) _)).2⟩
    · have h0 := HE he
      simp only [Prod.mk.injEq] at h0
      obtain ⟨rfl, rfl, -⟩ := h0
      rw [rNumQ_err he]
      have he' : (e != 0) = true := by simpa using he
      have H1 : Hid (∀ W, Kept w W → _) := fun W (k : Kept w W) => (h.on k).fault e
      rw [← eL] at c0 HF hd
      clear h hbl HE HO ed eL hlen hple
      go_enter Try.func47, Try.ntmps47
      go_wp2_with fail
      go_quiet (first | (go_at_call 32; refine Calls.quiet_of_same (HF.out _ (by first | exact Same.refl _ _ | exact Same.drewN (Same.refl _ _) _ | exact Same.drew (Same.refl _ _)))))
      go_wp2_with fail
      go_quiet (fail)
      go_wp2_with fail
      go_quiet (fail)
      go_wp2_with fail
      go_ret3
      exact ⟨rfl, (H1.out _ (Same.drewN (Same.refl _ _) _)).1.on (Same.drewN (Same.refl _ _) _), ((Kept.to (Same.drewN (Same.refl _ _) _) _).trans' (H1.out _ (Same.drewN (Same.refl _ _) _)).2).drewN _⟩
  · rw [rNumQ_ft hf]
    exact step_ft h hf 2 A B

set_option maxRecDepth 100000 in
set_option maxHeartbeats 3200000 in
theorem step_text (h : RC w rb a cap l pl ft) (A B : Int) : Calls Try.prog 47 #[.pointer (some ⟨rb, 0, none⟩), .int .i64 3, .int .i64 A, .int .i64 B] w fun e w' => ∃ a' c', e = .returned (.tuple #[.int .i64 0, .slice a' (rText l pl ft A B).1.1.length c', .int .i64 (rText l pl ft A B).1.2]) ∧ BytesAt w' a' (rText l pl ft A B).1.1 ∧ (∀ g off, a' = some ⟨g, off, none⟩ → g ≠ rb) ∧ ((rText l pl ft A B).1.2 = 0 → ∃ g off, a' = some ⟨g, off, none⟩) ∧ RC w' rb a cap l (rText l pl ft A B).2.1 (rText l pl ft A B).2.2 ∧ Same (fun k => k = rb) w w' := by
  unfold rText
  by_cases hf : ft = 0
  · obtain ⟨c0, c1, c2, f1, f2⟩ := h.cells
    have hlt := h.lt
    have hple := h.ple
    have hlen := h.len
    have hbl : Byts (l.drop pl) := h.byts.drop pl
    have HF : Hid (∀ W, Kept w W → _) := fun W (k : Kept w W) => at_any W a cap l pl (h.on k).data h.byts hlen hple
    have HE : (num 8 (l.drop pl)).2.2 ≠ 0 → _ := fun e => num_err e
    have HO : (num 8 (l.drop pl)).2.2 = 0 → _ := fun e => num_one (by decide) hbl e
    generalize num 8 (l.drop pl) = q at HF HO HE ⊢
    obtain ⟨n, s, e⟩ := q
    simp only at HF HO HE
    rw [List.length_drop] at HO
    obtain ⟨d, ed⟩ : ∃ d, d = l.length - pl := ⟨_, rfl⟩
    have hd : (l.length : Int) - (pl : Int) = (d : Int) := by omega
    have hd2 : (d : Int) ≤ 140737488355328 := by omega
    subst hf
    obtain ⟨L, eL⟩ : ∃ L, L = l.length := ⟨_, rfl⟩
    by_cases he : e = 0
    · subst he
      obtain ⟨-, o2, o3, o4, o5, -⟩ := HO rfl
      obtain ⟨Z, eZ⟩ : ∃ Z, Z = d - s := ⟨_, rfl⟩
      have hZ : (d : Int) - (s : Int) = (Z : Int) := by omega
      have hZ2 : (Z : Int) ≤ 140737488355328 := by omega
      by_cases hm : (n : Int) < A ∨ B < (n : Int)
      · rw [rTextQ_range hm]
        have H1 : Hid (∀ W, Kept w W → _) := fun W (k : Kept w W) => (h.on k).fault 53
        rw [← eL] at c0 HF hd
        by_cases hm1 : (n : Int) < A
        · have d1 : decide ((n : Int) < A) = true := decide_eq_true hm1
          clear h hbl HE HO ed eL hlen hple eZ o2 o3 o4 o5 hm
          go_enter Try.func47, Try.ntmps47
          go_wp2_with fail
          go_quiet (first | (go_at_call 32; refine Calls.quiet_of_same (HF.out _ (by first | exact Same.refl _ _ | exact Same.drewN (Same.refl _ _) _ | exact Same.drew (Same.refl _ _)))))
          go_wp2_with fail
          go_quiet (fail)
          go_wp2_with fail
          go_quiet (fail)
          go_wp2_with fail
          go_ret3
          exact ⟨none, 0, rfl, BytesAt.nil _ _, (fun g off e => by cases e), (fun e => by simp at e), (H1.out _ (Same.drewN (Same.refl _ _) _)).1.on (Same.drewN (Same.refl _ _) _), ((Kept.to (Same.drewN (Same.refl _ _) _) _).trans' (H1.out _ (Same.drewN (Same.refl _ _) _)).2).drewN _⟩
        · have d1 : decide ((n : Int) < A) = false := decide_eq_false hm1
          have hm2 : B < (n : Int) := by omega
          have d2 : decide (B < (n : Int)) = true := decide_eq_true hm2
          clear h hbl HE HO ed eL hlen hple eZ o2 o3 o4 o5 hm
          go_enter Try.func47, Try.ntmps47
          go_wp2_with fail
          go_quiet (first | (go_at_call 32; refine Calls.quiet_of_same (HF.out _ (by first | exact Same.refl _ _ | exact Same.drewN (Same.refl _ _) _ | exact Same.drew (Same.refl _ _)))))
          go_wp2_with fail
          go_quiet (fail)
          go_wp2_with fail
          go_quiet (fail)
          go_wp2_with fail
          go_ret3
          exact ⟨none, 0, rfl, BytesAt.nil _ _, (fun g off e => by cases e), (fun e => by simp at e), (H1.out _ (Same.drewN (Same.refl _ _) _)).1.on (Same.drewN (Same.refl _ _) _), ((Kept.to (Same.drewN (Same.refl _ _) _) _).trans' (H1.out _ (Same.drewN (Same.refl _ _) _)).2).drewN _⟩
      · have d1 : decide ((n : Int) < A) = false := decide_eq_false (by omega)
        have d2 : decide (B < (n : Int)) = false := decide_eq_false (by omega)
        have d1' : ¬ (n : Int) < A := by omega
        have d2' : ¬ B < (n : Int) := by omega
        by_cases hq : l.length < pl + s + n
        · rw [rTextQ_end hm hq]
          have H1 : Hid (∀ W, Kept w W → _) := fun W (k : Kept w W) => (h.on k).fault 51
          have d3' : (Z : Int) < (n : Int) := by omega
          have d3 : decide ((Z : Int) < (n : Int)) = true := decide_eq_true d3'
          rw [← eL] at c0 HF hd
          clear h hbl HE HO ed eL hlen hple eZ o2 o3 o4 o5 hm hq
          go_enter Try.func47, Try.ntmps47
          go_wp2_with fail
          go_quiet (first | (go_at_call 32; refine Calls.quiet_of_same (HF.out _ (by first | exact Same.refl _ _ | exact Same.drewN (Same.refl _ _) _ | exact Same.drew (Same.refl _ _)))))
          go_wp2_with fail
          go_quiet (fail)
          go_wp2_with fail
          go_quiet (fail)
          go_wp2_with fail
          go_ret3
          exact ⟨none, 0, rfl, BytesAt.nil _ _, (fun g off e => by cases e), (fun e => by simp at e), (H1.out _ (Same.drewN (Same.refl _ _) _)).1.on (Same.drewN (Same.refl _ _) _), ((Kept.to (Same.drewN (Same.refl _ _) _) _).trans' (H1.out _ (Same.drewN (Same.refl _ _) _)).2).drewN _⟩
        · rw [rTextQ_ok hm hq]
          have d3' : ¬ (Z : Int) < (n : Int) := by omega
          have d3 : decide ((Z : Int) < (n : Int)) = false := decide_eq_false d3'
          obtain ⟨p, ep⟩ : ∃ p, p = pl + s := ⟨_, rfl⟩
          have hp : (pl : Int) + (s : Int) = (p : Int) := by omega
          have hp2 : (p : Int) ≤ 140737488355328 := by omega
          rw [← ep] at hq ⊢
          obtain ⟨t, et⟩ : ∃ t, t = p + n := ⟨_, rfl⟩
          have ht : (p : Int) + (n : Int) = (t : Int) := by omega
          have ht2 : (t : Int) ≤ 140737488355328 := by omega
          obtain ⟨a', hs, hb, hne, han⟩ := slice_part h p t (by omega) (by omega) (by omega)
          have hpt : t - p = n := by omega
          rw [hpt] at hs hb
          have HLN : Hid (((l.drop p).take n).length = n) := length_part l (by omega)
          have HH : Hid (∀ W, Kept w W → _) := fun W (k : Kept w W) => (h.on k).place2 p t (by omega) (by omega)
          have HB : Hid (∀ W, Kept w W → _) := fun W (k : Kept w W) => hb.kept (S := fun _ => False) k (fun _ _ h => h)
          have HNE : Hid _ := hne
          have HAN : Hid _ := han
          rw [← et]
          rw [← eL] at c0 HF hd hs
          clear h hbl HE HO ed eL hlen hple eZ o2 o3 o4 o5 hm hq ep et hb hpt hne han
          go_enter Try.func47, Try.ntmps47
          go_wp2_with fail
          go_quiet (first | (go_at_call 32; refine Calls.quiet_of_same (HF.out _ (by first | exact Same.refl _ _ | exact Same.drewN (Same.refl _ _) _ | exact Same.drew (Same.refl _ _)))))
          go_wp2_with fail
          go_quiet (fail)
          go_wp2_with fail
          go_quiet (fail)
          go_wp2_with fail
          go_ret3
          rw [HLN.out]
          refine ⟨a', _, rfl, ?_, HNE.out, fun _ => HAN.out, (HH.out _ (Same.drewN (Same.refl _ _) _)).1.on (Same.drewN (Same.refl _ _) _), ((Kept.to (Same.drewN (Same.refl _ _) _) _).trans' (HH.out _ (Same.drewN (Same.refl _ _) _)).2).drewN _⟩
          exact BytesAt.kept (S := fun k => k = rb) (BytesAt.kept (S := fun k => k = rb) (HB.out _ (Same.drewN (Same.refl _ _) _)) (HH.out _ (Same.drewN (Same.refl _ _) _)).2 (fun k hk e => by obtain ⟨_, off, e'⟩ := hk; exact HNE.out k off e' e)) (Same.drewN (Same.refl _ _) _) (fun k hk e => by obtain ⟨_, off, e'⟩ := hk; exact HNE.out k off e' e)
    · have h0 := HE he
      simp only [Prod.mk.injEq] at h0
      obtain ⟨rfl, rfl, -⟩ := h0
      rw [rTextQ_err he]
      have he' : (e != 0) = true := by simpa using he
      have H1 : Hid (∀ W, Kept w W → _) := fun W (k : Kept w W) => (h.on k).fault e
      rw [← eL] at c0 HF hd
      clear h hbl HE HO ed eL hlen hple
      go_enter Try.func47, Try.ntmps47
      go_wp2_with fail
      go_quiet (first | (go_at_call 32; refine Calls.quiet_of_same (HF.out _ (by first | exact Same.refl _ _ | exact Same.drewN (Same.refl _ _) _ | exact Same.drew (Same.refl _ _)))))
      go_wp2_with fail
      go_quiet (fail)
      go_wp2_with fail
      go_quiet (fail)
      go_wp2_with fail
      go_ret3
      exact ⟨none, 0, rfl, BytesAt.nil _ _, (fun g off e => by cases e), (fun e0 => absurd e0 he), (H1.out _ (Same.drewN (Same.refl _ _) _)).1.on (Same.drewN (Same.refl _ _) _), ((Kept.to (Same.drewN (Same.refl _ _) _) _).trans' (H1.out _ (Same.drewN (Same.refl _ _) _)).2).drewN _⟩
  · rw [rTextQ_ft hf]
    refine (step_ft h hf 3 A B).mono ?_
    rintro e w' ⟨rfl, h1, h2⟩
    exact ⟨none, 0, rfl, BytesAt.nil _ _, (fun g off e => by cases e), (fun e => absurd e hf), h1, h2⟩

end
end Go.Proofs.Ytmajfclkhjnahaa
