/- What is proved: Clone, SortStableFunc and Sort over violations: Sort gives all of a list sorted, those alike as they stood, in memory of its own; the list lies in memory. -/
import Derived.Test.YtnfkjblhnpnaeaaVSt
import Derived.Test.YtnfkjblhnpnaeaaVSi
import Derived.Test.YtnfkjblhnpnaeaaVSrt
import Derived.Test.YtnfkjblhnpnaeaaVLayI
import Derived.Test.YtnfkjblhnpnaeaaVRs
namespace Go.Proofs.Ytnfkjblhnpnaeaa
open Go.RowKit

theorem as18 : As Try.prog 12 vl1 :=
  ⟨by kernel_rfl, ekV, Try.func63, Try.func57, Try.func46, Try.func40, Try.call63, Try.call57, Try.call46, Try.call45, Try.call17, compare18, Try.underlying0, Try.underlying3, Try.underlying4, Try.underlying28, rfl, Try.isAgg0, Try.isAgg3, Try.isAgg4, Try.isAgg28, Try.isAgg30, Try.sizeOf0, Try.sizeOf3, Try.sizeOf4, Try.sizeOf28, Try.sizeOf30⟩
theorem own_nb {base : Nat} {w : World} {v : Value} {L : List Nb} : Own (en vl1) 12 30 base w v L ↔ Own vl1 12 30 base w v (L.map (·.v)) := by
  have e : fl (en vl1) L = fl vl1 (L.map (·.v)) := by
    unfold fl
    rw [List.flatMap_map]
  unfold Own
  rw [e, List.length_map]
theorem nbs_rise (k : Nat) (l : List Vl) : (nbs k l).Pairwise fun x y => x.n < y.n := by
  induction l generalizing k with
  | nil => exact List.Pairwise.nil
  | cons v l ih =>
    refine List.Pairwise.cons (fun x hx => ?_) (ih _)
    have := nbs_ge hx
    show (k : Int) < x.n
    omega
theorem cmpLaysV (blk off size : Nat) (w : World) : CmpLays Try.prog 17 #[] (en vl1) 12 (fun x y => compV x.v y.v) blk off size w := fun _ _ _ _ x y => by
  refine (compare18 x.v y.v _).mono fun e w' h => ?_
  exact h
/-- The library's insertion sort of a part. -/
theorem ins18 {base g N cap : Nat} (hN : N ≤ 1172812402961) (W : World) (A Y C : List Nb) (o : Own (en vl1) 12 30 base W (.slice (some ⟨g, 0, none⟩) N cap) (A ++ Y ++ C)) (hp : Y.Pairwise fun x y => x.n < y.n) :
    Calls Try.prog 45 #[.slice (some ⟨g, 0, none⟩) N cap, .int .i64 (A.length : Int), .int .i64 ((A.length + Y.length : Nat) : Int), cmpF] W fun e w' => e = .returned (.tuple #[]) ∧ Own (en vl1) 12 30 base w' (.slice (some ⟨g, 0, none⟩) N cap) (A ++ srt ltN Y ++ C) ∧ Same (fun b => b = g) W w' := by
  have E : Ek (en vl1) 12 := ek_en ekV
  have hNl : N = (A ++ Y ++ C).length := o.lt.2
  have hg : g < W.heap.size := o.lt.1
  have hsz : (A ++ Y ++ C).toArray.size = N := by rw [hNl]; simp
  have hc := AnyQ.insertionSortCmpFunc Try.insN 12 Try.isAgg30 Try.sizeOf30 (en vl1) E.len E.one (fun x y => compV x.v y.v) 17 #[] g 0 cap A.length (A.length + Y.length) (A ++ Y ++ C).toArray W Try.call17 (cmpLaysV _ _ _ _) (o.holdsK E) hg (by omega) (by simp) (by rw [hsz]; omega)
  rw [hsz] at hc
  refine hc.mono fun e w' ⟨he, n, os, hw⟩ => ?_
  subst hw
  have e1 : ltOf (fun x y : Nb => compV x.v y.v) = ltW := rfl
  rw [e1]
  have hi := ins_part A Y C hp
  have hl : (A ++ srt ltN Y ++ C).length = (A ++ Y ++ C).length := by simp only [List.length_append, srt_len]
  obtain ⟨o1, s1⟩ := o.sorted E (A ++ srt ltN Y ++ C) hl n os
  rw [← hi, Array.toArray_toList] at o1 s1
  rw [hi] at o1
  exact ⟨he, o1, s1⟩
set_option maxRecDepth 100000 in
set_option maxHeartbeats 1600000 in
theorem stable_none (w : World) : Calls Try.prog 40 #[.slice none 0 0, .int .i64 0, cmpF] w fun e w' => e = .returned (.tuple #[]) ∧ w' = w := by
  have HI : Hid _ := AnyF.insertionSortCmpFunc_none Try.insN none 0 cmpF w
  go_enter Try.func40, Try.ntmps40
  go_wp2_with fail
  refine wp_loop_rounds 1 ?_
  rw [rounds_succ]
  go_wp2_with fail
  refine Calls.mono HI.out ?_
  rintro rr W1 ⟨rfl, rfl⟩
  clear HI
  go_wp2_with fail
  refine wp_loop_rounds 1 ?_
  rw [rounds_succ]
  go_wp2_with fail
  all_goals (go_end0; exact ⟨rfl, rfl⟩)
set_option maxRecDepth 100000 in
set_option maxHeartbeats 1600000 in
theorem stable18 {base : Nat} {w : World} {v : Value} {l : List Vl} (h : Own vl1 12 30 base w v l) (hl : l.length ≤ 1172812402961) :
    Calls Try.prog 31 #[v, cmpF] w fun e w' => e = .returned (.tuple #[]) ∧ Own vl1 12 30 base w' v (srt ltV l) ∧ Same (fun b => v.ownBlock = some b) w w' := by
  rcases h.2 with ⟨rfl, hn⟩ | ⟨g, cap, cur, rfl, -⟩
  · have hL : l = [] := List.eq_nil_of_length_eq_zero hn
    subst hL
    have HH : Hid (Own vl1 12 30 base w (.slice none 0 0) []) := h
    have HI : Hid _ := stable_none w
    clear h hn hl
    go_enter Try.func31, Try.ntmps31
    go_wp2_with fail
    refine Calls.mono HI.out ?_
    rintro rr W1 ⟨rfl, rfl⟩
    go_wp2_with fail
    all_goals (go_end0; exact ⟨rfl, HH.out, Same.refl _ _⟩)
  · have h' : Own (en vl1) 12 30 base w (.slice (some ⟨g, 0, none⟩) l.length cap) (nbs 0 l) := by rw [own_nb, nbs_map]; exact h
    have HI : Hid _ := stable_p as18 h' hl (nbs_rise 0 l) (fun W A Y C o hp => ins18 hl W A Y C o hp)
    have HB : Hid (∀ W, Own (en vl1) 12 30 base W (.slice (some ⟨g, 0, none⟩) l.length cap) (srt ltN (nbs 0 l)) → Own vl1 12 30 base W (.slice (some ⟨g, 0, none⟩) l.length cap) (srt ltV l)) := fun W o => by
      rw [own_nb, srt_nbs] at o; exact o
    obtain ⟨n, en⟩ : ∃ n, n = l.length := ⟨_, rfl⟩
    rw [← en] at HI HB hl ⊢
    generalize srt ltN (nbs 0 l) = S at HI HB
    generalize srt ltV l = S' at HB ⊢
    clear h h' en
    go_enter Try.func31, Try.ntmps31
    go_wp2_with fail
    refine Calls.mono HI.out ?_
    rintro rr W1 ⟨rfl, o, s⟩
    have HF : Hid _ := And.intro (HB.out _ o) s
    clear o s HI HB
    go_wp2_with fail
    all_goals (go_end0; exact ⟨rfl, HF.out.1, HF.out.2.mono fun b _ e => by subst e; rfl⟩)
set_option maxRecDepth 100000 in
set_option maxHeartbeats 1600000 in
theorem clone18 {w : World} {a : Option Addr} {cap : Nat} {l : List Vl} (h : At vl1 12 w a l) (hnil : a = none → l.length = 0 ∧ cap = 0) (hl : l.length ≤ 1172812402961) :
    Calls Try.prog 30 #[.slice a l.length cap] w fun e w' => ∃ v, e = .returned v ∧ Own vl1 12 30 w.heap.size w' v l ∧ Kept w w' := by
  have q : ∀ (w : World) (a : Option Addr) (n c n' c' : Nat), (binOp .eql 28 (.slice a n c) (.slice none n' c')).run Try.prog w = .ok (.bool a.isNone) w := fun w a n c n' c' => Lib.run_eql_slice_nil w _ _ a n c n' c' Try.underlying28
  cases a with
  | none =>
    obtain ⟨h1, rfl⟩ := hnil rfl
    have hL : l = [] := List.eq_nil_of_length_eq_zero h1
    subst hL
    clear h hnil h1 hl
    go_enter Try.func30, Try.ntmps30
    go_wp2_with fail
    go_ret
    exact ⟨_, rfl, Own.nil _ _ _ _ _, Same.refl _ _⟩
  | some ad =>
    have HC : Hid (∀ ty, _) := fun ty => copy_own (c := cap) ekV Try.underlying28 Try.infoViol rfl h hnil (by omega) (by unfold maxLen; omega) ty
    obtain ⟨n, en⟩ : ∃ n, n = l.length := ⟨_, rfl⟩
    rw [← en] at HC hl ⊢
    clear h hnil en
    go_enter Try.func30, Try.ntmps30
    go_wp2_with (at_builtin; refine wpList_app rfl (.tmp 5) (.tmp 6) 28 rfl (.slice (some ⟨w.heap.size, 0, none⟩) 0 0) (.slice (some ad) n cap) rfl rfl _ HC.out ?_; rintro v2 w2 ⟨o2, k2⟩; have R : Hid _ := And.intro o2 k2; clear o2 k2)
    go_ret
    obtain ⟨o2, k2⟩ := R.out
    exact ⟨_, rfl, o2, k2⟩
set_option maxRecDepth 100000 in
set_option maxHeartbeats 1600000 in
/-- Sort. -/
theorem sort18 {w : World} {a : Option Addr} {cap : Nat} {l : List Vl} (h : At vl1 12 w a l) (hnil : a = none → l.length = 0 ∧ cap = 0) (hl : l.length ≤ 1172812402961) :
    Calls Try.prog 18 #[.slice a l.length cap] w fun e w' => ∃ v, e = .returned v ∧ Own vl1 12 30 w.heap.size w' v (srt ltV l) ∧ Kept w w' := by
  have HC : Hid _ := clone18 h hnil hl
  have HS : Hid (∀ W v, Own vl1 12 30 w.heap.size W v l → _) := fun W v (o : Own vl1 12 30 w.heap.size W v l) => stable18 o hl
  obtain ⟨n, en⟩ : ∃ n, n = l.length := ⟨_, rfl⟩
  rw [← en] at HC ⊢
  generalize srt ltV l = S at HS ⊢
  clear h hnil hl en
  go_enter Try.func18, Try.ntmps18
  go_wp2_with fail
  refine Calls.mono HC.out ?_
  rintro rr W1 ⟨v, rfl, o, k1⟩
  have HS1 : Hid _ := HS.out W1 v o
  have HV : Hid ((∀ b, v.ownBlock = some b → w.heap.size ≤ b) ∧ Kept w W1) := ⟨fun b hb => by
    obtain ⟨a', c', rfl, -, -, hh⟩ := o.shape
    cases a' with
    | none => simp [Value.ownBlock] at hb
    | some ad =>
      obtain ⟨g, rfl, h1, h2⟩ := hh ad rfl
      simp [Value.ownBlock] at hb
      omega, k1⟩
  clear o k1 HC HS
  go_wp2_with fail
  refine Calls.mono HS1.out ?_
  rintro rr W2 ⟨rfl, o, s⟩
  have HF : Hid _ := And.intro o s
  clear o s HS1
  go_wp2_with fail
  go_ret
  exact ⟨_, rfl, HF.out.1, (Kept.to HV.out.2 (fun k => w.heap.size ≤ k)).trans HF.out.2 (fun i _ e => HV.out.1 i e) |>.mono fun i hi e => by omega⟩
end Go.Proofs.Ytnfkjblhnpnaeaa
