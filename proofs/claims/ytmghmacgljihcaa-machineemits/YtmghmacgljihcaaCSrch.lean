/- What is proved: how many versions of a rising chain there are by a time: the binary search; the chain lies in memory. -/
import Derived.Test.YtmghmacgljihcaaCCmp
import Derived.Lib.BitFns
namespace Go.Proofs.Ytmghmacgljihcaa
open Go.RowKit

set_option maxRecDepth 100000 in
set_option maxHeartbeats 800000 in
theorem commC_any (a : Option Addr) (l : List Vn) (cap h : Nat) (t : Int) (w : World) (hl : VersAt w a l) (c0 : w.cell? ⟨h, 0, none⟩ = some (.slice a l.length cap)) (c1 : w.cell? ⟨h + 1, 0, none⟩ = some (.int .i64 t)) (i : Nat) (x : Vn) (hx : l[i]? = some x) :
    Calls Try.prog 48 #[.int .i64 i, .pointer (some ⟨h, 0, none⟩), .pointer (some ⟨h + 1, 0, none⟩)] w fun e w' => e = .returned (.bool (decide (t < x.c))) ∧ Kept w w' := by
  obtain ⟨b, off, rfl, hb, q0, -⟩ := hl i x hx
  have hi := (List.getElem?_eq_some_iff.1 hx).1
  have hlt : (i : Int) < (l.length : Int) := by omega
  have d1 : decide ((i : Int) < (l.length : Int)) = true := decide_eq_true hlt
  generalize l.length = n at *
  clear hx hl
  go_enter Try.func48, Try.ntmps48
  go_wp2_with fail
  go_region
  go_wp2_with fail
  go_ret
  exact ⟨rfl, by (repeat (first | exact Same.refl _ _ | apply Same.drew | apply Same.drewN)); done⟩

theorem cnt_of {l : List Vn} (h : Asc l) {t : Int} {m : Nat} (hm : m ≤ l.length) (h1 : ∀ i x, l[i]? = some x → i < m → x.c ≤ t) (h2 : ∀ i x, l[i]? = some x → m ≤ i → t < x.c) : cnt l t = m := by
  have hc := cnt_le l t
  rcases Nat.lt_trichotomy (cnt l t) m with hlt | e | hlt
  · have hg := List.getElem?_eq_getElem (l := l) (i := cnt l t) (by omega)
    have := (h.cnt_iff t hg).2 (h1 _ _ hg hlt)
    omega
  · exact e
  · have hg := List.getElem?_eq_getElem (l := l) (i := m) (by omega)
    have := (h.cnt_iff t hg).1 hlt
    have := h2 _ _ hg (Nat.le_refl _)
    omega
set_option maxRecDepth 100000 in
set_option maxHeartbeats 1600000 in
theorem search_any (a : Option Addr) (l : List Vn) (cap h : Nat) (t : Int) (w : World) (hl : VersAt w a l) (hA : Asc l) (hlt : h + 1 < w.heap.size) (c0 : w.cell? ⟨h, 0, none⟩ = some (.slice a l.length cap)) (c1 : w.cell? ⟨h + 1, 0, none⟩ = some (.int .i64 t)) (hn : l.length < 4611686018427387904) :
    Calls Try.prog 47 #[.int .i64 l.length, .func (.func 48) #[] #[.pointer (some ⟨h, 0, none⟩), .pointer (some ⟨h + 1, 0, none⟩)]] w fun e w' => e = .returned (.int .i64 (cnt l t)) ∧ Kept w w' := by
  have HF : Hid (∀ W, Kept w W → ∀ (i : Nat) (x : Vn), l[i]? = some x → _) := fun W k i x hx => commC_any a l cap h t W (hl.on k) ((k.cell (p := ⟨h, 0, none⟩) (by show h < _; omega) (fun e => e)).trans c0) ((k.cell (p := ⟨h + 1, 0, none⟩) hlt (fun e => e)).trans c1) i x hx
  have HA : Hid _ := hA
  obtain ⟨n, en⟩ : ∃ n, n = l.length := ⟨_, rfl⟩
  rw [← en] at hn ⊢
  have EN : Hid _ := en
  have HQ : Hid (∀ m : Nat, m ≤ l.length → (∀ i x, l[i]? = some x → i < m → x.c ≤ t) → (∀ i x, l[i]? = some x → m ≤ i → t < x.c) → cnt l t = m) := fun m => cnt_of hA
  generalize cnt l t = q at HQ ⊢
  clear hl hA c0 c1 en hlt
  go_enter Try.func47, Try.ntmps47
  go_wp2_with fail
  go_loopw [5, 6] (fun s5 s6 wr => ∃ lo hi : Nat, s5 = .int .i64 lo ∧ s6 = .int .i64 hi ∧ lo ≤ hi ∧ hi ≤ n ∧ Kept w wr ∧ (∀ i x, l[i]? = some x → i < lo → x.c ≤ t) ∧ (∀ i x, l[i]? = some x → hi ≤ i → t < x.c)) (fun s5 s6 _ => (intOf s6).toNat - (intOf s5).toNat)
  case atStart => exact ⟨0, n, rfl, rfl, Nat.zero_le _, Nat.le_refl _, Same.refl _ _, fun i x _ h => absurd h (Nat.not_lt_zero _), fun i x hx h => by have := (List.getElem?_eq_some_iff.1 hx).1; have := EN.out; omega⟩
  case round =>
    obtain ⟨lo, hi, rfl, rfl, hlh, hin, kk, i1, i2⟩ := hrel
    have I1 : Hid _ := i1
    have I2 : Hid _ := i2
    clear i1 i2
    by_cases hlt : lo < hi
    · have hlt2 : (lo : Int) < (hi : Int) := by omega
      have d1 : decide ((lo : Int) < (hi : Int)) = true := decide_eq_true hlt2
      obtain ⟨x, hx⟩ : ∃ x, l[(lo + hi) / 2]? = some x := ⟨_, List.getElem?_eq_getElem (by rw [← EN.out]; omega)⟩
      have hc := HF.out _ kk _ x hx
      rw [show (((lo + hi) / 2 : Nat) : Int) = ((lo : Int) + (hi : Int)) / 2 by omega] at hc
      have HX : Hid _ := hx
      clear hx
      by_cases hp : t < x.c
      · rw [decide_eq_true hp] at hc
        have HC : Hid _ := hc
        have HP : Hid _ := hp
        have KK : Hid _ := kk
        clear hc hp kk
        go_wp2_with fail
        refine Calls.mono HC.out ?_
        rintro r w1 ⟨rfl, k1⟩
        go_wp2_with fail
        go_roundw
        case rel =>
          refine ⟨lo, (lo + hi) / 2, rfl, by simp only [Value.int.injEq, true_and]; omega, by omega, by omega, KK.out.trans' k1, I1.out, fun i y hy hi' => ?_⟩
          have := Asc.cmono HA.out HX.out hy hi'
          have := HP.out
          omega
        case measure => simp only [intOf]; omega
      · rw [decide_eq_false hp] at hc
        have HC : Hid _ := hc
        have HP : Hid _ := hp
        have KK : Hid _ := kk
        clear hc hp kk
        go_wp2_with fail
        refine Calls.mono HC.out ?_
        rintro r w1 ⟨rfl, k1⟩
        go_wp2_with fail
        go_roundw
        case rel =>
          refine ⟨(lo + hi) / 2 + 1, hi, by simp only [Value.int.injEq, true_and]; omega, rfl, by omega, by omega, KK.out.trans' k1, fun i y hy hi' => ?_, I2.out⟩
          have := Asc.cmono HA.out hy HX.out (by omega)
          have h9 : ¬ t < x.c := HP.out
          omega
        case measure => simp only [intOf]; omega
    · have d1 : decide ((lo : Int) < (hi : Int)) = false := by simp only [decide_eq_false_iff_not]; omega
      obtain rfl : lo = hi := by omega
      have EQ : Hid _ := HQ.out lo (by rw [← EN.out]; exact hin) I1.out I2.out
      have KK : Hid _ := kk
      clear HQ kk
      go_wp2_with fail
      go_ret
      exact ⟨by rw [show q = lo from EQ.out]; rfl, KK.out⟩
set_option maxRecDepth 100000 in
set_option maxHeartbeats 800000 in
theorem committed_any (a : Option Addr) (l : List Vn) (cap : Nat) (t : Int) (w : World) (hl : VersAt w a l) (hA : Asc l) (hn : l.length < 4611686018427387904) :
    Calls Try.prog 38 #[.slice a l.length cap, .int .i64 t] w fun e w' => e = .returned (.int .i64 (cnt l t)) ∧ Kept w w' := by
  have k1 : Kept w ((w.alloc (.cells #[.slice a l.length cap] 94 (0, 0))).alloc (.cells #[.int .i64 t] 3 (0, 0))) := ((Same.refl _ w).alloc _).alloc _
  have HS : Hid _ := search_any a l cap w.heap.size t _ (hl.on k1) hA (by simp only [World.size_alloc]; omega) ((cell_of ((heap_old _ _ (by rw [World.size_alloc]; exact Nat.lt_succ_self _)).trans (heap_new w _)) 0).trans rfl) ((cell_of (by have := heap_new (w.alloc (.cells #[.slice a l.length cap] 94 (0, 0))) (.cells #[.int .i64 t] 3 (0, 0)); rw [World.size_alloc] at this; exact this) 0).trans rfl) hn
  have K1 : Hid _ := k1
  clear hl hA k1
  generalize cnt l t = q at HS ⊢
  go_enter Try.func38, Try.ntmps38
  go_wp2_with fail
  refine Calls.mono HS.out ?_
  rintro r w1 ⟨rfl, k2⟩
  go_wp2_with fail
  go_ret
  exact ⟨rfl, K1.out.trans' k2⟩
end Go.Proofs.Ytmghmacgljihcaa
