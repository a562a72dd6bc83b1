/- What is proved: the document's space: its greatest hole, Alloc, Take, Free and New; the space is small. -/
import Derived.Test.YtfllilgadphlcaaERefB
namespace Go.Proofs.Ytfllilgadphlcaa
open Go.RowKit

set_option maxRecDepth 100000 in
set_option maxHeartbeats 1600000 in
theorem rlargest_any {w : World} {q g N : Nat} {U : Nat → Bool} {L : List Ex} (h : RS w q g N U) (hN : N ≤ 4096) (hw : WF 0 N L) (hag : Ag U N L) : Calls Try.prog 20 #[.pointer (some ⟨q, 0, none⟩)] w fun e w' => e = .returned (.int .i64 (big L)) ∧ Kept w w' := by
  have HH : Hid _ := rholes_any h hN hw hag
  have HB : Hid _ := bigO_eq hw
  have hn := hw.len hN
  clear h hw hag
  go_enter Try.func20, Try.ntmps20
  go_wp2_with fail
  refine Calls.mono HH.out ?_
  rintro e w1 ⟨a, c, rfl, hE, -, k1⟩
  have HE : Hid _ := hE
  have K1 : Hid _ := k1
  obtain ⟨n, en⟩ : ∃ n, n = L.length := ⟨_, rfl⟩
  rw [← en] at hn ⊢
  have EN : Hid _ := en
  clear hE k1 en
  go_wp2_with fail
  go_loopw [3, 5] (fun s i wr => ∃ j : Nat, j ≤ n ∧ i = .int .i64 j ∧ s = .int .i64 (bigO (L.take j)) ∧ Kept w1 wr) (fun _ i _ => n - (intOf i).toNat)
  case atStart => exact ⟨0, Nat.zero_le _, rfl, rfl, Same.refl _ _⟩
  case round =>
    obtain ⟨j, hj, rfl, rfl, kk⟩ := hrel
    have KK : Hid _ := kk
    by_cases hlt : j < n
    · have c1' : decide ((j : Int) < (n : Int)) = true := by simp only [decide_eq_true_eq]; omega
      have hlt2 : (j : Int) < (n : Int) := by omega
      obtain ⟨e, he⟩ : ∃ e, L[j]? = some e := ⟨_, List.getElem?_eq_getElem (by rw [← EN.out]; exact hlt)⟩
      obtain ⟨b, off, rfl, hb, q0, q1⟩ := (ExtsAt.kept HE.out kk (fun _ _ h => h)) j e he
      have HS : Hid _ := bigO_take he
      obtain ⟨S, eS⟩ : ∃ S, S = bigO (L.take j) := ⟨_, rfl⟩
      rw [← eS] at HS ⊢
      clear kk he eS
      by_cases hbg : S < e.c
      · have hbg' : decide (S < e.c) = true := decide_eq_true hbg
        go_wp2_with fail
        go_roundw
        case rel => exact ⟨j + 1, by omega, by simp, by rw [HS.out]; congr 1; omega, KK.out⟩
        case measure => simp only [intOf]; omega
      · have hbg' : decide (S < e.c) = false := decide_eq_false hbg
        go_wp2_with fail
        go_roundw
        case rel => exact ⟨j + 1, by omega, by simp, by rw [HS.out]; congr 1; omega, KK.out⟩
        case measure => simp only [intOf]; omega
    · have c1' : decide ((j : Int) < (n : Int)) = false := by simp only [decide_eq_false_iff_not]; omega
      obtain rfl : j = n := by omega
      clear kk
      have EE : Hid (bigO (L.take j) = big L) := by rw [EN.out, List.take_length]; exact HB.out
      go_wp2_with fail
      go_ret
      exact ⟨by rw [← EE.out]; rfl, K1.out.trans' KK.out⟩

/-- What the document's Alloc answers and leaves. -/
def RAlloc (w : World) (q g N : Nat) (U : Nat → Bool) (L : List Ex) (count : Int) (r : Ending) (w' : World) : Prop :=
  ∃ (f : Nat) (e : Int) (V : Nat → Bool), r = .returned (.tuple #[.int .i64 f, .int .i64 e]) ∧ RS w' q g N V ∧ Same (fun k => k = g) w w' ∧
    ((count < 1 ∧ e = 41 ∧ f = 0 ∧ V = U) ∨ (1 ≤ count ∧ (∀ e ∈ L, e.c < count) ∧ e = 42 ∧ f = 0 ∧ V = U) ∨ (1 ≤ count ∧ First L count f ∧ e = 0 ∧ V = mk U f count.toNat true))
set_option maxRecDepth 100000 in
set_option maxHeartbeats 1600000 in
theorem ralloc_any {w : World} {q g N : Nat} {U : Nat → Bool} {L : List Ex} (h : RS w q g N U) (hN : N ≤ 4096) (hw : WF 0 N L) (hag : Ag U N L) (count : Int) : Calls Try.prog 21 #[.pointer (some ⟨q, 0, none⟩), .int .i64 count] w fun r w' => RAlloc w q g N U L count r w' := by
  by_cases h1 : count < 1
  · have h1' : decide (count < 1) = true := decide_eq_true h1
    have HR : Hid _ := h
    clear h hw hag
    go_enter Try.func21, Try.ntmps21
    go_wp2_with fail
    go_ret2
    exact ⟨0, 41, U, rfl, HR.out, Same.refl _ _, .inl ⟨h1, rfl, rfl, rfl⟩⟩
  · have h1' : decide (count < 1) = false := decide_eq_false h1
    obtain ⟨cn, rfl⟩ := Int.eq_ofNat_of_zero_le (show 0 ≤ count by omega)
    have HR : Hid _ := h
    have HH : Hid _ := rholes_any h hN hw hag
    have HW : Hid _ := hw
    have hn := hw.len hN
    clear h hw hag
    go_enter Try.func21, Try.ntmps21
    go_wp2_with fail
    refine Calls.mono HH.out ?_
    rintro e w1 ⟨a, c, rfl, hE, hge, k1⟩
    have HE : Hid _ := hE
    have K1 : Hid _ := k1
    have HGE : Hid _ := hge
    obtain ⟨n, en⟩ : ∃ n, n = L.length := ⟨_, rfl⟩
    rw [← en] at hn ⊢
    have EN : Hid _ := en
    clear hE k1 en hge
    go_wp2_with fail
    go_loopw [7] (fun i wr => ∃ j : Nat, j ≤ n ∧ i = .int .i64 j ∧ (∀ e ∈ L.take j, e.c < (cn : Int)) ∧ Kept w1 wr) (fun i _ => n - (intOf i).toNat)
    case atStart => exact ⟨0, Nat.zero_le _, rfl, fun e he => by simp at he, Same.refl _ _⟩
    case round =>
      obtain ⟨j, hj, rfl, hall, kk⟩ := hrel
      have KK : Hid _ := kk
      have HAL : Hid _ := hall
      by_cases hlt : j < n
      · have c1' : decide ((j : Int) < (n : Int)) = true := by simp only [decide_eq_true_eq]; omega
        have hlt2 : (j : Int) < (n : Int) := by omega
        obtain ⟨e, he⟩ : ∃ e, L[j]? = some e := ⟨_, List.getElem?_eq_getElem (by rw [← EN.out]; exact hlt)⟩
        obtain ⟨b, off, rfl, hb, q0, q1⟩ := (ExtsAt.kept HE.out kk (fun _ _ h => h)) j e he
        have HEJ : Hid _ := he
        obtain ⟨m1, m2, m3⟩ := HW.out.mem (List.mem_of_getElem? he)
        by_cases hbg : (cn : Int) ≤ e.c
        · have hbg' : decide ((cn : Int) ≤ e.c) = true := decide_eq_true hbg
          obtain ⟨ef, hef⟩ := Int.eq_ofNat_of_zero_le m1
          have HM : Hid _ := rmark_any (RS.on (RS.on HR.out K1.out) kk) hN ef cn true (by omega)
          have HE1 : Hid (∀ W, Same (fun k => k = g) wr W → ExtsAt W (some ⟨b, off, none⟩) L) := fun W k => ExtsAt.kept (ExtsAt.kept HE.out kk (fun _ _ h => h)) k fun x hx e => by have := HGE.out x hx; have := (HR.out).row.lt; omega
          rw [hef] at q0
          have HEF : Hid _ := hef
          clear kk he hall hef
          go_wp2_with fail
          refine Calls.mono HM.out ?_
          rintro r w2 ⟨rfl, hr2, k2⟩
          obtain ⟨b', off', e1, hb', q0', q1'⟩ := HE1.out _ k2 j e HEJ.out
          cases e1
          rw [HEF.out] at q0'
          have HR2 : Hid _ := hr2
          have K2 : Hid _ := k2
          clear hr2 k2
          go_wp2_with fail
          go_ret2
          exact ⟨ef, 0, _, rfl, HR2.out, (Kept.to (K1.out.trans' KK.out) _).trans' K2.out, .inr (.inr ⟨by omega, ⟨j, e, HEJ.out, HAL.out, hbg, HEF.out.symm⟩, rfl, by simp⟩)⟩
        · have hbg' : decide ((cn : Int) ≤ e.c) = false := decide_eq_false hbg
          clear kk he hall
          go_wp2_with fail
          go_roundw
          case rel =>
            refine ⟨j + 1, by omega, by simp, fun x hx => ?_, KK.out⟩
            rw [List.take_add_one, HEJ.out] at hx
            rcases List.mem_append.1 hx with hx | hx
            · exact HAL.out x hx
            · simp at hx
              subst hx
              omega
          case measure => simp only [intOf]; omega
      · have c1' : decide ((j : Int) < (n : Int)) = false := by simp only [decide_eq_false_iff_not]; omega
        obtain rfl : j = n := by omega
        have HA2 : Hid (∀ e ∈ L, e.c < (cn : Int)) := by rw [EN.out, List.take_length] at hall; exact hall
        clear kk hall
        go_wp2_with fail
        go_ret2
        exact ⟨0, 42, U, rfl, RS.on (RS.on HR.out K1.out) KK.out, Kept.to (K1.out.trans' KK.out) _, .inr (.inl ⟨by omega, HA2.out, rfl, rfl, rfl⟩)⟩

def RTake (w : World) (q g N : Nat) (U : Nat → Bool) (x : Ex) (r : Ending) (w' : World) : Prop :=
  ∃ (e : Int) (V : Nat → Bool), r = .returned (.int .i64 e) ∧ RS w' q g N V ∧ Same (fun k => k = g) w w' ∧
    ((¬ Has N x ∧ e = 43 ∧ V = U) ∨ (Has N x ∧ ¬ (∀ i, x.f.toNat ≤ i → i < x.f.toNat + x.c.toNat → U i = false) ∧ e = 45 ∧ V = U) ∨ (Has N x ∧ (∀ i, x.f.toNat ≤ i → i < x.f.toNat + x.c.toNat → U i = false) ∧ e = 0 ∧ V = mk U x.f.toNat x.c.toNat true))
def RFree (w : World) (q g N : Nat) (U : Nat → Bool) (x : Ex) (r : Ending) (w' : World) : Prop :=
  ∃ (e : Int) (V : Nat → Bool), r = .returned (.int .i64 e) ∧ RS w' q g N V ∧ Same (fun k => k = g) w w' ∧
    ((¬ Has N x ∧ e = 43 ∧ V = U) ∨ (Has N x ∧ ¬ (∀ i, x.f.toNat ≤ i → i < x.f.toNat + x.c.toNat → U i = true) ∧ e = 44 ∧ V = U) ∨ (Has N x ∧ (∀ i, x.f.toNat ≤ i → i < x.f.toNat + x.c.toNat → U i = true) ∧ e = 0 ∧ V = mk U x.f.toNat x.c.toNat false))

set_option maxRecDepth 100000 in
set_option maxHeartbeats 1600000 in
theorem rtake_any {w : World} {q g N : Nat} {U : Nat → Bool} (h : RS w q g N U) (hN : N ≤ 4096) (x : Ex) : Calls Try.prog 22 #[.pointer (some ⟨q, 0, none⟩), .int .i64 x.f, .int .i64 x.c] w fun r w' => RTake w q g N U x r w' := by
  have hnot : ∀ (x : Bool) (w : World), (Op.unary .not (.bool x)).run Try.prog w = .ok (.bool (!x)) w := fun _ _ => rfl
  have HI : Hid _ := rinside_any h hN x.f x.c
  have HR : Hid _ := h
  by_cases hh : Has N x
  · have hh' : decide (Has N ⟨x.f, x.c⟩) = true := decide_eq_true hh
    rw [hh'] at HI
    have HH : Hid _ := hh
    obtain ⟨f, c⟩ := x
    obtain ⟨h1, h2, h3⟩ := hh
    simp only at h1 h2 h3
    obtain ⟨f, rfl⟩ := Int.eq_ofNat_of_zero_le h2
    obtain ⟨c, rfl⟩ := Int.eq_ofNat_of_zero_le (show 0 ≤ c by omega)
    have hfc : f + c ≤ N := by omega
    have HA : Hid (∀ W, Kept w W → _) := fun W (k : Kept w W) => rall_any (h.on k) hN f c false hfc
    have HM : Hid (∀ W, Kept w W → _) := fun W (k : Kept w W) => rmark_any (h.on k) hN f c true hfc
    clear h hh' h1 h2 h3
    go_enter Try.func22, Try.ntmps22
    go_wp2_with fail
    refine Calls.mono HI.out ?_
    rintro e w1 ⟨rfl, k1⟩
    go_wp2_with fail
    refine Calls.mono (HA.out _ k1) ?_
    rintro e w2 ⟨r, rfl, hr, k2⟩
    have K2 : Hid (Kept w w2) := k1.trans' k2
    have HRA : Hid _ := hr
    clear k1 k2 hr
    cases r with
    | true =>
      go_wp2_with fail
      refine Calls.mono (HM.out _ K2.out) ?_
      rintro e w3 ⟨rfl, hr3, k3⟩
      have HR3 : Hid _ := hr3
      have K3 : Hid _ := k3
      clear hr3 k3
      go_wp2_with fail
      go_ret
      exact ⟨0, _, rfl, HR3.out, (K2.out.to _).trans' K3.out, .inr (.inr ⟨HH.out, (by have h := HRA.out; simpa using h), rfl, by simp⟩)⟩
    | false =>
      go_wp2_with fail
      go_ret
      exact ⟨45, _, rfl, RS.on HR.out K2.out, K2.out.to _, .inr (.inl ⟨HH.out, (by have h := HRA.out; simpa using h), rfl, rfl⟩)⟩
  · have hh' : decide (Has N ⟨x.f, x.c⟩) = false := decide_eq_false hh
    rw [hh'] at HI
    have HH : Hid _ := hh
    clear h hh hh'
    go_enter Try.func22, Try.ntmps22
    go_wp2_with fail
    refine Calls.mono HI.out ?_
    rintro e w1 ⟨rfl, k1⟩
    go_wp2_with fail
    go_ret
    exact ⟨43, _, rfl, RS.on HR.out k1, k1.to _, .inl ⟨HH.out, rfl, rfl⟩⟩

set_option maxRecDepth 100000 in
set_option maxHeartbeats 1600000 in
theorem rfree_any {w : World} {q g N : Nat} {U : Nat → Bool} (h : RS w q g N U) (hN : N ≤ 4096) (x : Ex) : Calls Try.prog 23 #[.pointer (some ⟨q, 0, none⟩), .int .i64 x.f, .int .i64 x.c] w fun r w' => RFree w q g N U x r w' := by
  have hnot : ∀ (x : Bool) (w : World), (Op.unary .not (.bool x)).run Try.prog w = .ok (.bool (!x)) w := fun _ _ => rfl
  have HI : Hid _ := rinside_any h hN x.f x.c
  have HR : Hid _ := h
  by_cases hh : Has N x
  · have hh' : decide (Has N ⟨x.f, x.c⟩) = true := decide_eq_true hh
    rw [hh'] at HI
    have HH : Hid _ := hh
    obtain ⟨f, c⟩ := x
    obtain ⟨h1, h2, h3⟩ := hh
    simp only at h1 h2 h3
    obtain ⟨f, rfl⟩ := Int.eq_ofNat_of_zero_le h2
    obtain ⟨c, rfl⟩ := Int.eq_ofNat_of_zero_le (show 0 ≤ c by omega)
    have hfc : f + c ≤ N := by omega
    have HA : Hid (∀ W, Kept w W → _) := fun W (k : Kept w W) => rall_any (h.on k) hN f c true hfc
    have HM : Hid (∀ W, Kept w W → _) := fun W (k : Kept w W) => rmark_any (h.on k) hN f c false hfc
    clear h hh' h1 h2 h3
    go_enter Try.func23, Try.ntmps23
    go_wp2_with fail
    refine Calls.mono HI.out ?_
    rintro e w1 ⟨rfl, k1⟩
    go_wp2_with fail
    refine Calls.mono (HA.out _ k1) ?_
    rintro e w2 ⟨r, rfl, hr, k2⟩
    have K2 : Hid (Kept w w2) := k1.trans' k2
    have HRA : Hid _ := hr
    clear k1 k2 hr
    cases r with
    | true =>
      go_wp2_with fail
      refine Calls.mono (HM.out _ K2.out) ?_
      rintro e w3 ⟨rfl, hr3, k3⟩
      have HR3 : Hid _ := hr3
      have K3 : Hid _ := k3
      clear hr3 k3
      go_wp2_with fail
      go_ret
      exact ⟨0, _, rfl, HR3.out, (K2.out.to _).trans' K3.out, .inr (.inr ⟨HH.out, (by have h := HRA.out; simpa using h), rfl, by simp⟩)⟩
    | false =>
      go_wp2_with fail
      go_ret
      exact ⟨44, _, rfl, RS.on HR.out K2.out, K2.out.to _, .inr (.inl ⟨HH.out, (by have h := HRA.out; simpa using h), rfl, rfl⟩)⟩
  · have hh' : decide (Has N ⟨x.f, x.c⟩) = false := decide_eq_false hh
    rw [hh'] at HI
    have HH : Hid _ := hh
    clear h hh hh'
    go_enter Try.func23, Try.ntmps23
    go_wp2_with fail
    refine Calls.mono HI.out ?_
    rintro e w1 ⟨rfl, k1⟩
    go_wp2_with fail
    go_ret
    exact ⟨43, _, rfl, RS.on HR.out k1, k1.to _, .inl ⟨HH.out, rfl, rfl⟩⟩

set_option maxRecDepth 100000 in
theorem rnew_no (N : Int) (hN : N < 0 ∨ 4096 < N) (w : World) : Calls Try.prog 11 #[.int .i64 N] w fun e w' => e = .returned (.tuple #[.pointer none, .int .i64 40]) ∧ w' = w := by
  by_cases h1 : N < 0
  · have h1' : decide (N < 0) = true := decide_eq_true h1
    clear hN
    go_enter Try.func11, Try.ntmps11
    go_wp2_with fail
    go_ret2
    exact ⟨rfl, rfl⟩
  · have h1' : decide (N < 0) = false := decide_eq_false h1
    have h2 : 4096 < N := by omega
    have h2' : decide (4096 < N) = true := decide_eq_true h2
    clear hN
    go_enter Try.func11, Try.ntmps11
    go_wp2_with fail
    go_ret2
    exact ⟨rfl, rfl⟩
set_option maxRecDepth 100000 in
theorem rnew_yes (N : Nat) (hN : N ≤ 4096) (w : World) : Calls Try.prog 11 #[.int .i64 (N : Int)] w fun e w' => ∃ q g, e = .returned (.tuple #[.pointer (some ⟨q, 0, none⟩), .int .i64 0]) ∧ RS w' q g N (fun _ => false) ∧ w.heap.size ≤ q ∧ w.heap.size ≤ g ∧ Kept w w' := by
  have h1' : decide ((N : Int) < 0) = false := decide_eq_false (by omega)
  have h2' : decide (4096 < (N : Int)) = false := decide_eq_false (by omega)
  have hmk : ∀ W, (Instr.makeSlice 51 (.int .i64 (N : Int)) (.int .i64 (N : Int))).run Try.prog W = .ok (.slice (some ⟨W.heap.size, 0, none⟩) N N) (W.alloc (.cells (madeCells #[.bool false] N) 4)) := fun W =>
    run_make_row' (P := Try.prog) 51 4 (.bool false) 1 Try.underlying51 Try.infoBool rfl .i64 .i64 N (by omega) (by omega) W
  go_enter Try.func11, Try.ntmps11
  go_wp2_with fail
  go_ret2
  refine ⟨_, _, rfl, ⟨(by have := heap_new (w.alloc (.cells (madeCells #[.bool false] N) 4)) (.cells #[.slice (some ⟨w.heap.size, 0, none⟩) N N] 53); rwa [World.size_alloc] at this), (World.rowIs_made w (.bool false) N 4).alloc _, by simp⟩, by simp, Nat.le_refl _, ((Same.refl _ w).alloc _).alloc _⟩
end Go.Proofs.Ytfllilgadphlcaa
