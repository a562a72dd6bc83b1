/- What is proved: slices.IndexFunc and slices.ContainsFunc over holes, with the method values inside and meets; the holes lie in memory, their numbers are small. -/
import Derived.Test.YtpjkmficpedmcaaEFun
namespace Go.Proofs.Ytpjkmficpedmcaa
open Go.RowKit

/-- What IndexFunc answers. -/
def Found (p : Ex → Bool) (L : List Ex) (r : Ending) : Prop :=
  (∃ (i : Nat) (e : Ex), r = .returned (.int .i64 i) ∧ L[i]? = some e ∧ p e = true) ∨ (r = .returned (.int .i64 (-1)) ∧ ∀ e ∈ L, p e = false)
theorem none_take {p : Ex → Bool} {L : List Ex} {j : Nat} {e : Ex} (he : L[j]? = some e) (h : ∀ x ∈ L.take j, p x = false) (hp : p e = false) : ∀ x ∈ L.take (j + 1), p x = false := by
  intro x hx
  rw [List.take_add_one, he] at hx
  rcases List.mem_append.1 hx with hx | hx
  · exact h x hx
  · simp at hx
    subst hx
    exact hp

set_option maxRecDepth 100000 in
set_option maxHeartbeats 1600000 in
theorem index_meets (x : Ex) (hx : Sm x) (a : Option Addr) (L : List Ex) (cap : Nat) (w : World) (hL : ExtsAt w a L) (hs : ∀ e ∈ L, Sm e) (hn : L.length ≤ 4096) :
    Calls Try.prog 50 #[.slice a L.length cap, .func (.func 47) #[exV x] #[]] w fun r w' => Found (meetb x) L r ∧ Kept w w' := by
  have HF : Hid (∀ e ∈ L, ∀ w', _) := fun e he w' => meets_any x e hx (hs e he) w'
  obtain ⟨n, en⟩ : ∃ n, n = L.length := ⟨_, rfl⟩
  rw [← en] at hn ⊢
  have EN : Hid _ := en
  have HL : Hid _ := hL
  clear hL hs hx en
  unfold exV at *
  go_enter Try.func50, Try.ntmps50
  go_wp2_with fail
  go_loopw [8] (fun i wr => ∃ j : Nat, j ≤ n ∧ i = .int .i64 j ∧ (∀ e ∈ L.take j, meetb x e = false) ∧ Kept w wr) (fun i _ => n - (intOf i).toNat)
  case atStart => exact ⟨0, Nat.zero_le _, rfl, by simp, Same.refl _ _⟩
  case round =>
    obtain ⟨j, hj, rfl, hno, kk⟩ := hrel
    have HNO : Hid _ := hno
    have KK : Hid _ := kk
    clear hno
    by_cases hlt : j < n
    · have c1 : decide ((j : Int) < (n : Int)) = true := by simp only [decide_eq_true_eq]; omega
      have hlt2 : (j : Int) < (n : Int) := by omega
      obtain ⟨e, he⟩ : ∃ e, L[j]? = some e := ⟨_, List.getElem?_eq_getElem (by rw [← EN.out]; exact hlt)⟩
      obtain ⟨b, off, rfl, hb, q0, q1⟩ := (ExtsAt.kept HL.out kk (fun _ _ h => h)) j e he
      have HE : Hid _ := he
      have HC : Hid (∀ w', _) := HF.out e (List.mem_of_getElem? he)
      clear he kk
      generalize hpe : meetb x e = pe at HC
      have HP : Hid _ := hpe
      clear hpe
      cases pe with
      | true =>
        go_wp2_with fail
        refine Calls.mono (HC.out _) ?_
        rintro r w1 ⟨rfl, k1⟩
        go_wp2_with fail
        go_ret
        exact ⟨.inl ⟨j, e, rfl, HE.out, HP.out⟩, KK.out.trans' k1⟩
      | false =>
        go_wp2_with fail
        refine Calls.mono (HC.out _) ?_
        rintro r w1 ⟨rfl, k1⟩
        go_wp2_with fail
        go_roundw
        case rel => exact ⟨j + 1, by omega, by simp, none_take HE.out HNO.out HP.out, KK.out.trans' k1⟩
        case measure => simp only [intOf]; omega
    · have c1 : decide ((j : Int) < (n : Int)) = false := by simp only [decide_eq_false_iff_not]; omega
      obtain rfl : j = n := by omega
      clear kk
      go_wp2_with fail
      go_ret
      refine ⟨.inr ⟨rfl, ?_⟩, KK.out⟩
      have := HNO.out
      rw [EN.out, List.take_length] at this
      exact this

set_option maxRecDepth 100000 in
theorem contains_any (x : Ex) (hx : Sm x) (a : Option Addr) (L : List Ex) (cap : Nat) (w : World) (hL : ExtsAt w a L) (hs : ∀ e ∈ L, Sm e) (hn : L.length ≤ 4096) :
    Calls Try.prog 46 #[.slice a L.length cap, .func (.func 47) #[exV x] #[]] w fun r w' => ((r = .returned (.bool true) ∧ ∃ e ∈ L, meetb x e = true) ∨ (r = .returned (.bool false) ∧ ∀ e ∈ L, meetb x e = false)) ∧ Kept w w' := by
  have HC : Hid _ := index_meets x hx a L cap w hL hs hn
  clear hL hs hn hx
  unfold exV at *
  go_enter Try.func46, Try.ntmps46
  go_wp2_with fail
  refine Calls.mono HC.out ?_
  rintro r w1 ⟨⟨i, e, rfl, h1, h2⟩ | ⟨rfl, h1⟩, k1⟩
  · have hi : (0 : Int) ≤ (i : Int) := by omega
    have hi' : decide ((0 : Int) ≤ (i : Int)) = true := decide_eq_true hi
    have H1 : Hid _ := h1
    have H2 : Hid _ := h2
    have K1 : Hid _ := k1
    clear h1 h2 k1
    go_wp2_with fail
    go_ret
    exact ⟨.inl ⟨by simp, e, List.mem_of_getElem? H1.out, H2.out⟩, K1.out⟩
  · have H1 : Hid _ := h1
    have K1 : Hid _ := k1
    clear h1 k1
    go_wp2_with fail
    go_ret
    exact ⟨.inr ⟨by simp, H1.out⟩, K1.out⟩
end Go.Proofs.Ytpjkmficpedmcaa
