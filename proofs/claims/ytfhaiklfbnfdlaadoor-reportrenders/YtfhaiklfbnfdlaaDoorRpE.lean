/- What is proved: the document's Valid of an outcome; condition: the list's length. -/
import Derived.Test.YtfhaiklfbnfdlaaDoorRpD
namespace Go.Proofs.YtfhaiklfbnfdlaaDoor
open Go.RowKit

set_option maxRecDepth 100000 in
set_option maxHeartbeats 6400000 in
theorem rvalid22_no (w : World) (kd cd off tn tt : Int) (ls : List Vi.Vl) (a : Option Addr) (cap : Nat) (hlen : ls.length ≤ 1172812402961) (h9 : ¬ kd = 9) :
    Calls Tryd.prog 11 #[.agg #[.int .i64 kd, .int .i64 cd, .int .i64 off, .int .i64 tn, .int .i64 tt, .slice a ls.length cap]] w fun e w' => e = .returned (.bool (okO ⟨kd, cd, off, tn, tt, ls⟩)) ∧ Vi.Grw w w' := by
  have HK : Hid (okO ⟨kd, cd, off, tn, tt, ls⟩ = true ↔ OkP kd cd off tn tt ls.length) := by
    refine (okO_P _).trans ⟨fun h => h.1, fun h => ⟨h, ?_⟩⟩
    have : ls = [] := List.eq_nil_of_length_eq_zero (h.2.2.2.2.2.2.2.2 h9).2
    subst this
    exact ⟨rfl, rfl⟩
  generalize okO ⟨kd, cd, off, tn, tt, ls⟩ = R at *
  obtain ⟨n, en⟩ : ∃ n, n = ls.length := ⟨_, rfl⟩
  rw [← en] at HK hlen ⊢
  clear en
  have hni : (n : Int) ≤ 1172812402961 := by omega
  have h9b : (kd != 9) = true := by simpa using h9
  have F : Hid (¬ OkP kd cd off tn tt n → Ending.returned (.bool false) = Ending.returned (Value.bool R)) := fun h => by
    cases hR : R
    · rfl
    · exact (h (HK.out.1 hR)).elim
  have T : Hid (∀ b, (b = true ↔ OkP kd cd off tn tt n) → Ending.returned (.bool b) = Ending.returned (Value.bool R)) := fun b h => by
    have : b = R := by rw [Bool.eq_iff_iff, h, HK.out]
    rw [this]
  have H9 : Hid (¬ kd = 9) := h9
  clear h9
  go_enter Tryd.func11, Tryd.ntmps11
  go_wp2_with fail
  all_goals
    go_ret
    refine ⟨?_, (Vi.Grw.refl _).alloc _⟩
    clear h9b
    have h9 := H9.out
    try simp only [bne_iff_ne, ne_eq, bne_eq_false_iff_eq] at *
    first
    | exact F.out (by unfold OkP; omega)
    | exact T.out _ (by unfold OkP; simp only [beq_iff_eq]; omega)
    | exact T.out _ (by unfold OkP; simp only [decide_eq_true_eq]; omega)
end Go.Proofs.YtfhaiklfbnfdlaaDoor
