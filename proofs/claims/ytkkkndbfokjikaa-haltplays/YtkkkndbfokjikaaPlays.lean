/- What is proved: HaltPlays returns true whatever its arguments, and leaves all that was there as it was; the script's cells lie in memory. -/
import Derived.Test.YtkkkndbfokjikaaPlay
namespace Go.Proofs.Ytkkkndbfokjikaa.haltPlays
open Go.RowKit Go.Conc

theorem play_any (b : Int) (sa : Option Addr) (len cap : Nat) (K A N : Nat → Int) (w : World) (hlen : len ≤ maxLen) (hc : Script w sa len K A N) :
    Calls Try.prog 10 #[.int .i64 b, .slice sa len cap] w fun e w' => e = .returned (.bool true) ∧ Below w.heap.size w w' := by
  by_cases h : 0 ≤ b ∧ b ≤ 1099511627776
  · exact play_yes b sa len cap K A N w h.1 h.2 hlen hc
  · exact play_no b _ w (by omega)

set_option maxRecDepth 100000 in
set_option maxHeartbeats 800000 in
theorem walk (b : Int) (sa : Option Addr) (len cap : Nat) (K A N : Nat → Int) (w : World) (hlen : len ≤ maxLen) (hc : Script w sa len K A N) :
    Calls Try.prog 3 #[.int .i64 b, .slice sa len cap] w fun e w' => e = .returned (.bool true) ∧ Below w.heap.size w w' := by
  go_enter Try.func3, Try.ntmps3
  go_wp2_with fail
  refine (anchor_true w).mono ?_
  rintro e w1 ⟨rfl, s1⟩
  have b1 := s1.below (B := w.heap.size) (Nat.le_refl _) fun _ h => h.elim
  go_wp2_with fail
  refine (play_any b sa len cap K A N w1 hlen (script_kept hc b1)).mono ?_
  rintro e w2 ⟨rfl, b2⟩
  go_wp2_with fail
  go_ret
  exact ⟨rfl, b1.trans (b2.mono s1.size)⟩
end Go.Proofs.Ytkkkndbfokjikaa.haltPlays
