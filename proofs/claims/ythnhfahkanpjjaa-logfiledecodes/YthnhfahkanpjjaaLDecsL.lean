/- What is proved: LogfileDecodes answers true for every list of bytes. -/
import Derived.Test.YthnhfahkanpjjaaLRd
import Derived.Test.YthnhfahkanpjjaaLOneL
import Derived.Test.YthnhfahkanpjjaaLSame
namespace Go.Proofs.Ythnhfahkanpjjaa
open Go.RowKit

/-- A copy of an argument is an argument. -/
theorem own_arg {base : Nat} {w W : World} {oa : Option Addr} {c : Nat} {v : Value} {l : List Int} (h : ArgB w oa c l) (o : OwnB base W v l) : ∃ a cap, v = .slice a l.length cap ∧ ArgB W a cap l := by
  obtain ⟨a, cap, rfl, hd, hc, hn, -, -⟩ := OwnB.bytes o
  exact ⟨a, cap, rfl, hd, hn, hc, h.byts, h.len⟩
set_option maxRecDepth 100000 in
set_option maxHeartbeats 1600000 in
theorem ldecs_err (w : World) (oa : Option Addr) (c : Nat) (l : List Int) (h : ArgB w oa c l) {p : Nat} {z : Int} (he : dec7 l = .error (p, z)) :
    Calls Try.prog 3 #[.slice oa l.length c] w fun e w' => e = .returned (.bool true) ∧ Kept w w' := by
  have hle := h.le
  have HR : Hid (∀ W, Kept w W → _) := fun W (k : Kept w W) => app_lit (c := c) (h.on k).data h.nil (by omega)
  have HD : Hid (∀ base W v, OwnB base W v l → _) := fun base W v (o : OwnB base W v l) => dec7_own_no o h.byts (by omega) he
  have HRD : Hid (∀ base W v, OwnB base W v l → Calls Try.prog 11 #[v] W fun e w' => e = .returned (.tuple #[.slice none 0 0, .int .i64 (p : Int), .int .i64 z]) ∧ Kept W w') := fun base W v (o : OwnB base W v l) => by
    obtain ⟨a, cap, rfl, ha⟩ := own_arg h o
    refine Calls.mono (refDec7_any ha) ?_
    rintro e w' ⟨k', m⟩
    rw [he] at m
    exact ⟨m, k'⟩
  have HS : Hid (∀ W, Calls Try.prog 12 #[.slice none 0 0, .slice none 0 0] W fun e w' => e = .returned (.bool true) ∧ Kept W w') := fun W => sameL W none none 0 0 [] [] (TxsAt.nil W none) (TxsAt.nil W none) (fun r h => by cases h) (fun r h => by cases h) rfl (by decide) (fun t h => by cases h)
  obtain ⟨n, en⟩ : ∃ n, n = l.length := ⟨_, rfl⟩
  rw [← en] at HR ⊢
  have hzz : (z == z) = true := by simp
  have hpp : ((p : Int) == (p : Int)) = true := by simp
  clear h en he hle
  go_enter Try.func3, Try.ntmps3
  go_wp2_with fail
  refine Calls.mono (anchor_any w) ?_
  rintro e w1 ⟨rfl, k1⟩
  have K1 : Hid _ := k1
  clear k1
  go_wp2_with (at_builtin; refine wpList_app rfl (.tmp 12) (.tmp 13) 22 22 rfl _ _ rfl rfl _ (HR.out _ K1.out) ?_; rintro v2 w2 ⟨o2, k2⟩)
  refine Calls.mono (HD.out _ _ _ o2) ?_
  rintro e w3 ⟨rfl, k3⟩
  have K3 : Hid (Kept w w3) := (Same.trans' K1.out k2).trans' k3
  clear o2 k2 k3
  go_wp2_with (at_builtin; refine wpList_app rfl (.tmp 20) (.tmp 21) 22 22 rfl _ _ rfl rfl _ (HR.out _ K3.out) ?_; rintro v4 w4 ⟨o4, k4⟩)
  refine Calls.mono (HRD.out _ _ _ o4) ?_
  rintro e w5 ⟨rfl, k5⟩
  have K5 : Hid (Kept w w5) := (Same.trans' K3.out k4).trans' k5
  clear o4 k4 k5
  go_wp2_with fail
  refine Calls.mono (HS.out _) ?_
  rintro e w6 ⟨rfl, k6⟩
  have K6 : Hid (Kept w w6) := K5.out.trans' k6
  clear k6
  go_wp2_with fail
  go_ret
  exact ⟨rfl, K6.out⟩
set_option maxRecDepth 100000 in
set_option maxHeartbeats 1600000 in
theorem ldecs_ok (w : World) (oa : Option Addr) (c : Nat) (l : List Int) (h : ArgB w oa c l) {ts : List TxM} (he : dec7 l = .ok ts) :
    Calls Try.prog 3 #[.slice oa l.length c] w fun e w' => e = .returned (.bool true) ∧ Kept w w' := by
  have hle := h.le
  have HR : Hid (∀ W, Kept w W → _) := fun W (k : Kept w W) => app_lit (c := c) (h.on k).data h.nil (by omega)
  have HD : Hid (∀ base W v, OwnB base W v l → _) := fun base W v (o : OwnB base W v l) => dec7_own_ok o h.byts (by omega) he
  have HRD : Hid (∀ base W v, OwnB base W v l → Calls Try.prog 11 #[v] W fun e w' => ∃ v l, l.map TxR.t = ts ∧ e = .returned (.tuple #[v, .int .i64 0, .int .i64 0]) ∧ Lst W.heap.size w' v l ∧ Kept W w') := fun base W v (o : OwnB base W v l) => by
    obtain ⟨a, cap, rfl, ha⟩ := own_arg h o
    refine Calls.mono (refDec7_any ha) ?_
    rintro e w' ⟨k', m⟩
    rw [he] at m
    obtain ⟨v, x, e1, e2, e3⟩ := m
    exact ⟨v, x, e1, e2, e3, k'⟩
  obtain ⟨hr, hl4, -⟩ := dec7_one h.byts he
  have HS : Hid (∀ W b1 b2 v1 v2 x1 x2, Lst b1 W v1 x1 → Lst b2 W v2 x2 → x1.map TxR.t = ts → x2.map TxR.t = ts → Calls Try.prog 12 #[v1, v2] W fun e w' => e = .returned (.bool true) ∧ Kept W w') := fun W b1 b2 v1 v2 x1 x2 h1 h2 e1 e2 => by
    obtain ⟨a1, c1, rfl, d1, -⟩ := OwnT.txs h1.row
    obtain ⟨a2, c2, rfl, d2, -⟩ := OwnT.txs h2.row
    have hx : x1.length = ts.length := by rw [← e1, List.length_map]
    exact sameL W a1 a2 c1 c2 x1 x2 d1 d2 h1.deep h2.deep (e1.trans e2.symm) (by omega) (fun t ht => by rw [e1] at ht; have := (hr t ht).2.1; omega)
  obtain ⟨n, en⟩ : ∃ n, n = l.length := ⟨_, rfl⟩
  rw [← en] at HR ⊢
  clear h en he hle hr hl4
  go_enter Try.func3, Try.ntmps3
  go_wp2_with fail
  refine Calls.mono (anchor_any w) ?_
  rintro e w1 ⟨rfl, k1⟩
  have K1 : Hid _ := k1
  clear k1
  go_wp2_with (at_builtin; refine wpList_app rfl (.tmp 12) (.tmp 13) 22 22 rfl _ _ rfl rfl _ (HR.out _ K1.out) ?_; rintro v2 w2 ⟨o2, k2⟩)
  refine Calls.mono (HD.out _ _ _ o2) ?_
  rintro e w3 ⟨v3, x3, e3, rfl, l3, k3⟩
  have K3 : Hid (Kept w w3) := (Same.trans' K1.out k2).trans' k3
  have L3 : Hid _ := l3
  have E3 : Hid _ := e3
  clear o2 k2 k3 l3 e3
  go_wp2_with (at_builtin; refine wpList_app rfl (.tmp 20) (.tmp 21) 22 22 rfl _ _ rfl rfl _ (HR.out _ K3.out) ?_; rintro v4 w4 ⟨o4, k4⟩)
  refine Calls.mono (HRD.out _ _ _ o4) ?_
  rintro e w5 ⟨v5, x5, e5, rfl, l5, k5⟩
  have K5 : Hid (Kept w w5) := (Same.trans' K3.out k4).trans' k5
  have HSS : Hid _ := HS.out _ _ _ _ _ _ _ (L3.out.on (k4.trans' k5)) l5 E3.out e5
  clear o4 k4 k5 l5 e5
  go_wp2_with fail
  refine Calls.mono HSS.out ?_
  rintro e w6 ⟨rfl, k6⟩
  have K6 : Hid (Kept w w6) := K5.out.trans' k6
  clear k6
  go_wp2_with fail
  go_ret
  exact ⟨rfl, K6.out⟩
end Go.Proofs.Ythnhfahkanpjjaa
