/- What is proved: LogfileOne answers true for every list of bytes. -/
import Derived.Test.YthnhfahkanpjjaaLAnch
namespace Go.Proofs.Ythnhfahkanpjjaa
open Go.RowKit

theorem dec7_own_no {base : Nat} {w : World} {v : Value} {l : List Int} (o : OwnB base w v l) (hby : Byts l) (hb : l.length ≤ 140737488355328) {p : Nat} {z : Int} (h : dec7 l = .error (p, z)) : Calls Try.prog 10 #[v] w fun x w' => x = .returned (.tuple #[.slice none 0 0, .int .i64 (p : Int), .int .i64 z]) ∧ Kept w w' := by
  obtain ⟨a, cap, rfl, hd, -, hn, -, -⟩ := OwnB.bytes o
  exact decode7_bad hd hn hb hby h
theorem dec7_own_ok {base : Nat} {w : World} {v : Value} {l : List Int} (o : OwnB base w v l) (hby : Byts l) (hb : l.length ≤ 140737488355328) {ts : List TxM} (h : dec7 l = .ok ts) : Calls Try.prog 10 #[v] w fun x w' => ∃ v l, l.map TxR.t = ts ∧ x = .returned (.tuple #[v, .int .i64 0, .int .i64 0]) ∧ Lst w.heap.size w' v l ∧ Kept w w' := by
  obtain ⟨a, cap, rfl, hd, -, hn, -, -⟩ := OwnB.bytes o
  exact decode7_good hd hn hb hby h
theorem dec7_fits {l : List Int} (hb : Byts l) {p : Nat} {z : Int} (h : dec7 l = .error (p, z)) : p ≤ l.length ∧ z ≠ 0 := by
  refine ⟨(dec7_ext hb h).1, fun e => ?_⟩
  subst e
  unfold dec7 at h
  have hg : ∀ (k : Nat) (s : Sc), all7 l k s ≠ .error (p, 0) := fun k => by
    induction k with
    | zero => intro s c; cases c
    | succ k ih =>
      intro s c
      rw [all7] at c
      rcases hn : next7 l true s with ⟨o, s'⟩
      rw [hn] at c
      cases o with
      | none =>
        simp only at c
        by_cases h0 : s'.er = 0
        · rw [if_pos h0] at c
          cases c
        · rw [if_neg h0] at c
          simp only [Except.error.injEq, Prod.mk.injEq] at c
          exact h0 c.2
      | some t =>
        simp only at c
        cases ha : all7 l k s' with
        | error e =>
          rw [ha] at c
          cases c
          exact ih s' ha
        | ok r =>
          rw [ha] at c
          cases c
  exact hg _ _ h
/-- Encode of a list of one's own whose transactions are right. -/
theorem enc7_own {base : Nat} {w : World} {v : Value} {l : List TxR} (h : Lst base w v l) (hr : ∀ t ∈ l.map TxR.t, Right t) (hl : l.length ≤ 4096) : Calls Try.prog 13 #[v] w fun x w' => ∃ u, x = .returned (.tuple #[u, .int .i64 0, .int .i64 0]) ∧ OwnB w.heap.size w' u (log7 (l.map TxR.t)) ∧ Kept w w' := by
  obtain ⟨a, cap, rfl, hd, -⟩ := OwnT.txs h.row
  refine Calls.mono (encode7_any (c := cap) hd h.deep (by omega)) ?_
  rintro x w' ⟨k, m⟩
  rw [if_pos (check7_ok.2 ⟨hr, by rw [List.length_map]; exact hl⟩)] at m
  obtain ⟨u, e, o⟩ := m
  exact ⟨u, e, o, k⟩
set_option maxRecDepth 100000 in
set_option maxHeartbeats 1600000 in
theorem lone_err (w : World) (oa : Option Addr) (c : Nat) (l : List Int) (h : ArgB w oa c l) {p : Nat} {z : Int} (he : dec7 l = .error (p, z)) :
    Calls Try.prog 6 #[.slice oa l.length c] w fun e w' => e = .returned (.bool true) ∧ Kept w w' := by
  have hle := h.le
  have HR : Hid (∀ W, Kept w W → _) := fun W (k : Kept w W) => app_lit (c := c) (h.on k).data h.nil (by omega)
  have HD : Hid (∀ base W v, OwnB base W v l → _) := fun base W v (o : OwnB base W v l) => dec7_own_no o h.byts (by omega) he
  obtain ⟨hp, hz⟩ := dec7_fits h.byts he
  have hz' : (z != 0) = true := by simpa using hz
  obtain ⟨n, en⟩ : ∃ n, n = l.length := ⟨_, rfl⟩
  rw [← en] at HR hp hle ⊢
  have d1 : decide (0 ≤ (p : Int)) = true := decide_eq_true (by omega)
  have d2 : decide ((p : Int) ≤ (n : Int)) = true := decide_eq_true (by omega)
  have d2' : (p : Int) ≤ (n : Int) := by omega
  clear h en hz he
  go_enter Try.func6, Try.ntmps6
  go_wp2_with fail
  refine Calls.mono (anchor_any w) ?_
  rintro e w1 ⟨rfl, k1⟩
  have K1 : Hid _ := k1
  clear k1
  go_wp2_with (at_builtin; refine wpList_app rfl (.tmp 12) (.tmp 13) 22 22 rfl _ _ rfl rfl _ (HR.out _ K1.out) ?_; rintro v2 w2 ⟨o2, k2⟩)
  refine Calls.mono (HD.out _ _ _ o2) ?_
  rintro e w3 ⟨rfl, k3⟩
  have K3 : Hid (Kept w w3) := (Same.trans' K1.out k2).trans' k3
  clear o2 k2 k3
  go_wp2_with fail
  go_ret
  exact ⟨rfl, K3.out⟩
set_option maxRecDepth 100000 in
set_option maxHeartbeats 1600000 in
theorem lone_ok (w : World) (oa : Option Addr) (c : Nat) (l : List Int) (h : ArgB w oa c l) {ts : List TxM} (he : dec7 l = .ok ts) :
    Calls Try.prog 6 #[.slice oa l.length c] w fun e w' => e = .returned (.bool true) ∧ Kept w w' := by
  have hle := h.le
  have HR : Hid (∀ W, Kept w W → _) := fun W (k : Kept w W) => app_lit (c := c) (h.on k).data h.nil (by omega)
  have HD : Hid (∀ base W v, OwnB base W v l → _) := fun base W v (o : OwnB base W v l) => dec7_own_ok o h.byts (by omega) he
  obtain ⟨hr, hl, hlog⟩ := dec7_one h.byts he
  have HT : Hid ((∀ t ∈ ts, Right t) ∧ ts.length ≤ 4096 ∧ log7 ts = l) := ⟨hr, hl, hlog⟩
  have HSM : Hid (∀ W a ca cb, Kept w W → BytesAt W a l → _) := fun W a ca cb (k : Kept w W) ha => same_true W a oa ca cb l ha (h.on k).data (by omega)
  obtain ⟨n, en⟩ : ∃ n, n = l.length := ⟨_, rfl⟩
  have EN : Hid _ := en
  rw [← en] at HR HSM hle ⊢
  clear h en he hr hl hlog
  go_enter Try.func6, Try.ntmps6
  go_wp2_with fail
  refine Calls.mono (anchor_any w) ?_
  rintro e w1 ⟨rfl, k1⟩
  have K1 : Hid _ := k1
  clear k1
  go_wp2_with (at_builtin; refine wpList_app rfl (.tmp 12) (.tmp 13) 22 22 rfl _ _ rfl rfl _ (HR.out _ K1.out) ?_; rintro v2 w2 ⟨o2, k2⟩)
  refine Calls.mono (HD.out _ _ _ o2) ?_
  rintro e w3 ⟨v3, l3, e3, rfl, m3, k3⟩
  have K3 : Hid (Kept w w3) := (Same.trans' K1.out k2).trans' k3
  obtain ⟨q1, q2, q3⟩ := HT.out
  have HE : Hid _ := enc7_own m3 (by rw [e3]; exact q1) (by rw [← e3, List.length_map] at q2; exact q2)
  rw [e3, q3] at HE
  obtain ⟨a3, c3, rfl, -⟩ := OwnT.txs m3.row
  clear o2 k2 k3 m3 q1 q2 q3 e3
  go_wp2_with fail
  refine Calls.mono HE.out ?_
  rintro e w4 ⟨v4, rfl, o4, k4⟩
  obtain ⟨a4, c4, rfl, b4, -, -, -, -⟩ := OwnB.bytes o4
  have K4 : Hid (Kept w w4) := K3.out.trans' k4
  have HS4 : Hid _ := HSM.out _ a4 c4 c K4.out b4
  rw [← EN.out]
  clear k4 o4 b4
  go_wp2_with fail
  refine Calls.mono HS4.out ?_
  rintro e w5 ⟨rfl, rfl⟩
  go_wp2_with fail
  go_ret
  exact ⟨rfl, K4.out⟩
end Go.Proofs.Ythnhfahkanpjjaa
