/- What is proved: RecordPlace answers true for all lists of bytes. -/
import Derived.Test.YtcmoejnljhmflaaRArg
namespace Go.Proofs.Ytcmoejnljhmflaa
open Go.RowKit

/-- How many bytes an item takes at most. -/
def wid : Item → Nat
  | .nm _ => 8
  | .tg => 1
  | .tx _ hi => 8 + hi
theorem rd_wid {I : Item} {r : List Int} {x : Nat × List Int} {n : Nat} (hr : Byts r) (h : rd I r = .ok (x, n)) : n ≤ wid I := by
  cases I with
  | nm most =>
    simp only [rd] at h
    by_cases h0 : (num 8 r).2.2 = 0
    · rw [if_neg (by simpa using h0)] at h
      by_cases h1 : most < (num 8 r).1
      · rw [if_pos h1] at h
        cases h
      · rw [if_neg h1] at h
        simp only [Except.ok.injEq, Prod.mk.injEq] at h
        rw [← h.2]
        exact (num_one (by decide) hr h0).2.2.2.1
    · rw [if_pos h0] at h
      cases h
  | tg =>
    cases r with
    | nil => cases h
    | cons y r =>
      simp only [rd] at h
      by_cases h1 : 1 ≤ y ∧ y ≤ 4
      · rw [if_pos h1] at h
        simp only [Except.ok.injEq, Prod.mk.injEq] at h
        rw [← h.2]
        exact Nat.le_refl _
      · rw [if_neg h1] at h
        cases h
  | tx lo hi =>
    simp only [rd] at h
    by_cases h0 : (num 8 r).2.2 = 0
    · rw [if_neg (by simpa using h0)] at h
      by_cases h1 : (num 8 r).1 < lo ∨ hi < (num 8 r).1
      · rw [if_pos h1] at h
        cases h
      · rw [if_neg h1] at h
        by_cases h2 : r.length < (num 8 r).2.1 + (num 8 r).1
        · rw [if_pos h2] at h
          cases h
        · rw [if_neg h2] at h
          simp only [Except.ok.injEq, Prod.mk.injEq] at h
          rw [← h.2]
          have := (num_one (by decide) hr h0).2.2.2.1
          show _ ≤ 8 + hi
          omega
    · rw [if_pos h0] at h
      cases h
/-- A program that reads at most N bytes. -/
def Bd {α : Type} : Pg α → Nat → Prop
  | .ret _, _ => True
  | .ask I k, N => ∃ M, wid I + M ≤ N ∧ ∀ r x n, Byts r → rd I r = .ok (x, n) → Bd (k x) M
theorem Bd.mono {α : Type} {g : Pg α} {N N' : Nat} (h : Bd g N) (hn : N ≤ N') : Bd g N' := by
  cases g with
  | ret a => trivial
  | ask I k =>
    obtain ⟨M, h1, h2⟩ := h
    exact ⟨M, by omega, h2⟩
theorem Bd.bind {α β : Type} {g : Pg α} {f : α → Pg β} {N M : Nat} (h : Bd g N) (hf : ∀ a, Bd (f a) M) : Bd (g.bind f) (N + M) := by
  induction g generalizing N with
  | ret a => exact (hf a).mono (by omega)
  | ask I k ih =>
    obtain ⟨L, h1, h2⟩ := h
    exact ⟨L + M, by omega, fun r x n hr hx => ih x (h2 r x n hr hx)⟩
theorem run_bd {α : Type} {g : Pg α} : ∀ {N : Nat} {r : List Int} {p q : Nat} {e : Int}, Bd g N → Byts r → run g r p = .error (q, e) → q ≤ p + N := by
  induction g with
  | ret a => intro N r p q e _ _ h; cases h
  | ask I k ih =>
    intro N r p q e hb hr h
    obtain ⟨M, h1, h2⟩ := hb
    cases hI : rd I r with
    | error z =>
      rw [run_ask_err hI] at h
      simp only [Except.error.injEq, Prod.mk.injEq] at h
      omega
    | ok x =>
      obtain ⟨x, n⟩ := x
      rw [run_ask_ok hI] at h
      have := ih x (h2 r x n hr hI) (hr.drop n) h
      have := rd_wid hr hI
      omega
theorem bd_op : Bd pgO 41 := by
  unfold pgO
  refine ⟨40, by decide, fun r x n hr hx => ⟨24, by decide, fun r' y m hr' hy => ?_⟩⟩
  split
  · exact ⟨0, by decide, fun _ _ _ _ _ => trivial⟩
  · trivial
theorem bd_ops (n : Nat) : Bd (pgOs n) (41 * n) := by
  induction n with
  | zero => trivial
  | succ n ih =>
    simp only [pgOs]
    refine Bd.mono (N := 41 + 41 * n) (Bd.bind bd_op fun o => Bd.mono (N := 41 * n + 0) (Bd.bind ih fun r => ?_) (by omega)) (by omega)
    trivial
theorem bd_tx : Bd pgT 720 := by
  unfold pgT
  refine ⟨712, by decide, fun _ _ _ _ _ => ⟨704, by decide, fun _ _ _ _ _ => ⟨696, by decide, fun _ _ _ _ _ => ⟨688, by decide, fun _ _ _ _ _ => ⟨680, by decide, fun _ _ _ _ _ => ⟨672, by decide, fun _ _ _ _ _ => ⟨664, by decide, fun _ _ _ _ _ => ⟨656, by decide, fun r x n hr hx => ?_⟩⟩⟩⟩⟩⟩⟩⟩
  obtain ⟨x, y⟩ := x
  have := (one_nm hr hx).1
  refine Bd.mono (N := 41 * x + 0) (Bd.bind (bd_ops x) fun r => ?_) (by omega)
  trivial
theorem tag_place {l : List Int} {p : Nat} (hl : Byts l) (h : decode l = .error (p, 60)) : p ≤ 720 := by
  unfold decode at h
  cases h1 : run pgT l 0 with
  | error pe =>
    rw [h1] at h
    simp only [Except.error.injEq] at h
    subst h
    have := run_bd bd_tx hl h1
    omega
  | ok x =>
    obtain ⟨t, q⟩ := x
    rw [h1] at h
    simp only at h
    split at h
    · cases h
    · cases h
/-- The part of an argument from its beginning on, as a slice. -/
theorem slice_pre {w : World} {oa : Option Addr} {c : Nat} {l : List Int} (h : ArgB w oa c l) (n : Nat) (hn : n ≤ l.length) : ∃ a', (∀ W, (Instr.sliceAt 22 (.slice oa l.length c) none (some (.int .i64 (n : Int))) none).run Try.prog W = .ok (.slice a' (l.take n).length c) W) ∧ BytesAt w a' (l.take n) ∧ (a' = none → (l.take n).length = 0 ∧ c = 0) := by
  have hlen : (l.take n).length = n := by rw [List.length_take]; omega
  have hc := h.cap
  have hle := h.le
  refine ⟨oa, fun W => ?_, bytes_take h.data n, fun e => ?_⟩
  · rw [hlen]
    cases oa with
    | none =>
      obtain ⟨h1, rfl⟩ := h.nil rfl
      obtain rfl : n = 0 := by omega
      rw [h1]
      go_simp
    | some ad =>
      have h1 : (n : Int) ≤ (c : Int) := by omega
      have h2 : 0 ≤ (n : Int) := by omega
      go_simp
  · obtain ⟨h1, h2⟩ := h.nil e
    exact ⟨by omega, h2⟩
set_option maxRecDepth 100000 in
set_option maxHeartbeats 600000 in
theorem place_ok (w : World) (oa : Option Addr) (c : Nat) (l : List Int) (ob : Option Addr) (d : Nat) (m : List Int) (h : ArgB w oa c l) (h2 : ArgB w ob d m) {t : TxM} (he : decode l = .ok t) :
    Calls Try.prog 8 #[.slice oa l.length c, .slice ob m.length d] w fun e w' => e = .returned (.bool true) ∧ Kept w w' := by
  have hnot : ∀ (x : Bool) (w : World), (Op.unary .not (.bool x)).run Try.prog w = .ok (.bool (!x)) w := fun _ _ => rfl
  have hle := h.le
  have hle2 := h2.le
  have HA : Hid _ := anchor_any w
  have HR : Hid (∀ W, Kept w W → _) := fun W (k : Kept w W) => app_lit (c := c) (h.on k).data h.nil (by omega)
  have HD : Hid (∀ base W v, OwnB base W v l → _) := fun base W v (o : OwnB base W v l) => decode_own_ok o h.byts (by omega) he
  obtain ⟨n, en⟩ : ∃ n, n = l.length := ⟨_, rfl⟩
  obtain ⟨n2, en2⟩ : ∃ n, n = m.length := ⟨_, rfl⟩
  rw [← en] at HR ⊢
  rw [← en2]
  unfold txV at HD
  clear h h2 he en en2 hle hle2
  go_enter Try.func8, Try.ntmps8
  go_wp2_with fail
  refine Calls.mono HA.out ?_
  rintro e w1 ⟨rfl, k1⟩
  have K1 : Hid _ := k1
  clear k1
  go_wp2_with (at_builtin; refine wpList_app rfl (.tmp 20) (.tmp 21) 22 22 rfl _ _ rfl rfl _ (HR.out _ K1.out) ?_; rintro v2 w2 ⟨o2, k2⟩)
  refine Calls.mono (HD.out _ _ _ o2) ?_
  rintro e w3 ⟨a3, c3, rfl, o3, k3⟩
  have K3 : Hid (Kept w w3) := (Same.trans' K1.out k2).trans' k3
  clear o2 k2 k3 o3
  go_wp2_with fail
  go_ret
  exact ⟨rfl, K3.out.alloc _⟩
set_option maxRecDepth 100000 in
set_option maxHeartbeats 600000 in
theorem place_long (w : World) (oa : Option Addr) (c : Nat) (l : List Int) (ob : Option Addr) (d : Nat) (m : List Int) (h : ArgB w oa c l) (h2 : ArgB w ob d m) {p : Nat} (he : decode l = .error (p, 52)) :
    Calls Try.prog 8 #[.slice oa l.length c, .slice ob m.length d] w fun e w' => e = .returned (.bool true) ∧ Kept w w' := by
  have hnot : ∀ (x : Bool) (w : World), (Op.unary .not (.bool x)).run Try.prog w = .ok (.bool (!x)) w := fun _ _ => rfl
  have hle := h.le
  have hle2 := h2.le
  have HA : Hid _ := anchor_any w
  have HR : Hid (∀ W, Kept w W → _) := fun W (k : Kept w W) => app_lit (c := c) (h.on k).data h.nil (by omega)
  have HD : Hid (∀ base W v, OwnB base W v l → _) := fun base W v (o : OwnB base W v l) => decode_own_no o h.byts (by omega) he
  have hp := (dec_fits h.byts he).1
  rw [show txV t0 (.slice none 0 0) = .agg #[.int .i64 0, .int .i64 0, .int .i64 0, .int .i64 0, .int .i64 0, .int .i64 0, .int .i64 0, .slice none 0 0] from rfl] at HD
  obtain ⟨n, en⟩ : ∃ n, n = l.length := ⟨_, rfl⟩
  obtain ⟨n2, en2⟩ : ∃ n, n = m.length := ⟨_, rfl⟩
  rw [← en] at HR hp ⊢
  rw [← en2]
  have d1 : decide ((p : Int) < 0) = false := decide_eq_false (by omega)
  have d1' : ¬ (p : Int) < 0 := by omega
  have d2 : decide ((n : Int) < (p : Int)) = false := decide_eq_false (by omega)
  have d2' : ¬ (n : Int) < (p : Int) := by omega
  clear h h2 he en en2 hle hle2
  go_enter Try.func8, Try.ntmps8
  go_wp2_with fail
  refine Calls.mono HA.out ?_
  rintro e w1 ⟨rfl, k1⟩
  have K1 : Hid _ := k1
  clear k1
  go_wp2_with (at_builtin; refine wpList_app rfl (.tmp 20) (.tmp 21) 22 22 rfl _ _ rfl rfl _ (HR.out _ K1.out) ?_; rintro v2 w2 ⟨o2, k2⟩)
  refine Calls.mono (HD.out _ _ _ o2) ?_
  rintro e w3 ⟨rfl, k3⟩
  have K3 : Hid (Kept w w3) := (Same.trans' K1.out k2).trans' k3
  clear o2 k2 k3
  go_wp2_with fail
  go_ret
  exact ⟨rfl, K3.out.alloc _⟩
set_option maxRecDepth 100000 in
set_option maxHeartbeats 600000 in
theorem place_range (w : World) (oa : Option Addr) (c : Nat) (l : List Int) (ob : Option Addr) (d : Nat) (m : List Int) (h : ArgB w oa c l) (h2 : ArgB w ob d m) {p : Nat} (he : decode l = .error (p, 53)) :
    Calls Try.prog 8 #[.slice oa l.length c, .slice ob m.length d] w fun e w' => e = .returned (.bool true) ∧ Kept w w' := by
  have hnot : ∀ (x : Bool) (w : World), (Op.unary .not (.bool x)).run Try.prog w = .ok (.bool (!x)) w := fun _ _ => rfl
  have hle := h.le
  have hle2 := h2.le
  have HA : Hid _ := anchor_any w
  have HR : Hid (∀ W, Kept w W → _) := fun W (k : Kept w W) => app_lit (c := c) (h.on k).data h.nil (by omega)
  have HD : Hid (∀ base W v, OwnB base W v l → _) := fun base W v (o : OwnB base W v l) => decode_own_no o h.byts (by omega) he
  have hp := (dec_fits h.byts he).1
  rw [show txV t0 (.slice none 0 0) = .agg #[.int .i64 0, .int .i64 0, .int .i64 0, .int .i64 0, .int .i64 0, .int .i64 0, .int .i64 0, .slice none 0 0] from rfl] at HD
  obtain ⟨n, en⟩ : ∃ n, n = l.length := ⟨_, rfl⟩
  obtain ⟨n2, en2⟩ : ∃ n, n = m.length := ⟨_, rfl⟩
  rw [← en] at HR hp ⊢
  rw [← en2]
  have d1 : decide ((p : Int) < 0) = false := decide_eq_false (by omega)
  have d1' : ¬ (p : Int) < 0 := by omega
  have d2 : decide ((n : Int) < (p : Int)) = false := decide_eq_false (by omega)
  have d2' : ¬ (n : Int) < (p : Int) := by omega
  clear h h2 he en en2 hle hle2
  go_enter Try.func8, Try.ntmps8
  go_wp2_with fail
  refine Calls.mono HA.out ?_
  rintro e w1 ⟨rfl, k1⟩
  have K1 : Hid _ := k1
  clear k1
  go_wp2_with (at_builtin; refine wpList_app rfl (.tmp 20) (.tmp 21) 22 22 rfl _ _ rfl rfl _ (HR.out _ K1.out) ?_; rintro v2 w2 ⟨o2, k2⟩)
  refine Calls.mono (HD.out _ _ _ o2) ?_
  rintro e w3 ⟨rfl, k3⟩
  have K3 : Hid (Kept w w3) := (Same.trans' K1.out k2).trans' k3
  clear o2 k2 k3
  go_wp2_with fail
  go_ret
  exact ⟨rfl, K3.out.alloc _⟩
set_option maxRecDepth 100000 in
set_option maxHeartbeats 600000 in
theorem place_end (w : World) (oa : Option Addr) (c : Nat) (l : List Int) (ob : Option Addr) (d : Nat) (m : List Int) (h : ArgB w oa c l) (h2 : ArgB w ob d m) {p : Nat} (he : decode l = .error (p, 51)) :
    Calls Try.prog 8 #[.slice oa l.length c, .slice ob m.length d] w fun e w' => e = .returned (.bool true) ∧ Kept w w' := by
  have hnot : ∀ (x : Bool) (w : World), (Op.unary .not (.bool x)).run Try.prog w = .ok (.bool (!x)) w := fun _ _ => rfl
  have hle := h.le
  have hle2 := h2.le
  have HA : Hid _ := anchor_any w
  have HR : Hid (∀ W, Kept w W → _) := fun W (k : Kept w W) => app_lit (c := c) (h.on k).data h.nil (by omega)
  have HD : Hid (∀ base W v, OwnB base W v l → _) := fun base W v (o : OwnB base W v l) => decode_own_no o h.byts (by omega) he
  have hp := (dec_fits h.byts he).1
  obtain ⟨-, -, h51, -, -⟩ := dec_err h.byts he
  have h51 := h51 rfl
  have HD2 : Hid (∀ base W v, OwnB base W v (l.take p) → _) := fun base W v (o : OwnB base W v (l.take p)) => decode_own_no o (h.byts.take p) (by rw [List.length_take]; omega) h51
  obtain ⟨a', hsl, hb', hn'⟩ := slice_pre h p hp
  have HR2 : Hid (∀ W, Kept w W → _) := fun W (k : Kept w W) => app_lit (c := c) (hb'.kept k (fun _ _ h => h)) hn' (by rw [List.length_take]; omega)
  generalize (l.take p).length = np at hsl HR2
  rw [show txV t0 (.slice none 0 0) = .agg #[.int .i64 0, .int .i64 0, .int .i64 0, .int .i64 0, .int .i64 0, .int .i64 0, .int .i64 0, .slice none 0 0] from rfl] at HD
  rw [show txV t0 (.slice none 0 0) = .agg #[.int .i64 0, .int .i64 0, .int .i64 0, .int .i64 0, .int .i64 0, .int .i64 0, .int .i64 0, .slice none 0 0] from rfl] at HD2
  obtain ⟨n, en⟩ : ∃ n, n = l.length := ⟨_, rfl⟩
  obtain ⟨n2, en2⟩ : ∃ n, n = m.length := ⟨_, rfl⟩
  rw [← en] at HR hp hsl ⊢
  rw [← en2]
  have d1 : decide ((p : Int) < 0) = false := decide_eq_false (by omega)
  have d1' : ¬ (p : Int) < 0 := by omega
  have d2 : decide ((n : Int) < (p : Int)) = false := decide_eq_false (by omega)
  have d2' : ¬ (n : Int) < (p : Int) := by omega
  clear h h2 he en en2 hle hle2 hb' hn' h51
  go_enter Try.func8, Try.ntmps8
  go_wp2_with fail
  refine Calls.mono HA.out ?_
  rintro e w1 ⟨rfl, k1⟩
  have K1 : Hid _ := k1
  clear k1
  go_wp2_with (at_builtin; refine wpList_app rfl (.tmp 20) (.tmp 21) 22 22 rfl _ _ rfl rfl _ (HR.out _ K1.out) ?_; rintro v2 w2 ⟨o2, k2⟩)
  refine Calls.mono (HD.out _ _ _ o2) ?_
  rintro e w3 ⟨rfl, k3⟩
  have K3 : Hid (Kept w w3) := (Same.trans' K1.out k2).trans' k3
  clear o2 k2 k3
  have HR4 : Hid _ := HR2.out (w3.alloc (.cells #[.int .i64 0, .int .i64 0, .int .i64 0, .int .i64 0, .int .i64 0, .int .i64 0, .int .i64 0, .slice none 0 0] 26 (0, 0))) (K3.out.alloc _)
  rw [World.size_alloc] at HR4
  go_wp2_with (at_builtin; refine wpList_app rfl (.tmp 94) (.tmp 97) 22 22 rfl _ _ rfl rfl _ HR4.out ?_; rintro v4 w4 ⟨o4, k4⟩)
  refine Calls.mono (HD2.out _ _ _ o4) ?_
  rintro e w5 ⟨rfl, k5⟩
  have K5 : Hid (Kept w w5) := (Same.trans' (K3.out.alloc _) k4).trans' k5
  clear o4 k4 k5
  have hpp : ((p : Int) == (p : Int)) = true := by simp
  go_wp2_with fail
  go_ret
  exact ⟨rfl, K5.out.alloc _⟩
set_option maxRecDepth 100000 in
set_option maxHeartbeats 600000 in
theorem place_tail (w : World) (oa : Option Addr) (c : Nat) (l : List Int) (ob : Option Addr) (d : Nat) (m : List Int) (h : ArgB w oa c l) (h2 : ArgB w ob d m) {p : Nat} (he : decode l = .error (p, 61)) :
    Calls Try.prog 8 #[.slice oa l.length c, .slice ob m.length d] w fun e w' => e = .returned (.bool true) ∧ Kept w w' := by
  have hnot : ∀ (x : Bool) (w : World), (Op.unary .not (.bool x)).run Try.prog w = .ok (.bool (!x)) w := fun _ _ => rfl
  have hle := h.le
  have hle2 := h2.le
  have HA : Hid _ := anchor_any w
  have HR : Hid (∀ W, Kept w W → _) := fun W (k : Kept w W) => app_lit (c := c) (h.on k).data h.nil (by omega)
  have HD : Hid (∀ base W v, OwnB base W v l → _) := fun base W v (o : OwnB base W v l) => decode_own_no o h.byts (by omega) he
  have hp := (dec_fits h.byts he).1
  obtain ⟨-, -, -, -, h61⟩ := dec_err h.byts he
  obtain ⟨hpl, t, h61⟩ := h61 rfl
  have HD2 : Hid (∀ base W v, OwnB base W v (l.take p) → _) := fun base W v (o : OwnB base W v (l.take p)) => decode_own_ok o (h.byts.take p) (by rw [List.length_take]; omega) h61
  obtain ⟨a', hsl, hb', hn'⟩ := slice_pre h p hp
  have HR2 : Hid (∀ W, Kept w W → _) := fun W (k : Kept w W) => app_lit (c := c) (hb'.kept k (fun _ _ h => h)) hn' (by rw [List.length_take]; omega)
  generalize (l.take p).length = np at hsl HR2
  unfold txV at HD2
  rw [show txV t0 (.slice none 0 0) = .agg #[.int .i64 0, .int .i64 0, .int .i64 0, .int .i64 0, .int .i64 0, .int .i64 0, .int .i64 0, .slice none 0 0] from rfl] at HD
  obtain ⟨n, en⟩ : ∃ n, n = l.length := ⟨_, rfl⟩
  obtain ⟨n2, en2⟩ : ∃ n, n = m.length := ⟨_, rfl⟩
  rw [← en] at HR hp hsl hpl ⊢
  rw [← en2]
  have d1 : decide ((p : Int) < 0) = false := decide_eq_false (by omega)
  have d1' : ¬ (p : Int) < 0 := by omega
  have d2 : decide ((n : Int) < (p : Int)) = false := decide_eq_false (by omega)
  have d2' : ¬ (n : Int) < (p : Int) := by omega
  have d3 : decide ((p : Int) < (n : Int)) = true := decide_eq_true (by omega)
  have d3' : (p : Int) < (n : Int) := by omega
  clear h h2 he en en2 hle hle2 hb' hn' h61
  go_enter Try.func8, Try.ntmps8
  go_wp2_with fail
  refine Calls.mono HA.out ?_
  rintro e w1 ⟨rfl, k1⟩
  have K1 : Hid _ := k1
  clear k1
  go_wp2_with (at_builtin; refine wpList_app rfl (.tmp 20) (.tmp 21) 22 22 rfl _ _ rfl rfl _ (HR.out _ K1.out) ?_; rintro v2 w2 ⟨o2, k2⟩)
  refine Calls.mono (HD.out _ _ _ o2) ?_
  rintro e w3 ⟨rfl, k3⟩
  have K3 : Hid (Kept w w3) := (Same.trans' K1.out k2).trans' k3
  clear o2 k2 k3
  have HR4 : Hid _ := HR2.out (w3.alloc (.cells #[.int .i64 0, .int .i64 0, .int .i64 0, .int .i64 0, .int .i64 0, .int .i64 0, .int .i64 0, .slice none 0 0] 26 (0, 0))) (K3.out.alloc _)
  rw [World.size_alloc] at HR4
  go_wp2_with (at_builtin; refine wpList_app rfl (.tmp 70) (.tmp 73) 22 22 rfl _ _ rfl rfl _ HR4.out ?_; rintro v4 w4 ⟨o4, k4⟩)
  refine Calls.mono (HD2.out _ _ _ o4) ?_
  rintro e w5 ⟨a5, c5, rfl, o5, k5⟩
  have K5 : Hid (Kept w w5) := (Same.trans' (K3.out.alloc _) k4).trans' k5
  clear o4 k4 k5 o5
  go_wp2_with fail
  go_ret
  exact ⟨rfl, K5.out.alloc _⟩
set_option maxRecDepth 100000 in
set_option maxHeartbeats 600000 in
theorem place_tag (w : World) (oa : Option Addr) (c : Nat) (l : List Int) (ob : Option Addr) (d : Nat) (m : List Int) (h : ArgB w oa c l) (h2 : ArgB w ob d m) {p : Nat} (he : decode l = .error (p, 60)) :
    Calls Try.prog 8 #[.slice oa l.length c, .slice ob m.length d] w fun e w' => e = .returned (.bool true) ∧ Kept w w' := by
  have hnot : ∀ (x : Bool) (w : World), (Op.unary .not (.bool x)).run Try.prog w = .ok (.bool (!x)) w := fun _ _ => rfl
  have hle := h.le
  have hle2 := h2.le
  have HA : Hid _ := anchor_any w
  have HR : Hid (∀ W, Kept w W → _) := fun W (k : Kept w W) => app_lit (c := c) (h.on k).data h.nil (by omega)
  have HD : Hid (∀ base W v, OwnB base W v l → _) := fun base W v (o : OwnB base W v l) => decode_own_no o h.byts (by omega) he
  have hp := (dec_fits h.byts he).1
  have hpt := tag_place h.byts he
  obtain ⟨-, -, -, h60, -⟩ := dec_err h.byts he
  obtain ⟨hpl, h60⟩ := h60 rfl
  have h60 := h60 m
  have hlt : (l.take (p + 1)).length = p + 1 := by rw [List.length_take]; omega
  have HD2 : Hid (∀ base W v, OwnB base W v (l.take (p + 1) ++ m) → _) := fun base W v (o : OwnB base W v (l.take (p + 1) ++ m)) => decode_own_no o ((h.byts.take _).append h2.byts) (by rw [List.length_append, hlt]; omega) h60
  obtain ⟨a', hsl, hb', hn'⟩ := slice_pre h (p + 1) (by omega)
  have HR2 : Hid (∀ W, Kept w W → _) := fun W (k : Kept w W) => app_lit (c := c) (hb'.kept k (fun _ _ h => h)) hn' (by omega)
  have HR3 : Hid (∀ base W v, Kept w W → base ≤ W.heap.size → OwnB base W v (l.take (p + 1)) → _) := fun base W v (k : Kept w W) hb (o : OwnB base W v (l.take (p + 1))) => app_bytes (c := d) o (h2.on k).data h2.nil (by rw [hlt]; omega) hb
  rw [hlt] at hsl HR2
  obtain ⟨P, eP⟩ : ∃ P, P = p + 1 := ⟨_, rfl⟩
  have hP : (p : Int) + 1 = (P : Int) := by omega
  have hP2 : (P : Int) ≤ 1000 := by omega
  rw [← eP] at hsl HR2 HR3 HD2
  rw [show txV t0 (.slice none 0 0) = .agg #[.int .i64 0, .int .i64 0, .int .i64 0, .int .i64 0, .int .i64 0, .int .i64 0, .int .i64 0, .slice none 0 0] from rfl] at HD
  rw [show txV t0 (.slice none 0 0) = .agg #[.int .i64 0, .int .i64 0, .int .i64 0, .int .i64 0, .int .i64 0, .int .i64 0, .int .i64 0, .slice none 0 0] from rfl] at HD2
  obtain ⟨n, en⟩ : ∃ n, n = l.length := ⟨_, rfl⟩
  obtain ⟨n2, en2⟩ : ∃ n, n = m.length := ⟨_, rfl⟩
  rw [← en] at HR hp hsl hpl ⊢
  rw [← en2] at HR3 ⊢
  have d1 : decide ((p : Int) < 0) = false := decide_eq_false (by omega)
  have d1' : ¬ (p : Int) < 0 := by omega
  have d2 : decide ((n : Int) < (p : Int)) = false := decide_eq_false (by omega)
  have d2' : ¬ (n : Int) < (p : Int) := by omega
  have d3 : decide ((p : Int) < (n : Int)) = true := decide_eq_true (by omega)
  have d3' : (p : Int) < (n : Int) := by omega
  clear h h2 he en en2 hle hle2 hb' hn' h60 hlt hpt eP
  go_enter Try.func8, Try.ntmps8
  go_wp2_with fail
  refine Calls.mono HA.out ?_
  rintro e w1 ⟨rfl, k1⟩
  have K1 : Hid _ := k1
  clear k1
  go_wp2_with (at_builtin; refine wpList_app rfl (.tmp 20) (.tmp 21) 22 22 rfl _ _ rfl rfl _ (HR.out _ K1.out) ?_; rintro v2 w2 ⟨o2, k2⟩)
  refine Calls.mono (HD.out _ _ _ o2) ?_
  rintro e w3 ⟨rfl, k3⟩
  have K3 : Hid (Kept w w3) := (Same.trans' K1.out k2).trans' k3
  clear o2 k2 k3
  have HR4 : Hid _ := HR2.out (w3.alloc (.cells #[.int .i64 0, .int .i64 0, .int .i64 0, .int .i64 0, .int .i64 0, .int .i64 0, .int .i64 0, .slice none 0 0] 26 (0, 0))) (K3.out.alloc _)
  rw [World.size_alloc] at HR4
  have HR5 : Hid (∀ v4 w4, OwnB (w3.heap.size + 1) w4 v4 (l.take P) → Kept (w3.alloc (.cells #[.int .i64 0, .int .i64 0, .int .i64 0, .int .i64 0, .int .i64 0, .int .i64 0, .int .i64 0, .slice none 0 0] 26 (0, 0))) w4 → _) := fun v4 w4 o4 (k4 : Kept (w3.alloc (.cells #[.int .i64 0, .int .i64 0, .int .i64 0, .int .i64 0, .int .i64 0, .int .i64 0, .int .i64 0, .slice none 0 0] 26 (0, 0))) w4) => HR3.out _ w4 v4 ((K3.out.alloc _).trans' k4) (by have := k4.size; rwa [World.size_alloc] at this) o4
  go_wp2_with (first
    | (at_builtin; refine wpList_app rfl (.tmp 48) (.tmp 52) 22 22 rfl _ _ rfl rfl _ HR4.out ?_; rintro v4 w4 ⟨o4, k4⟩)
    | (at_builtin; refine wpList_app rfl (.tmp 53) (.tmp 54) 22 22 rfl _ _ rfl rfl _ (HR5.out _ _ o4 k4) ?_; rintro v5 w5 ⟨o5, s5⟩))
  refine Calls.mono (HD2.out _ _ _ o5) ?_
  rintro e w6 ⟨rfl, k6⟩
  have hz4 := K3.out.size
  have K6 : Hid (Kept w w6) := ((Same.trans' (K3.out.alloc _) k4).trans s5 (fun i hi e => by omega)).trans' k6
  clear o4 k4 o5 s5 k6
  have hpp : ((p : Int) == (p : Int)) = true := by simp
  go_wp2_with fail
  go_ret
  exact ⟨rfl, K6.out.alloc _⟩
end Go.Proofs.Ytcmoejnljhmflaa
