/- What is proved: the document's read, passes and Value answer as the plain ones do; its machine lies in memory. -/
import Derived.Test.YtmghmacgljihcaaKRd
namespace Go.Proofs.Ytmghmacgljihcaa
open Go.RowKit

theorem rSee_in {l : List Rn} {k : ByteArray} {t : Int} {b : Nat} (h : rSee l k t = some b) : b < l.length ∧ (lastW (gR l b).t.ops k).isSome = true := by
  have h' : rSeen l k t l.length = some b := h
  rcases rSeen_spec l k t l.length with ⟨h1, -⟩ | ⟨b', h1, h2, h3, -⟩
  · rw [h'] at h1; cases h1
  · rw [h'] at h1
    cases h1
    exact ⟨h2, (vis_iff.1 h3).2.2.2⟩
/-- held, of what is seen. -/
theorem rheld15 {w : World} {rb n : Nat} {fl : Int} {R : Rr} {a : Option Addr} {cap : Nat} {ev : Value} (h : Rd w rb n fl R a cap ev) (hs : Sml R) (k : ByteArray) (o : Option Nat) (ho : ∀ b, o = some b → b < R.all.length ∧ (lastW (gR R.all b).t.ops k).isSome = true) :
    Calls Try.prog 26 #[.pointer (some ⟨rb, 0, none⟩), .int .i64 (ix o), .string k] w fun e w' => e = .returned (.tuple #[.string (rHeld R.all o k).2, .bool (rHeld R.all o k).1]) ∧ Kept w w' := by
  cases o with
  | none => exact rheld_none k
  | some b => exact rheld_some h hs (ho b rfl).1 k (ho b rfl).2
set_option maxRecDepth 100000 in
set_option maxHeartbeats 1600000 in
theorem rvalue15 {w : World} {rb n : Nat} {fl : Int} {R : Rr} {a : Option Addr} {cap : Nat} {ev : Value} (h : Rd w rb n fl R a cap ev) (hs : Sml R) (k : ByteArray) :
    Calls Try.prog 12 #[.pointer (some ⟨rb, 0, none⟩), .string k] w fun e w' => e = .returned (.tuple #[.string (rHeld R.all (rSee R.all k R.clock) k).2, .bool (rHeld R.all (rSee R.all k R.clock) k).1]) ∧ Kept w w' := by
  have y2 := h.c2
  have hrl := h.lt
  have HSE : Hid _ := rseen15 h hs k R.clock
  have HHE : Hid (∀ W', Kept w W' → _) := fun W' k' => rheld15 (h.on k') hs k (rSee R.all k R.clock) (fun b hb => rSee_in hb)
  clear h hs
  generalize rHeld R.all (rSee R.all k R.clock) k = hv at *
  generalize ix (rSee R.all k R.clock) = sv at *
  generalize R.clock = cl at *
  go_enter Try.func12, Try.ntmps12
  go_wp2_with fail
  refine Calls.mono HSE.out ?_
  rintro r2 w2 ⟨rfl, k2⟩
  have HH2 : Hid _ := HHE.out w2 k2
  have K2 : Hid _ := k2
  clear k2 HSE HHE
  go_wp2_with fail
  refine Calls.mono HH2.out ?_
  rintro r3 w3 ⟨rfl, k3⟩
  have K3 : Hid (Kept w w3) := Same.trans' K2.out k3
  clear k3 HH2
  go_wp2_with fail
  refine bodyPost_ret (results_tmp2 rfl _ _ _) rfl ?_
  exact ⟨rfl, K3.out⟩
theorem rDirt_in {l : List Rn} {i : Nat} {k : ByteArray} (n : Nat) {b : Nat} (h : (rDirt l i k n).1 = some b) : b < n ∧ (lastW (gR l b).t.ops k).isSome = true := by
  induction n with
  | zero => cases h
  | succ n ih =>
    rw [rDirt] at h
    cases el : lastW (gR l n).t.ops k with
    | none =>
      rw [el] at h
      have := ih h
      exact ⟨by omega, this.2⟩
    | some o =>
      rw [el] at h
      simp only at h
      split at h
      · simp only [Option.some.injEq] at h
        subst h
        exact ⟨by omega, by rw [el]; rfl⟩
      · have := ih h
        exact ⟨by omega, this.2⟩
set_option maxRecDepth 100000 in
set_option maxHeartbeats 3200000 in
theorem rread15 {w : World} {rb n : Nat} {fl : Int} {R : Rr} {a : Option Addr} {cap : Nat} {ev : Value} (h : Rd w rb n fl R a cap ev) (hs : Sml R) {i : Nat} (hi : i < R.all.length) (hf3 : ∀ r ∈ R.all, -1099511627776 ≤ r.t.f3 ∧ r.t.f3 ≤ 1099511627776) (k : ByteArray) :
    Calls Try.prog 37 #[.pointer (some ⟨rb, 0, none⟩), .int .i64 (i : Int), .string k] w fun e w' => e = .returned (.tuple #[.string (rRead fl R.clock R.all i k).2, .bool (rRead fl R.clock R.all i k).1]) ∧ Kept w w' := by
  obtain ⟨b, off, oa, oc, ta, tc, rfl, hb, hR⟩ := h.run i _ (gR_at hi)
  have hn := hs.n
  have hol := (hs.o _ (List.mem_of_getElem? (gR_at hi))).1
  obtain ⟨rv, erv⟩ : ∃ rv, rv = rRead fl R.clock R.all i k := ⟨_, rfl⟩
  rw [← erv]
  unfold rRead at erv
  have HHI : Hid (∀ (W' : World), Kept w W' → (lastW (gR R.all i).t.ops k).isSome = true → _) := fun W' k' hl => rheld_some (h.on k') hs hi k hl
  obtain ⟨r, er⟩ : ∃ r, r = gR R.all i := ⟨_, rfl⟩
  rw [← er] at hR hol erv HHI
  have ERV : Hid _ := erv
  have K0 : Hid (Kept w (w.alloc (txO r.t (.slice oa r.t.ops.length oc)))) := (Same.refl _ w).alloc _
  have G0 : Hid _ := heap_new w (txO r.t (.slice oa r.t.ops.length oc))
  have HSE : Hid (∀ (W' : World) (t : Int), Kept w W' → _) := fun W' t k' => rseen15 (h.on k') hs k t
  have HDI : Hid (∀ (W' : World), Kept w W' → _) := fun W' k' => rdirty15 (h.on k') hs i k
  have HHE : Hid (∀ (W' : World) (o : Option Nat), (∀ b, o = some b → b < R.all.length ∧ (lastW (gR R.all b).t.ops k).isSome = true) → Kept w W' → _) := fun W' o ho k' => rheld15 (h.on k') hs k o ho
  have HLF : Hid (∀ (W' : World), Kept w W' → Calls Try.prog 39 #[txA r.t (.slice oa r.t.ops.length oc), .string k] W' fun e w' => e = .returned (.int .i64 (ix (lastW r.t.ops k))) ∧ Kept W' w') := fun W' k' => rleft15 W' r.t oa oc (hR.ops.on k') (by omega) k
  have HRD : Hid (Rd w rb n fl R (some ⟨b, off, none⟩) cap ev) := h
  have HRU : Hid (∀ q, q < R.all.length → ∃ oq cq tq dq, Run w b off q (gR R.all q) oq cq tq dq) := fun q hq => by
    obtain ⟨b3, off3, oq, cq, tq, dq, eb, -, h9⟩ := h.run q _ (gR_at hq)
    cases eb
    exact ⟨oq, cq, tq, dq, h9⟩
  have HF3 : Hid (∀ q, q < R.all.length → -1099511627776 ≤ (gR R.all q).t.f3 ∧ (gR R.all q).t.f3 ≤ 1099511627776) := fun q hq => hf3 _ (List.mem_of_getElem? (gR_at hq))
  have y3 := h.c3
  have hrl := h.lt
  have q0 := hR.c0
  have q1 := hR.c1
  have q2 := hR.c2
  have q3 := hR.c3
  have q4 := hR.c4
  have q5 := hR.c5
  have q6 := hR.c6
  have q7 := hR.c7
  obtain ⟨L, eL⟩ : ∃ L, L = R.all.length := ⟨_, rfl⟩
  rw [← eL] at hn y3 hi
  obtain ⟨ol, eol⟩ : ∃ ol, ol = r.t.ops.length := ⟨_, rfl⟩
  rw [← eol] at hol q7 HLF K0 G0
  have EL : Hid (L = R.all.length) := eL
  have d3 : (i : Int) < (L : Int) := by omega
  have d4 : (0 : Int) ≤ (i : Int) := by omega
  clear h hs hR er eol eL erv hf3
  go_enter Try.func37, Try.ntmps37
  go_upto_region 2 with fail
  generalize w.alloc (txO r.t (.slice oa ol oc)) = W at *
  generalize hgg : w.heap.size = g at G0 ⊢
  clear hgg q0 q1 q2 q3 q4 q5 q6 q7
  have HC : Hid (∀ W', Kept W W' → (W'.cell? ⟨rb, 1, none⟩ = some (.int .i64 fl) ∧ W'.cell? ⟨rb, 2, none⟩ = some (.int .i64 R.clock) ∧ W'.cell? ⟨rb, 3, none⟩ = some (.slice (some ⟨b, off, none⟩) L cap) ∧ rb < W'.heap.size) ∧ (W'.cell? ⟨g, 0, none⟩ = some (.int .i64 r.t.f0) ∧ W'.cell? ⟨g, 1, none⟩ = some (.int .i64 r.t.f1) ∧ W'.cell? ⟨g, 2, none⟩ = some (.int .i64 r.t.f2) ∧ W'.cell? ⟨g, 3, none⟩ = some (.int .i64 r.t.f3) ∧ W'.cell? ⟨g, 4, none⟩ = some (.int .i64 r.t.f4) ∧ W'.cell? ⟨g, 5, none⟩ = some (.int .i64 r.t.f5) ∧ W'.cell? ⟨g, 6, none⟩ = some (.int .i64 r.t.f6) ∧ W'.cell? ⟨g, 7, none⟩ = some (.slice oa ol oc)) ∧ g < W'.heap.size) := fun W' k' => by
    have hd := HRD.out.on (Same.trans' K0.out k')
    have hg' := (k'.block g (lt_of_heap G0.out) (fun e => e)).trans G0.out
    exact ⟨⟨hd.c1, hd.c2, by rw [show L = _ from EL.out]; exact hd.c3, hd.lt⟩, tx_cells hg', lt_of_heap hg'⟩
  clear y3 hrl
  obtain ⟨⟨m1, m2, m3, hrl⟩, ⟨t0', t1, t2, t3, t4, t5, t6, t7⟩, hg⟩ := HC.out W (Same.refl _ _)
  generalize hlo : lastW r.t.ops k = lo at *
  clear hlo
  go_wp2_with fail
  refine Calls.mono (HLF.out W K0.out) ?_
  rintro r2 w2 ⟨rfl, k2⟩
  have K2 : Hid (Kept W w2) := k2
  clear k2 HLF
  clear m1 m2 m3 hrl t0' t1 t2 t3 t4 t5 t6 t7 hg
  obtain ⟨⟨m1, m2, m3, hrl⟩, ⟨t0', t1, t2, t3, t4, t5, t6, t7⟩, hg⟩ := HC.out w2 K2.out
  cases lo with
  | some p =>
    have EV : Hid (rv = rHeld R.all (some i) k) := (show rv = _ from ERV.out).trans (if_pos rfl)
    rw [show ix (some p) = (p : Int) from rfl]
    have e1 : decide ((0 : Int) ≤ (p : Int)) = true := decide_eq_true (by omega)
    have e2 : (0 : Int) ≤ (p : Int) := by omega
    go_wp2_with fail
    refine Calls.mono (HHI.out w2 (Same.trans' K0.out K2.out) rfl) ?_
    rintro r9 w9 ⟨rfl, k9⟩
    have K9 : Hid (Kept w w9) := Same.trans' (Same.trans' K0.out K2.out) k9
    clear k9
    go_wp2_with fail
    refine bodyPost_ret (results_tmp2 rfl _ _ _) rfl ?_
    exact ⟨by rw [show rv = _ from EV.out]; rfl, K9.out⟩
  | none =>
    rw [show ix none = (-1 : Int) from rfl]
    have ERV2 : Hid (rv = rHeld R.all (if fl = 4 ∧ (rDirt R.all i k R.all.length).1.isSome = true then (rDirt R.all i k R.all.length).1 else if fl = 3 then (rSee R.all k (if fl = 2 then R.clock else r.t.f2)).bind fun b => rSee R.all k ((gR R.all b).t.f3 - 1) else rSee R.all k (if fl = 2 then R.clock else r.t.f2)) k) := (show rv = _ from ERV.out).trans (if_neg (by simp))
    clear ERV HHI
    go_wp2_with fail
    refine Calls.mono (HSE.out w2 r.t.f2 (Same.trans' K0.out K2.out)) ?_
    rintro r3 w3 ⟨rfl, k3⟩
    have K3 : Hid (Kept W w3) := Same.trans' K2.out k3
    clear k3
    clear m1 m2 m3 hrl t0' t1 t2 t3 t4 t5 t6 t7 hg
    obtain ⟨⟨m1, m2, m3, hrl⟩, ⟨t0', t1, t2, t3, t4, t5, t6, t7⟩, hg⟩ := HC.out w3 K3.out
    by_cases f2 : fl = 2
    · subst f2
      have EV : Hid (rv = rHeld R.all (rSee R.all k R.clock) k) := (show rv = _ from ERV2.out).trans (by simp)
      go_wp2_with fail
      refine Calls.mono (HSE.out w3 R.clock (Same.trans' K0.out K3.out)) ?_
      rintro r3 w4 ⟨rfl, k4⟩
      have K4 : Hid (Kept W w4) := Same.trans' K3.out k4
      clear k4
      clear m1 m2 m3 hrl t0' t1 t2 t3 t4 t5 t6 t7 hg
      obtain ⟨⟨m1, m2, m3, hrl⟩, ⟨t0', t1, t2, t3, t4, t5, t6, t7⟩, hg⟩ := HC.out w4 K4.out
      go_wp2_with fail
      refine Calls.mono (HHE.out w4 _ (fun b hb => rSee_in hb) (Same.trans' K0.out K4.out)) ?_
      rintro r9 w9 ⟨rfl, k9⟩
      have K9 : Hid (Kept w w9) := Same.trans' (Same.trans' K0.out K4.out) k9
      clear k9
      go_wp2_with fail
      refine bodyPost_ret (results_tmp2 rfl _ _ _) rfl ?_
      exact ⟨by rw [show rv = _ from EV.out]; rfl, K9.out⟩
    by_cases f3 : fl = 3
    · subst f3
      have EV0 : Hid (rv = rHeld R.all ((rSee R.all k r.t.f2).bind fun b => rSee R.all k ((gR R.all b).t.f3 - 1)) k) := (show rv = _ from ERV2.out).trans (by simp)
      cases hs2 : rSee R.all k r.t.f2 with
      | none =>
        have EV : Hid (rv = rHeld R.all none k) := (show rv = _ from EV0.out).trans (by rw [hs2]; rfl)
        clear hs2
        rw [show ix none = (-1 : Int) from rfl]
        go_wp2_with fail
        refine Calls.mono (HHE.out w3 none (fun b (hb : none = some b) => by cases hb) (Same.trans' K0.out K3.out)) ?_
        rintro r9 w9 ⟨rfl, k9⟩
        have K9 : Hid (Kept w w9) := Same.trans' (Same.trans' K0.out K3.out) k9
        clear k9
        go_wp2_with fail
        refine bodyPost_ret (results_tmp2 rfl _ _ _) rfl ?_
        exact ⟨by rw [show rv = _ from EV.out]; rfl, K9.out⟩
      | some q =>
        have hq := rSee_in hs2
        have EV : Hid (rv = rHeld R.all (rSee R.all k ((gR R.all q).t.f3 - 1)) k) := (show rv = _ from EV0.out).trans (by rw [hs2]; rfl)
        obtain ⟨oq, cq, tq, dq, hRq⟩ := HRU.out q hq.1
        have hfq := HF3.out q hq.1
        have z3 := (hRq.on hb (Same.trans' K0.out K3.out)).c3
        have hb3 : b < w3.heap.size := Nat.lt_of_lt_of_le hb (Same.trans' K0.out K3.out).size
        have dq1 : (q : Int) < (L : Int) := by have h9 := hq.1; have h8 : L = R.all.length := EL.out; omega
        have dq2 : decide ((0 : Int) ≤ (q : Int)) = true := decide_eq_true (by omega)
        have dq3 : (0 : Int) ≤ (q : Int) := by omega
        clear hs2 hq hRq
        rw [show ix (some q) = (q : Int) from rfl]
        generalize (gR R.all q).t.f3 = fq at *
        have wq : IntKind.i64.wrap (fq - 1) = fq - 1 := by rw [IntKind.wrap_i64]; omega
        go_wp2_with fail
        refine Calls.mono (HSE.out w3 (fq - 1) (Same.trans' K0.out K3.out)) ?_
        rintro r3 w4 ⟨rfl, k4⟩
        have K4 : Hid (Kept W w4) := Same.trans' K3.out k4
        clear k4
        clear m1 m2 m3 hrl t0' t1 t2 t3 t4 t5 t6 t7 hg
        obtain ⟨⟨m1, m2, m3, hrl⟩, ⟨t0', t1, t2, t3, t4, t5, t6, t7⟩, hg⟩ := HC.out w4 K4.out
        go_wp2_with fail
        refine Calls.mono (HHE.out w4 _ (fun b hb => rSee_in hb) (Same.trans' K0.out K4.out)) ?_
        rintro r9 w9 ⟨rfl, k9⟩
        have K9 : Hid (Kept w w9) := Same.trans' (Same.trans' K0.out K4.out) k9
        clear k9
        go_wp2_with fail
        refine bodyPost_ret (results_tmp2 rfl _ _ _) rfl ?_
        exact ⟨by rw [show rv = _ from EV.out]; rfl, K9.out⟩
    by_cases f4 : fl = 4
    · subst f4
      go_wp2_with fail
      refine Calls.mono (HDI.out w3 (Same.trans' K0.out K3.out)) ?_
      rintro r4 w4 ⟨rfl, k4⟩
      have K4 : Hid (Kept W w4) := Same.trans' K3.out k4
      clear k4
      clear m1 m2 m3 hrl t0' t1 t2 t3 t4 t5 t6 t7 hg
      obtain ⟨⟨m1, m2, m3, hrl⟩, ⟨t0', t1, t2, t3, t4, t5, t6, t7⟩, hg⟩ := HC.out w4 K4.out
      cases hs2 : (rDirt R.all i k R.all.length).1 with
      | none =>
        have EV : Hid (rv = rHeld R.all (rSee R.all k r.t.f2) k) := (show rv = _ from ERV2.out).trans (by rw [hs2]; simp)
        clear hs2
        rw [show ix none = (-1 : Int) from rfl]
        go_wp2_with fail
        refine Calls.mono (HHE.out w4 _ (fun b hb => rSee_in hb) (Same.trans' K0.out K4.out)) ?_
        rintro r9 w9 ⟨rfl, k9⟩
        have K9 : Hid (Kept w w9) := Same.trans' (Same.trans' K0.out K4.out) k9
        clear k9
        go_wp2_with fail
        refine bodyPost_ret (results_tmp2 rfl _ _ _) rfl ?_
        exact ⟨by rw [show rv = _ from EV.out]; rfl, K9.out⟩
      | some q =>
        have hq := rDirt_in _ hs2
        have EV : Hid (rv = rHeld R.all (some q) k) := (show rv = _ from ERV2.out).trans (by rw [hs2]; simp)
        have dq2 : decide ((0 : Int) ≤ (q : Int)) = true := decide_eq_true (by omega)
        have dq3 : (0 : Int) ≤ (q : Int) := by omega
        have HQ : Hid _ := hq
        clear hs2 hq
        rw [show ix (some q) = (q : Int) from rfl]
        go_wp2_with fail
        refine Calls.mono (HHE.out w4 (some q) (fun b (hb : some q = some b) => by cases hb; exact HQ.out) (Same.trans' K0.out K4.out)) ?_
        rintro r9 w9 ⟨rfl, k9⟩
        have K9 : Hid (Kept w w9) := Same.trans' (Same.trans' K0.out K4.out) k9
        clear k9
        go_wp2_with fail
        refine bodyPost_ret (results_tmp2 rfl _ _ _) rfl ?_
        exact ⟨by rw [show rv = _ from EV.out]; rfl, K9.out⟩
    have EV : Hid (rv = rHeld R.all (rSee R.all k r.t.f2) k) := (show rv = _ from ERV2.out).trans (by rw [if_neg (fun h9 => f4 h9.1), if_neg f3, if_neg f2])
    have g2 : (fl == 2) = false := by simpa using f2
    have g3 : (fl == 3) = false := by simpa using f3
    have g4 : (fl == 4) = false := by simpa using f4
    go_wp2_with fail
    refine Calls.mono (HHE.out w3 _ (fun b hb => rSee_in hb) (Same.trans' K0.out K3.out)) ?_
    rintro r9 w9 ⟨rfl, k9⟩
    have K9 : Hid (Kept w w9) := Same.trans' (Same.trans' K0.out K3.out) k9
    clear k9
    go_wp2_with fail
    refine bodyPost_ret (results_tmp2 rfl _ _ _) rfl ?_
    exact ⟨by rw [show rv = _ from EV.out]; rfl, K9.out⟩
end Go.Proofs.Ytmghmacgljihcaa
