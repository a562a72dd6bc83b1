/- What is proved: what the document's machine emits; no condition. -/
import Derived.Test.YtbjmdpfoeeadeaaMZa
import Derived.Test.YtbjmdpfoeeadeaaMZb
import Derived.Test.YtbjmdpfoeeadeaaMZc
import Derived.Test.YtbjmdpfoeeadeaaMZd
import Derived.Test.YtbjmdpfoeeadeaaMMem
import Derived.Test.YtbjmdpfoeeadeaaMPla
namespace Go.Proofs.Ytbjmdpfoeeadeaa.Ch.Mc
open Go.RowKit

/-- Bounds that every step keeps. -/
structure Rb (R : Rr) : Prop where
  o : ∀ r ∈ R.all, r.t.ops.length ≤ 16 ∧ r.ts.length = r.t.ops.length
  f : ∀ r ∈ R.all, -1099511627776 ≤ r.t.f3 ∧ r.t.f3 ≤ 1099511627776
theorem rCode_zero {n : Nat} {R : Rr} {s : Stp} (h : rCode n R s = 0) : codeB n s = 0 ∧ (s.kind = 1 → rAct R.all s.ses = none ∧ R.all.length < 4096) ∧ (s.kind ≠ 1 → ∃ i, rAct R.all s.ses = some i) ∧ (isO s → opsR R s.ses < 16) ∧ R.clock ≤ 1099511627775 - s.gap := by
  unfold rCode at h
  split at h
  · rename_i h1; exact absurd h h1
  rename_i h1
  have h1' : codeB n s = 0 := by simpa using h1
  split at h
  · cases h
  rename_i h2
  split at h
  · cases h
  rename_i h3
  split at h
  · cases h
  rename_i h4
  split at h
  · cases h
  rename_i h5
  split at h
  · cases h
  rename_i h6
  refine ⟨h1', fun e => ⟨?_, ?_⟩, fun e => ?_, fun e => ?_, by omega⟩
  · cases ha : rAct R.all s.ses with
    | none => rfl
    | some i => exact absurd ⟨e, by rw [ha]; rfl⟩ h2
  · exact Nat.lt_of_not_le fun h9 => h4 ⟨e, h9⟩
  · cases ha : rAct R.all s.ses with
    | none => exact absurd ⟨e, by rw [ha]; rfl⟩ h3
    | some i => exact ⟨i, rfl⟩
  · exact Nat.lt_of_not_le fun h9 => h5 ⟨e, h9⟩
theorem Rb.set {R : Rr} (h : Rb R) {i : Nat} {r : Rn} {c : Int} {e : List Nat} (ho : r.t.ops.length ≤ 16 ∧ r.ts.length = r.t.ops.length) (hf : -1099511627776 ≤ r.t.f3 ∧ r.t.f3 ≤ 1099511627776) : Rb ⟨c, R.all.set i r, e⟩ :=
  ⟨fun q hq => (List.mem_or_eq_of_mem_set hq).elim (h.o q) (fun e => by subst e; exact ho), fun q hq => (List.mem_or_eq_of_mem_set hq).elim (h.f q) (fun e => by subst e; exact hf)⟩
theorem Rb.step {n : Nat} {fl : Int} {R : Rr} (h : Rb R) (hc : 0 ≤ R.clock) (s : Stp) : Rb (rDo n fl R s).1 := by
  unfold rDo
  by_cases h0 : rCode n R s = 0
  · rw [if_pos h0]
    obtain ⟨hB, h1, h2, h3, h4⟩ := rCode_zero h0
    obtain ⟨⟨b1, b2⟩, -, ⟨b3, b4⟩, -, -⟩ := codeB_zero hB
    unfold rGo
    cases ha : rAct R.all s.ses with
    | none =>
      rw [show rAct (rTick R (R.clock + 1 + s.gap)).all s.ses = none from ha]
      refine ⟨fun r hr => ?_, fun r hr => ?_⟩ <;> rcases List.mem_append.1 hr with hr | hr
      · exact h.o r hr
      · obtain rfl := List.mem_singleton.1 hr
        exact ⟨by simp, rfl⟩
      · exact h.f r hr
      · obtain rfl := List.mem_singleton.1 hr
        exact ⟨show (-1099511627776 : Int) ≤ 0 by decide, show (0 : Int) ≤ 1099511627776 by decide⟩
    | some i =>
      rw [show rAct (rTick R (R.clock + 1 + s.gap)).all s.ses = some i from ha]
      obtain ⟨r, hr, -⟩ := rAct_in ha
      have hm := List.mem_of_getElem? hr
      have hg : gR R.all i = r := gR_of hr
      have ho := h.o r hm
      have hf := h.f r hm
      have hop : isO s → ∀ o : OpM, Rb (rOp (rTick R (R.clock + 1 + s.gap)) i o) := fun hi o => by
        have h9 := h3 hi
        unfold opsR at h9
        rw [ha] at h9
        simp only [hg] at h9
        unfold rOp addR
        rw [show gR (rTick R (R.clock + 1 + s.gap)).all i = r from hg]
        refine h.set ⟨?_, ?_⟩ hf
        · simp only [List.length_append, List.length_cons, List.length_nil]; omega
        · simp only [List.length_append, List.length_cons, List.length_nil]; omega
      have hen : ∀ st, Rb (rEnd (rTick R (R.clock + 1 + s.gap)) i st) := fun st => by
        unfold rEnd endR endT
        rw [show gR (rTick R (R.clock + 1 + s.gap)).all i = r from hg]
        refine h.set ho ?_
        show -1099511627776 ≤ R.clock + 1 + s.gap ∧ R.clock + 1 + s.gap ≤ 1099511627776
        omega
      simp only
      split
      · rename_i e; exact hop (.inl e) _
      split
      · rename_i e; exact hop (.inr (.inl e)) _
      split
      · rename_i e; exact hop (.inr (.inr e)) _
      split
      · exact hen _
      · exact hen _
  · rw [if_neg h0]
    exact h
/-- Any step. -/
theorem rdo_any {tg : Nat → Ug} {w : World} {rb n : Nat} {fl : Int} {R : Rr} {av ev : Value} {L : List Rt} (h : Rm tg w rb n fl R av ev L) (hs : Sml R) (hf : Rb R) (hc : 0 ≤ R.clock ∧ R.clock ≤ 1099511627776) (s : Stp) (hk : s.key.size ≤ maxLen) (hv : s.value.size ≤ maxLen) : RoP tg w rb n fl s (rDo n fl R s).1 (rDo n fl R s).2 (rCode n R s) := by
  unfold rDo
  by_cases h0 : rCode n R s = 0
  · rw [if_pos h0, h0]
    obtain ⟨hB, h1, h2, h3, h4⟩ := rCode_zero h0
    obtain ⟨⟨b1, b2⟩, -, hgp, -, -⟩ := codeB_zero hB
    obtain ⟨kd, se, gp, k, v⟩ := s
    simp only at hk hv h1 h2 h4 b1 b2 hgp ⊢
    unfold rGo
    by_cases e1 : kd = 1
    · subst e1
      obtain ⟨ha, hl⟩ := h1 rfl
      rw [show rAct (rTick R (R.clock + 1 + gp)).all se = none from ha]
      exact rdo_1 h hs hc se gp k v hk hv h0 hgp ha hl
    · obtain ⟨i, ha⟩ := h2 e1
      rw [show rAct (rTick R (R.clock + 1 + gp)).all se = some i from ha]
      have hop : isO ⟨kd, se, gp, k, v⟩ → (gR R.all i).t.ops.length < 16 := fun hi => by
        have h9 := h3 hi
        unfold opsR at h9
        rw [show rAct R.all _ = some i from ha] at h9
        exact h9
      simp only
      by_cases e2 : kd = 2
      · subst e2
        rw [if_pos rfl]
        exact rdo_2 h hs hc hf.f se gp k v hk hv h0 hgp ha (hop (.inl rfl))
      rw [if_neg e2]
      by_cases e3 : kd = 3
      · subst e3
        rw [if_pos rfl]
        exact rdo_3 h hs hc se gp k v hk hv h0 hgp ha (hop (.inr (.inl rfl)))
      rw [if_neg e3]
      by_cases e4 : kd = 4
      · subst e4
        rw [if_pos rfl]
        exact rdo_4 h hs hc se gp k v hk hv h0 hgp ha (hop (.inr (.inr rfl)))
      rw [if_neg e4]
      by_cases e5 : kd = 5
      · subst e5
        rw [if_pos rfl]
        exact rdo_5 h hs hc se gp k v hk hv h0 hgp ha
      rw [if_neg e5]
      obtain rfl : kd = 6 := by omega
      exact rdo_6 h hs hc se gp k v hk hv h0 hgp ha
  · rw [if_neg h0]
    exact rdo_no h hs s hk hv h0
end Go.Proofs.Ytbjmdpfoeeadeaa.Ch.Mc

namespace Go.Proofs.Ytbjmdpfoeeadeaa.Ch.Mc
open Go.RowKit

/-- What the document's Log gives. -/
def RlP (w : World) (log : List TxM) (e : Ending) (w' : World) : Prop := ∃ v L, e = .returned v ∧ OwnT w.heap.size w' v L ∧ L.map (·.1) = log ∧ (∀ x ∈ L, OwnO 0 w' x.2 x.1.ops) ∧ Kept w w'
set_option maxRecDepth 100000 in
set_option maxHeartbeats 3200000 in
theorem rlog15 {tg : Nat → Ug} {w : World} {rb n : Nat} {fl : Int} {R : Rr} {av ev : Value} {L : List Rt} (h : Rm tg w rb n fl R av ev L) (hs : Sml R) (hin : ∀ i ∈ R.ends, i < R.all.length) : Calls Try.prog 45 #[.pointer (some ⟨rb, 0, none⟩)] w (RlP w (R.ends.map fun i => (gR R.all i).t)) := by
  have HM : Hid _ := h
  have HIN : Hid _ := hin
  have hne := hs.e
  have hnl := hs.n
  obtain ⟨ne, ene⟩ : ∃ ne, ne = R.ends.length := ⟨_, rfl⟩
  rw [← ene] at hne
  have ENE : Hid (ne = R.ends.length) := ene
  have ho := h.obj
  have hrl := lt_of_heap ho
  obtain ⟨ea, ecp, eev, -⟩ := row_shape h.ends
  rw [List.length_map, ← ene] at eev
  have y4 : w.cell? ⟨rb, 4, none⟩ = some (.slice ea ne ecp) := (cell_of ho 4).trans (by rw [eev]; rfl)
  have y3 : w.cell? ⟨rb, 3, none⟩ = some av := (cell_of ho 3).trans rfl
  have EEV : Hid (ev = .slice ea ne ecp) := eev
  clear h hs hin ene eev ho
  unfold RlP
  go_enter Try.func45, Try.ntmps45
  go_wp2_with fail
  go_loopw [3, 4] (fun s t wr => ∃ (j : Nat) (L' : List (TxM × Value)), t = .int .i64 j ∧ j ≤ ne ∧ OwnT w.heap.size wr s L' ∧ L'.map (·.1) = (R.ends.take j).map (fun i => (gR R.all i).t) ∧ (∀ x ∈ L', OwnO 0 w x.2 x.1.ops) ∧ Kept w wr) (fun _ t _ => ne - (intOf t).toNat)
  case atStart => exact ⟨0, [], rfl, Nat.zero_le _, ⟨rfl, .inl ⟨rfl, rfl⟩⟩, rfl, (fun x hx => by cases hx), Same.refl _ _⟩
  case round =>
    obtain ⟨j, L', rfl, hj, hT, hmap, hops, kj⟩ := hrel
    rename World => WL
    obtain ⟨va, vc, rfl, -⟩ := row_shape hT
    have HT : Hid (OwnT w.heap.size WL (.slice va L'.length vc) L') := hT
    have HMP : Hid _ := hmap
    have HOPS : Hid (∀ x ∈ L', OwnO 0 w x.2 x.1.ops) := hops
    have KJ : Hid (Kept w WL) := kj
    have n4 : WL.cell? ⟨rb, 4, none⟩ = some (.slice ea ne ecp) := (kj.cell (p := ⟨rb, 4, none⟩) hrl (fun e => e)).trans y4
    have hrj := Nat.lt_of_lt_of_le hrl kj.size
    have hLj : L'.length = j := by
      have := congrArg List.length hmap
      rw [List.length_map, List.length_map, List.length_take, ← show ne = _ from ENE.out] at this
      omega
    have HLJ : Hid (L'.length = j) := hLj
    clear hT hmap hops kj hLj
    by_cases hlt : j < ne
    · have d1 : decide ((j : Int) < (ne : Int)) = true := decide_eq_true (by omega)
      have hlt2 : (j : Int) < (ne : Int) := by omega
      obtain ⟨q, hq⟩ : ∃ q, R.ends[j]? = some q := ⟨_, List.getElem?_eq_getElem (by rw [← show ne = _ from ENE.out]; exact hlt)⟩
      have hqi := HIN.out q (List.mem_of_getElem? hq)
      obtain ⟨x, hx, ex⟩ : ∃ x, L[q]? = some x ∧ x.1 = gR R.all q := by
        have hm := HM.out.map
        have hl : q < L.length := by rw [← hm, List.length_map] at hqi; exact hqi
        exact ⟨L[q], List.getElem?_eq_getElem hl, by rw [← hm]; exact (gR_of (by rw [List.getElem?_map, List.getElem?_eq_getElem hl]; rfl)).symm⟩
      have HTK : Hid (R.ends.take (j + 1) = R.ends.take j ++ [q]) := (by rw [List.take_add_one, hq]; rfl : R.ends.take (j + 1) = R.ends.take j ++ [q])
      obtain ⟨b, cap, ea3⟩ := Rq.place (Rq.start HM.out) hx
      obtain ⟨hbl, hcl, -⟩ := Rq.runs (Rq.start HM.out) ea3 hx
      obtain ⟨oa, oc, eo, -⟩ := OwnO.ops (HM.out.row q x hx).1
      have hxo := (HM.out.row q x hx).1
      have HXO : Hid (OwnO 0 w x.2.1 x.1.t.ops) := hxo
      have EO : Hid (x.2.1 = .slice oa x.1.t.ops.length oc) := eo
      have EX : Hid (x.1 = gR R.all q) := ex
      have hen := HM.out.ends
      rw [show ev = _ from EEV.out] at hen
      obtain ⟨eb, rfl, -, heb, ce⟩ := row_cell hen (j := j) (u := .int .i64 (q : Int)) (by rw [List.getElem?_map, List.getElem?_map, hq]; rfl)
      obtain ⟨on, eon⟩ : ∃ on, on = x.1.t.ops.length := ⟨_, rfl⟩
      rw [← eon] at EO
      obtain ⟨ll, ell⟩ : ∃ ll, ll = L.length := ⟨_, rfl⟩
      have hql : q < ll := by rw [ell]; exact (List.getElem?_eq_some_iff.1 hx).1
      have hqll : (q : Int) < (ll : Int) := by omega
      have hll : ll ≤ 4096 := by have h9 := congrArg List.length HM.out.map; rw [List.length_map] at h9; omega
      have y3' : w.cell? ⟨rb, 3, none⟩ = some (.slice (some ⟨b, 0, none⟩) ll cap) := by rw [y3, ea3, ell]
      have hc7 := hcl 7 _ (by decide) rfl
      rw [show x.2.1 = _ from EO.out] at hc7
      have HBK : Hid (∀ W' : World, Kept w W' → (W'.cell? ⟨rb, 3, none⟩ = some (.slice (some ⟨b, 0, none⟩) ll cap) ∧ rb < W'.heap.size ∧ W'.cell? ⟨rb, 4, none⟩ = some (.slice (some ⟨eb, 0, none⟩) ne ecp)) ∧ W'.cell? ⟨eb, j, none⟩ = some (.int .i64 (q : Int)) ∧ W'.cell? ⟨b, q * 10, none⟩ = some (.int .i64 x.1.t.f0) ∧ W'.cell? ⟨b, q * 10 + 1, none⟩ = some (.int .i64 x.1.t.f1) ∧ W'.cell? ⟨b, q * 10 + 2, none⟩ = some (.int .i64 x.1.t.f2) ∧ W'.cell? ⟨b, q * 10 + 3, none⟩ = some (.int .i64 x.1.t.f3) ∧ W'.cell? ⟨b, q * 10 + 4, none⟩ = some (.int .i64 x.1.t.f4) ∧ W'.cell? ⟨b, q * 10 + 5, none⟩ = some (.int .i64 x.1.t.f5) ∧ W'.cell? ⟨b, q * 10 + 6, none⟩ = some (.int .i64 x.1.t.f6) ∧ W'.cell? ⟨b, q * 10 + 7, none⟩ = some (.slice oa on oc)) := fun W' k' => by
        have t : ∀ o, W'.cell? ⟨b, o, none⟩ = w.cell? ⟨b, o, none⟩ := fun o => k'.cell (p := ⟨b, o, none⟩) hbl (fun e => e)
        exact ⟨⟨(k'.cell (p := ⟨rb, 3, none⟩) hrl (fun e => e)).trans y3', Nat.lt_of_lt_of_le hrl k'.size, (k'.cell (p := ⟨rb, 4, none⟩) hrl (fun e => e)).trans y4⟩, (k'.cell (p := ⟨eb, j, none⟩) heb (fun e => e)).trans ce, (t _).trans (hcl 0 _ (by decide) rfl), (t _).trans (hcl 1 _ (by decide) rfl), (t _).trans (hcl 2 _ (by decide) rfl), (t _).trans (hcl 3 _ (by decide) rfl), (t _).trans (hcl 4 _ (by decide) rfl), (t _).trans (hcl 5 _ (by decide) rfl), (t _).trans (hcl 6 _ (by decide) rfl), (t _).trans hc7⟩
      have HAP : Hid (∀ W' : World, Kept WL W' → ∀ g', W'.heap[g']? = some (txO x.1.t (.slice oa on oc)) → ∀ ty, ∃ v' w', (Builtin.append_ #[59, 59] ty #[.slice va L'.length vc, .slice (some ⟨g', 0, none⟩) 1 1]).run Try.prog W' = .ok v' w' ∧ (OwnT w.heap.size w' v' (L' ++ [(x.1.t, .slice oa on oc)]) ∧ Kept w w' ∧ ∃ a n c, v' = .slice a n c)) := fun W' k' g' hg' ty => by
        have hT' := row_kept HT.out k' (fun _ _ e => e)
        obtain ⟨v', w', h1, h2, h3, -⟩ := app_txn (x.1.t, .slice oa on oc) hT' rfl hg' (by have := HLJ.out; omega) (Nat.le_trans KJ.out.size k'.size) ty
        refine ⟨v', w', h1, h2, Same.trans (Same.trans' KJ.out k') h3 (fun b hb e => ?_), by obtain ⟨a9, c9, e9, -⟩ := row_shape h2; exact ⟨a9, _, c9, e9⟩⟩
        obtain ⟨h9, -⟩ := row_block hT' e
        omega
      have hj1 : (j : Int) + 1 ≤ 9223372036854775807 := by omega
      have HNX : Hid (∀ w' v', OwnT w.heap.size w' v' (L' ++ [(x.1.t, .slice oa on oc)]) → Kept w w' → ∃ (j' : Nat) (L'' : List (TxM × Value)), Value.int .i64 ((j : Int) + 1) = .int .i64 j' ∧ j' ≤ ne ∧ OwnT w.heap.size w' v' L'' ∧ L''.map (·.1) = (R.ends.take j').map (fun i => (gR R.all i).t) ∧ (∀ x ∈ L'', OwnO 0 w x.2 x.1.ops) ∧ Kept w w') := fun w' v' h1 h2 => by
        refine ⟨j + 1, _, by simp, hlt, h1, ?_, fun y hy => ?_, h2⟩
        · rw [List.map_append, show L'.map (·.1) = _ from HMP.out, HTK.out, List.map_append]
          simp only [List.map_cons, List.map_nil]
          rw [show x.1 = _ from EX.out]
        · rcases List.mem_append.1 hy with hy | hy
          · exact HOPS.out y hy
          · obtain rfl := List.mem_singleton.1 hy
            have := HXO.out
            rw [show x.2.1 = _ from EO.out] at this
            exact this
      clear hq hqi hx ex ea3 hcl eo hxo hen eon ell hc7 y3' ce
      go_upto_region 5 with fail
      generalize L'.length = ln at *
      refine wp_region_held_drew (S := fun W' => (W'.cell? ⟨rb, 3, none⟩ = some (.slice (some ⟨b, 0, none⟩) ll cap) ∧ rb < W'.heap.size ∧ W'.cell? ⟨rb, 4, none⟩ = some (.slice (some ⟨eb, 0, none⟩) ne ecp)) ∧ W'.cell? ⟨eb, j, none⟩ = some (.int .i64 (q : Int)) ∧ W'.cell? ⟨b, q * 10, none⟩ = some (.int .i64 x.1.t.f0) ∧ W'.cell? ⟨b, q * 10 + 1, none⟩ = some (.int .i64 x.1.t.f1) ∧ W'.cell? ⟨b, q * 10 + 2, none⟩ = some (.int .i64 x.1.t.f2) ∧ W'.cell? ⟨b, q * 10 + 3, none⟩ = some (.int .i64 x.1.t.f3) ∧ W'.cell? ⟨b, q * 10 + 4, none⟩ = some (.int .i64 x.1.t.f4) ∧ W'.cell? ⟨b, q * 10 + 5, none⟩ = some (.int .i64 x.1.t.f5) ∧ W'.cell? ⟨b, q * 10 + 6, none⟩ = some (.int .i64 x.1.t.f6) ∧ W'.cell? ⟨b, q * 10 + 7, none⟩ = some (.slice oa on oc)) (by kernel_rfl) (HBK.out _ (by (repeat (first | exact KJ.out | apply Same.alloc | apply Same.drew | apply Same.drewN)); done)) (fun hHeld => ?_)
      (try simp only [Act.put, List.getElem_toArray, List.getElem_cons_succ, List.getElem_cons_zero, List.setIfInBounds_toArray, List.set_cons_zero, List.set_cons_succ])
      refine wpAnyH_take (i := 0) (v := (.slice va ln vc)) rfl (by kernel_rfl) (by kernel_rfl) (by kernel_rfl) (fun _ _ _ h => h) (Or.inl ⟨by rfl, fun w hSw => by (dsimp only at hSw; go_simp)⟩) (by assumption) ?_
      (try simp only [Act.put, List.getElem_toArray, List.getElem_cons_zero, List.setIfInBounds_toArray, List.set_cons_zero, List.set_cons_succ])
      refine wpAnyH_take (i := 1) (v := (.pointer (some ⟨rb, 0, none⟩))) rfl (by kernel_rfl) (by kernel_rfl) (by kernel_rfl) (fun _ _ _ h => h) (Or.inl ⟨by rfl, fun w hSw => by (dsimp only at hSw; go_simp)⟩) (by assumption) ?_
      (try simp only [Act.put, List.getElem_toArray, List.getElem_cons_succ, List.getElem_cons_zero, List.setIfInBounds_toArray, List.set_cons_zero, List.set_cons_succ])
      refine wpAnyH_take (i := 2) (v := (.pointer (some ⟨rb, 0, none⟩))) rfl (by kernel_rfl) (by kernel_rfl) (by kernel_rfl) (fun _ _ _ h => h) (Or.inl ⟨by rfl, fun w hSw => by (dsimp only at hSw; go_simp)⟩) (by assumption) ?_
      (try simp only [Act.put, List.getElem_toArray, List.getElem_cons_succ, List.getElem_cons_zero, List.setIfInBounds_toArray, List.set_cons_zero, List.set_cons_succ])
      refine wpAnyH_take (i := 3) (v := (.pointer (some ⟨rb, 3, none⟩))) rfl (by kernel_rfl) (by kernel_rfl) (by kernel_rfl) (fun _ _ _ h => h) (Or.inl ⟨by rfl, fun w hSw => by (dsimp only at hSw; go_simp)⟩) (by assumption) ?_
      (try simp only [Act.put, List.getElem_toArray, List.getElem_cons_succ, List.getElem_cons_zero, List.setIfInBounds_toArray, List.set_cons_zero, List.set_cons_succ])
      refine wpAnyH_take (i := 4) (v := (.slice (some ⟨b, 0, none⟩) ll cap)) rfl (by kernel_rfl) (by kernel_rfl) (by kernel_rfl) (fun _ _ _ h => h) (Or.inl ⟨by rfl, fun w hSw => by (dsimp only at hSw; go_simp)⟩) (by assumption) ?_
      (try simp only [Act.put, List.getElem_toArray, List.getElem_cons_succ, List.getElem_cons_zero, List.setIfInBounds_toArray, List.set_cons_zero, List.set_cons_succ])
      refine wpAnyH_take (i := 5) (v := (.pointer (some ⟨rb, 0, none⟩))) rfl (by kernel_rfl) (by kernel_rfl) (by kernel_rfl) (fun _ _ _ h => h) (Or.inl ⟨by rfl, fun w hSw => by (dsimp only at hSw; go_simp)⟩) (by assumption) ?_
      (try simp only [Act.put, List.getElem_toArray, List.getElem_cons_succ, List.getElem_cons_zero, List.setIfInBounds_toArray, List.set_cons_zero, List.set_cons_succ])
      refine wpAnyH_take (i := 6) (v := (.pointer (some ⟨rb, 0, none⟩))) rfl (by kernel_rfl) (by kernel_rfl) (by kernel_rfl) (fun _ _ _ h => h) (Or.inl ⟨by rfl, fun w hSw => by (dsimp only at hSw; go_simp)⟩) (by assumption) ?_
      (try simp only [Act.put, List.getElem_toArray, List.getElem_cons_succ, List.getElem_cons_zero, List.setIfInBounds_toArray, List.set_cons_zero, List.set_cons_succ])
      refine wpAnyH_take (i := 7) (v := (.pointer (some ⟨rb, 4, none⟩))) rfl (by kernel_rfl) (by kernel_rfl) (by kernel_rfl) (fun _ _ _ h => h) (Or.inl ⟨by rfl, fun w hSw => by (dsimp only at hSw; go_simp)⟩) (by assumption) ?_
      (try simp only [Act.put, List.getElem_toArray, List.getElem_cons_succ, List.getElem_cons_zero, List.setIfInBounds_toArray, List.set_cons_zero, List.set_cons_succ])
      refine wpAnyH_take (i := 8) (v := (.slice (some ⟨eb, 0, none⟩) ne ecp)) rfl (by kernel_rfl) (by kernel_rfl) (by kernel_rfl) (fun _ _ _ h => h) (Or.inl ⟨by rfl, fun w hSw => by (dsimp only at hSw; go_simp)⟩) (by assumption) ?_
      (try simp only [Act.put, List.getElem_toArray, List.getElem_cons_succ, List.getElem_cons_zero, List.setIfInBounds_toArray, List.set_cons_zero, List.set_cons_succ])
      refine wpAnyH_take (i := 9) (v := (.int .i64 (j : Int))) rfl (by kernel_rfl) (by kernel_rfl) (by kernel_rfl) (fun _ _ _ h => h) (Or.inl ⟨by rfl, fun w hSw => by (dsimp only at hSw; go_simp)⟩) (by assumption) ?_
      (try simp only [Act.put, List.getElem_toArray, List.getElem_cons_succ, List.getElem_cons_zero, List.setIfInBounds_toArray, List.set_cons_zero, List.set_cons_succ])
      refine wpAnyH_take (i := 10) (v := (.pointer (some ⟨eb, j, none⟩))) rfl (by kernel_rfl) (by kernel_rfl) (by kernel_rfl) (fun _ _ _ h => h) (Or.inl ⟨by rfl, fun w hSw => by (dsimp only at hSw; go_simp)⟩) (by assumption) ?_
      (try simp only [Act.put, List.getElem_toArray, List.getElem_cons_succ, List.getElem_cons_zero, List.setIfInBounds_toArray, List.set_cons_zero, List.set_cons_succ])
      refine wpAnyH_take (i := 11) (v := (.int .i64 (q : Int))) rfl (by kernel_rfl) (by kernel_rfl) (by kernel_rfl) (fun _ _ _ h => h) (Or.inl ⟨by rfl, fun w hSw => by (dsimp only at hSw; go_simp)⟩) (by assumption) ?_
      (try simp only [Act.put, List.getElem_toArray, List.getElem_cons_succ, List.getElem_cons_zero, List.setIfInBounds_toArray, List.set_cons_zero, List.set_cons_succ])
      refine wpAnyH_take (i := 12) (v := (.pointer (some ⟨b, q * 10, none⟩))) rfl (by kernel_rfl) (by kernel_rfl) (by kernel_rfl) (fun _ _ _ h => h) (Or.inl ⟨by rfl, fun w hSw => by (dsimp only at hSw; go_simp)⟩) (by assumption) ?_
      (try simp only [Act.put, List.getElem_toArray, List.getElem_cons_succ, List.getElem_cons_zero, List.setIfInBounds_toArray, List.set_cons_zero, List.set_cons_succ])
      refine wpAnyH_take (i := 13) (v := (.pointer (some ⟨b, q * 10, none⟩))) rfl (by kernel_rfl) (by kernel_rfl) (by kernel_rfl) (fun _ _ _ h => h) (Or.inl ⟨by rfl, fun w hSw => by (dsimp only at hSw; go_simp)⟩) (by assumption) ?_
      (try simp only [Act.put, List.getElem_toArray, List.getElem_cons_succ, List.getElem_cons_zero, List.setIfInBounds_toArray, List.set_cons_zero, List.set_cons_succ])
      refine wpAnyH_take (i := 14) (v := (txA x.1.t (.slice oa on oc))) rfl (by kernel_rfl) (by kernel_rfl) (by kernel_rfl) (fun _ _ _ h => h) (Or.inl ⟨by rfl, fun w hSw => by (dsimp only at hSw; go_simp)⟩) (by assumption) ?_
      (try simp only [Act.put, List.getElem_toArray, List.getElem_cons_succ, List.getElem_cons_zero, List.setIfInBounds_toArray, List.set_cons_zero, List.set_cons_succ])
      refine wpAnyH_ready (rs := [15]) (by kernel_rfl) (by simp) (AllReadyH.cons rfl (fun K hK => ?_) AllReadyH.nil)
      go_simp
      refine hK.out _ _ (HBK.out _ (by (repeat (first | exact KJ.out | apply Same.alloc | apply Same.drew | apply Same.drewN)); done)) (fun hHeld1 => ?_)
      clear hK K hHeld
      (try simp only [Act.put, List.getElem_toArray, List.getElem_cons_succ, List.getElem_cons_zero, List.setIfInBounds_toArray, List.set_cons_zero, List.set_cons_succ])
      refine wpAnyH_ready (rs := [16]) (by kernel_rfl) (by simp) (AllReadyH.cons rfl (fun K hK => ?_) AllReadyH.nil)
      refine step_app rfl (.tmp 14) (.tmp 29) 59 rfl _ _ rfl rfl _ (HAP.out _ (by (repeat (first | exact Same.refl _ _ | apply Same.alloc | apply Same.drew | apply Same.drewN)); done) _ (by exact heap_new _ _)) ?_
      rintro v8 w8 ⟨o8, k8, a8, n8, c8, rfl⟩
      refine hK.out _ _ (HBK.out _ k8) (fun hHeld2 => ?_)
      clear hK K hHeld1 HAP HBK
      (try simp only [Act.put, List.getElem_toArray, List.getElem_cons_succ, List.getElem_cons_zero, List.setIfInBounds_toArray, List.set_cons_zero, List.set_cons_succ])
      refine wpAnyH_take (i := 17) (v := (.slice a8 n8 c8)) rfl (by kernel_rfl) (by kernel_rfl) (by kernel_rfl) (fun _ _ _ h => h) (Or.inl ⟨by rfl, fun w hSw => by (dsimp only at hSw; go_simp)⟩) (by assumption) ?_
      (try simp only [Act.put, List.getElem_toArray, List.getElem_cons_succ, List.getElem_cons_zero, List.setIfInBounds_toArray, List.set_cons_zero, List.set_cons_succ])
      refine wpAnyH_done (by kernel_rfl) ?_ _
      go_wp2_with fail
      have O8 : Hid _ := HNX.out _ _ o8 k8
      go_roundw
      case rel => exact O8.out
      case measure => simp only [intOf]; omega
    · obtain rfl : ne = j := by omega
      have d1 : decide ((ne : Int) < (ne : Int)) = false := decide_eq_false (by omega)
      have HF : Hid (L'.map (·.1) = R.ends.map fun i => (gR R.all i).t) := (by rw [show L'.map (·.1) = _ from HMP.out, show ne = _ from ENE.out, List.take_length] : L'.map (·.1) = R.ends.map fun i => (gR R.all i).t)
      generalize L'.length = ln at *
      go_wp2_with fail
      go_ret
      exact ⟨_, L', rfl, HT.out, HF.out, fun x hx => row_kept (HOPS.out x hx) KJ.out (fun _ _ e => e), KJ.out⟩
end Go.Proofs.Ytbjmdpfoeeadeaa.Ch.Mc

namespace Go.Proofs.Ytbjmdpfoeeadeaa.Ch.Mc
open Go.RowKit

/-- Both tell the same. -/
structure Rp (n : Nat) (fl : Int) (M : Mm) (R : Rr) : Prop where
  l : Rl M R
  b : Rb R
  n : M.ses.length = n
  f : M.flaw = fl
  i : Inv M
theorem Rp.sml {n : Nat} {fl : Int} {M : Mm} {R : Rr} (h : Rp n fl M R) : Sml R := by
  have h1 := h.l.beg
  have h2 := h.i.b1
  have h3 := h.i.cnt
  have h4 := congrArg List.length h.l.log
  rw [List.length_map] at h4
  have h5 : (0 : Int) ≤ acts M.ses := by unfold acts; omega
  exact ⟨by omega, by omega, h.b.o⟩
theorem Rp.clock {n : Nat} {fl : Int} {M : Mm} {R : Rr} (h : Rp n fl M R) : 0 ≤ R.clock ∧ R.clock ≤ 1099511627776 := by rw [h.l.clk]; exact ⟨h.i.c0, h.i.c1⟩
theorem Rp.step {n : Nat} {fl : Int} {M : Mm} {R : Rr} (h : Rp n fl M R) (s : Stp) : Rp n fl (doM M s).1 (rDo n fl R s).1 ∧ (rDo n fl R s).2 = (doM M s).2 ∧ rCode n R s = codeD M s := by
  obtain ⟨hl, hb, rfl, rfl, hi⟩ := h
  obtain ⟨h1, h2⟩ := hl.step hi s
  refine ⟨⟨h2, hb.step (by rw [hl.clk]; exact hi.c0) s, ?_, ?_, hi.step s⟩, h1, hl.code hi s⟩
  · rcases do_rel M s with e | e
    · rw [e]
    · obtain ⟨sn, h9⟩ := e.ses
      rw [h9, List.length_set]
  · rcases do_rel M s with e | e
    · rw [e]
    · exact e.flaw
theorem loadVar_st {w : World} {g : Nat} {s : Stp} (h : w.heap[g]? = some (stO s)) : (loadVar 92 ⟨g, 0, none⟩).run Try.prog w = .ok (stA s) w := by
  obtain ⟨c0, c1, c2, c3, c4⟩ := st_cells h
  clear h
  go_simp
end Go.Proofs.Ytbjmdpfoeeadeaa.Ch.Mc

namespace Go.Proofs.Ytbjmdpfoeeadeaa.Ch.Mc
open Go.RowKit

set_option maxRecDepth 100000 in
set_option maxHeartbeats 1600000 in
theorem rnewBad (w : World) (n fl : Int) (h : (n < 1 ∨ 64 < n) ∨ (fl < 0 ∨ 4 < fl)) : Calls Try.prog 43 #[.int .i64 n, .int .i64 fl] w fun e w' => e = .returned (.tuple #[.pointer none, .int .i64 (if n < 1 ∨ 64 < n then 150 else 158)]) ∧ w' = w := by
  by_cases d1 : n < 1
  · rw [if_pos (.inl d1)]
    have e1 : decide (n < 1) = true := decide_eq_true d1
    go_enter Try.func43, Try.ntmps43
    go_wp2_with fail
    go_ret2
    exact ⟨rfl, rfl⟩
  · have e1 : decide (n < 1) = false := decide_eq_false d1
    by_cases d2 : 64 < n
    · rw [if_pos (.inr d2)]
      have e2 : decide (64 < n) = true := decide_eq_true d2
      go_enter Try.func43, Try.ntmps43
      go_wp2_with fail
      go_ret2
      exact ⟨rfl, rfl⟩
    · rw [if_neg (by omega)]
      have e2 : decide (64 < n) = false := decide_eq_false d2
      by_cases d3 : fl < 0
      · have e3 : decide (fl < 0) = true := decide_eq_true d3
        go_enter Try.func43, Try.ntmps43
        go_wp2_with fail
        go_ret2
        exact ⟨rfl, rfl⟩
      · have e3 : decide (fl < 0) = false := decide_eq_false d3
        have d4 : 4 < fl := by omega
        have e4 : decide (4 < fl) = true := decide_eq_true d4
        go_enter Try.func43, Try.ntmps43
        go_wp2_with fail
        go_ret2
        exact ⟨rfl, rfl⟩
set_option maxRecDepth 100000 in
set_option maxHeartbeats 1600000 in
theorem rnew15 (w : World) (n : Nat) (fl : Int) (h0 : 1 ≤ n) (h1 : n ≤ 64) (f0 : 0 ≤ fl) (f1 : fl ≤ 4) : Calls Try.prog 43 #[.int .i64 (n : Int), .int .i64 fl] w fun e w' => ∃ rb, e = .returned (.tuple #[.pointer (some ⟨rb, 0, none⟩), .int .i64 0]) ∧ ∃ tg, Rm tg w' rb n fl ⟨0, [], []⟩ (.slice none 0 0) (.slice none 0 0) [] ∧ (∀ b, tg b ≠ .out → w.heap.size ≤ b) ∧ Kept w w' := by
  have d1 : ¬ (n : Int) < 1 := by omega
  have d2 : ¬ 64 < (n : Int) := by omega
  have d3 : ¬ fl < 0 := by omega
  have d4 : ¬ 4 < fl := by omega
  have e1 : decide ((n : Int) < 1) = false := decide_eq_false d1
  have e2 : decide (64 < (n : Int)) = false := decide_eq_false d2
  have e3 : decide (fl < 0) = false := decide_eq_false d3
  have e4 : decide (4 < fl) = false := decide_eq_false d4
  go_enter Try.func43, Try.ntmps43
  go_wp2_with fail
  go_ret2
  refine ⟨w.heap.size, rfl, fun b => if b = w.heap.size then Ug.mach else Ug.out, ⟨heap_new w _, (by simp), ⟨rfl, .inl ⟨rfl, rfl⟩⟩, (fun b hb => by cases hb), ⟨rfl, .inl ⟨rfl, rfl⟩⟩, (fun b hb => by cases hb), rfl, (fun i x hx => by cases hx), fun b hb => ?_⟩, fun b hb => ?_, (Same.refl _ _).alloc _⟩
  · have : b = w.heap.size := Classical.byContradiction fun e => hb (if_neg e)
    rw [World.size_alloc]
    omega
  · have : b = w.heap.size := Classical.byContradiction fun e => hb (if_neg e)
    omega
end Go.Proofs.Ytbjmdpfoeeadeaa.Ch.Mc

namespace Go.Proofs.Ytbjmdpfoeeadeaa.Ch.Mc
open Go.RowKit

set_option maxRecDepth 100000 in
set_option maxHeartbeats 800000 in
theorem remitB (w : World) (n fl : Int) (h : (n < 1 ∨ 64 < n) ∨ (fl < 0 ∨ 4 < fl)) (a : Option Addr) (m c : Nat) : Calls Try.prog 26 #[.int .i64 n, .int .i64 fl, .slice a m c] w fun e w' => e = .returned (.tuple #[.slice none 0 0, .int .i64 (if n < 1 ∨ 64 < n then 150 else 158)]) ∧ w' = w := by
  have HN : Hid _ := rnewBad w n fl h
  obtain ⟨cd, ecd⟩ : ∃ cd : Int, cd = if n < 1 ∨ 64 < n then 150 else 158 := ⟨_, rfl⟩
  have hcd : cd = 150 ∨ cd = 158 := by rw [ecd]; split; exact .inl rfl; exact .inr rfl
  rw [← ecd] at HN ⊢
  clear h ecd
  rcases hcd with rfl | rfl
  all_goals
    go_enter Try.func26, Try.ntmps26
    go_wp2_with fail
    refine Calls.mono HN.out ?_
    rintro e w1 ⟨rfl, h1⟩
    subst w1
    go_wp2_with fail
    refine bodyPost_ret (results_tmp2 rfl _ _ _) rfl ?_
    exact ⟨rfl, rfl⟩
/-- The document's machine, made since w0. -/
def Rk (w0 w : World) (rb n : Nat) (fl : Int) (R : Rr) : Prop := ∃ tg av ev L, Rm tg w rb n fl R av ev L ∧ (∀ b, tg b ≠ .out → w0.heap.size ≤ b) ∧ Kept w0 w
theorem Rk.on {w0 w w' : World} {rb n : Nat} {fl : Int} {R : Rr} (h : Rk w0 w rb n fl R) (k : Kept w w') : Rk w0 w' rb n fl R := by
  obtain ⟨tg, av, ev, L, h1, h2, h3⟩ := h
  exact ⟨tg, av, ev, L, h1.on k, h2, Same.trans' h3 k⟩
theorem Rk.kept {w0 w : World} {rb n : Nat} {fl : Int} {R : Rr} (h : Rk w0 w rb n fl R) : Kept w0 w := by
  obtain ⟨tg, av, ev, L, h1, h2, h3⟩ := h
  exact h3
theorem Rk.doc {w0 w : World} {rb n : Nat} {fl : Int} {M : Mm} {R : Rr} (h : Rk w0 w rb n fl R) (p : Rp n fl M R) (s : Stp) (hk : s.key.size ≤ maxLen) (hv : s.value.size ≤ maxLen) :
    Calls Try.prog 44 #[.pointer (some ⟨rb, 0, none⟩), stA s] w fun e w' => (∃ b v s c, e = .returned (.tuple #[.bool b, .string v, .int .i64 s, .int .i64 c])) ∧ ∃ R', Rk w0 w' rb n fl R' ∧ Rp n fl (doM M s).1 R' := by
  obtain ⟨tg, av, ev, L, h2, h5, h6⟩ := h
  refine Calls.mono (rdo_any h2 p.sml p.b p.clock s hk hv) fun r w' hr => ?_
  obtain ⟨hr1, av', ev', L', ⟨tg', g1, g2⟩, g3⟩ := hr
  refine ⟨⟨_, _, _, _, hr1⟩, _, ⟨tg', av', ev', L', g1, fun b hb => ?_, h6.trans g3 fun b hb e => ?_⟩, (p.step s).1⟩
  · rcases g2.2 b hb with h | h
    · exact h5 b h
    · exact Nat.le_trans h6.size h
  · have := h5 b e; omega
theorem Rk.log {w0 w : World} {rb n : Nat} {fl : Int} {M : Mm} {R : Rr} (h : Rk w0 w rb n fl R) (p : Rp n fl M R) : Calls Try.prog 45 #[.pointer (some ⟨rb, 0, none⟩)] w (RlP w M.log) := by
  obtain ⟨tg, av, ev, L, h2, h5, h6⟩ := h
  have h9 := rlog15 h2 p.sml (fun i hi => ((p.l.fin i).1 hi).1)
  rw [← p.l.log] at h9
  exact h9
set_option maxRecDepth 100000 in
set_option maxHeartbeats 1600000 in
theorem remit15 {w : World} {a : Option Addr} {l : List Stp} {cap : Nat} (hl : StepsAt w a l) (hs : SmallS l) (hn : l.length ≤ 9223372036854775806) (N : Nat) (fl : Int) (h0 : 1 ≤ N) (h1 : N ≤ 64) (f0 : 0 ≤ fl) (f1 : fl ≤ 4) :
    Calls Try.prog 26 #[.int .i64 (N : Int), .int .i64 fl, .slice a l.length cap] w fun e w' => ∃ a' c' LL, e = .returned (.tuple #[.slice a' (emM N fl l).log.length c', .int .i64 0]) ∧ OwnT 0 w' (.slice a' (emM N fl l).log.length c') LL ∧ LL.map (·.1) = (emM N fl l).log ∧ (∀ x ∈ LL, OwnO 0 w' x.2 x.1.ops) ∧ Kept w w' := by
  have HN : Hid _ := rnew15 w N fl h0 h1 f0 f1
  have HL : Hid (StepsAt w a l) := hl
  have HS : Hid (SmallS l) := hs
  obtain ⟨n, en⟩ : ∃ n, n = l.length := ⟨_, rfl⟩
  rw [← en] at hn ⊢
  have EN : Hid (n = l.length) := en
  have HNI : Hid (Inv (newM N fl)) := Inv.new h0 h1 fl
  obtain ⟨ln, eln⟩ : ∃ ln, ln = (emM N fl l).log.length := ⟨_, rfl⟩
  rw [← eln]
  have ELN : Hid (ln = (emM N fl l).log.length) := eln
  clear hl hs en h0 f0 f1 eln
  go_enter Try.func26, Try.ntmps26
  go_wp2_with fail
  refine Calls.mono HN.out ?_
  rintro e w1 ⟨rb, rfl, tg, m1, m2, m3⟩
  have R1 : Hid (Rk w w1 rb N fl ⟨0, [], []⟩) := ⟨tg, _, _, _, m1, m2, m3⟩
  have P1 : Hid (Rp N fl (newM N fl) ⟨0, [], []⟩) := ⟨Rl.new N fl, ⟨(fun _ h => by cases h), (fun _ h => by cases h)⟩, (by simp [newM]), rfl, HNI.out⟩
  clear m1 m2 m3 HN HNI
  go_wp2_with fail
  go_loopw [10] (fun i wr => ∃ (j : Nat) (R : Rr), j ≤ n ∧ i = .int .i64 (j : Int) ∧ Rk w wr rb N fl R ∧ Rp N fl (plM (newM N fl) (l.take j)) R) (fun i _ => n - (intOf i).toNat)
  case atStart => exact ⟨0, _, Nat.zero_le _, rfl, R1.out, P1.out⟩
  case round =>
    obtain ⟨j, R, hj, rfl, hR, hP⟩ := hrel
    rename World => WL
    have HR : Hid (Rk w WL rb N fl R) := hR
    have HP : Hid (Rp N fl (plM (newM N fl) (l.take j)) R) := hP
    clear hR hP R1 P1
    by_cases hlt : j < n
    · have c1 : decide ((j : Int) < (n : Int)) = true := decide_eq_true (by omega)
      have hlt2 : (j : Int) < (n : Int) := by omega
      obtain ⟨s, hsj⟩ : ∃ s, l[j]? = some s := ⟨_, List.getElem?_eq_getElem (by rw [← show n = _ from EN.out]; exact hlt)⟩
      obtain ⟨b, off, rfl, hb, q0, q1, q2, q3, q4⟩ := (StepsAt.on HL.out (Rk.kept HR.out)) j s hsj
      obtain ⟨hk, hv⟩ := HS.out s (List.mem_of_getElem? hsj)
      have HDO : Hid (∀ W, Kept WL W → _) := fun W (k : Kept WL W) => Rk.doc (Rk.on HR.out k) HP.out s hk hv
      rw [← plM_take hsj] at HDO
      have hj1 : (j : Int) + 1 ≤ 9223372036854775807 := by omega
      clear hsj hk hv
      obtain ⟨kd, se, gp, k, v⟩ := s
      try simp only at q0 q1 q2 q3 q4 HDO
      go_wp2_with fail
      refine Calls.mono (HDO.out _ (by (repeat (first | exact Same.refl _ _ | apply Same.alloc | apply Same.drew | apply Same.drewN)); done)) ?_
      rintro r w5 ⟨⟨x1, x2, x3, x4, rfl⟩, R5, r5, p5⟩
      have R5' : Hid _ := r5
      have P5 : Hid _ := p5
      clear r5 p5 HDO
      go_wp2_with fail
      go_roundw
      case rel => exact ⟨j + 1, R5, by omega, by first | rfl | simp, R5'.out, P5.out⟩
      case measure => simp only [intOf]; omega
    · have c1 : decide ((j : Int) < (n : Int)) = false := decide_eq_false (by omega)
      obtain rfl : n = j := by omega
      rw [show l.take n = l by rw [show n = l.length from EN.out]; exact List.take_length] at HP
      have HPZ : Hid (Rp N fl (abM (plM (newM N fl) l) 0) R) := HP.out
      have hN : (N : Int) ≤ 64 := by omega
      clear hlt HP
      go_wp2_with fail
      go_loopw [11] (fun i wz => ∃ (q : Nat) (R : Rr), q ≤ N ∧ i = .int .i64 (q : Int) ∧ Rk w wz rb N fl R ∧ Rp N fl (abM (plM (newM N fl) l) q) R) (fun i _ => N - (intOf i).toNat)
      case atStart => exact ⟨0, _, Nat.zero_le _, rfl, HR.out, HPZ.out⟩
      case round =>
        rename World => wz
        obtain ⟨q, R', hq, rfl, hR', hP'⟩ := hrel
        have HRQ : Hid (Rk w wz rb N fl R') := hR'
        have HPQ : Hid (Rp N fl (abM (plM (newM N fl) l) q) R') := hP'
        clear hR' hP' HR HPZ
        by_cases hlq : q < N
        · have c2 : decide ((q : Int) < (N : Int)) = true := decide_eq_true (by omega)
          have hlt2 : (q : Int) < (N : Int) := by omega
          have HDO : Hid (∀ W, Kept wz W → _) := fun W (k : Kept wz W) => Rk.doc (Rk.on HRQ.out k) HPQ.out ⟨6, (q : Int), 0, e0, e0⟩ (show e0.size ≤ maxLen by decide) (show e0.size ≤ maxLen by decide)
          have hq1 : (q : Int) + 1 ≤ 9223372036854775807 := by omega
          go_wp2_with fail
          refine Calls.mono (HDO.out _ (by (repeat (first | exact Same.refl _ _ | apply Same.alloc | apply Same.drew | apply Same.drewN)); done)) ?_
          rintro r w5 ⟨⟨x1, x2, x3, x4, rfl⟩, R5, r5, p5⟩
          have R5' : Hid _ := r5
          have P5 : Hid (Rp N fl (abM (plM (newM N fl) l) (q + 1)) R5) := p5
          clear r5 p5 HDO
          go_wp2_with fail
          go_roundw
          case rel => exact ⟨q + 1, R5, by omega, by first | rfl | simp, R5'.out, P5.out⟩
          case measure => simp only [intOf]; omega
        · have c2 : decide ((q : Int) < (N : Int)) = false := decide_eq_false (by omega)
          obtain rfl : N = q := by omega
          have HLG : Hid _ := Rk.log HRQ.out HPQ.out
          have KW : Hid (Kept w wz) := Rk.kept HRQ.out
          go_wp2_with fail
          refine Calls.mono HLG.out ?_
          rintro r w6 ⟨vv, LL, rfl, o6, l6, p6, k6⟩
          obtain ⟨va, vc, rfl, -⟩ := row_shape o6
          have e6 : LL.length = (emM N fl l).log.length := by
            have h9 := congrArg List.length l6
            rw [List.length_map] at h9
            exact h9
          rw [e6, ← show ln = _ from ELN.out]
          have K6 : Hid (Kept w w6) := Same.trans' KW.out k6
          have O6 : Hid (OwnT 0 w6 (.slice va LL.length vc) LL) := row_lower o6 (Nat.zero_le _)
          rw [e6, ← show ln = _ from ELN.out] at O6
          have L6 : Hid (LL.map (·.1) = (emM N fl l).log) := l6
          have P6 : Hid (∀ x ∈ LL, OwnO 0 w6 x.2 x.1.ops) := p6
          clear o6 l6 p6 k6 e6 HLG
          go_wp2_with fail
          refine bodyPost_ret (results_tmp2 rfl _ _ _) rfl ?_
          exact ⟨va, vc, LL, rfl, O6.out, L6.out, P6.out, K6.out⟩
end Go.Proofs.Ytbjmdpfoeeadeaa.Ch.Mc
