/- What is proved: the document's machine beside the program's: any step answers alike; every transaction that is emitted is right; the laws MachinePlays and MachineEmits answer true; the script lies in memory. -/
import Derived.Test.YtmghmacgljihcaaKRza
import Derived.Test.YtmghmacgljihcaaKRzb
import Derived.Test.YtmghmacgljihcaaKRzc
import Derived.Test.YtmghmacgljihcaaKRzd
import Derived.Test.YtmghmacgljihcaaKSam
import Derived.Test.YtmghmacgljihcaaKEmt
import Derived.Test.YtmghmacgljihcaaKAnch
namespace Go.Proofs.Ytmghmacgljihcaa
open Go.RowKit

/-- Bounds that every step keeps. -/
structure Rb (R : Rr) : Prop where
  o : ∀ r ∈ R.all, r.t.ops.length ≤ 16 ∧ r.ts.length = r.t.ops.length
  f : ∀ r ∈ R.all, -1099511627776 ≤ r.t.f3 ∧ r.t.f3 ≤ 1099511627776
theorem rCode_zero {n : Nat} {R : Rr} {s : Stp} (h : rCode n R s = 0) : codeB n s = 0 ∧ (s.kind = 1 → rAct R.all s.ses = none ∧ R.all.length < 4096) ∧ (s.kind ≠ 1 → ∃ i, rAct R.all s.ses = some i) ∧ (isO s → opsR R s.ses < 16) ∧ R.clock ≤ 1099511627775 - s.gap := by
  unfold rCode at h
  split at h
  · rename_i h1; exact absurd h h1
  rename_i h1
  have h1' : codeB n s = 0 := by simpa using h1
  split at h
  · cases h
  rename_i h2
  split at h
  · cases h
  rename_i h3
  split at h
  · cases h
  rename_i h4
  split at h
  · cases h
  rename_i h5
  split at h
  · cases h
  rename_i h6
  refine ⟨h1', fun e => ⟨?_, ?_⟩, fun e => ?_, fun e => ?_, by omega⟩
  · cases ha : rAct R.all s.ses with
    | none => rfl
    | some i => exact absurd ⟨e, by rw [ha]; rfl⟩ h2
  · exact Nat.lt_of_not_le fun h9 => h4 ⟨e, h9⟩
  · cases ha : rAct R.all s.ses with
    | none => exact absurd ⟨e, by rw [ha]; rfl⟩ h3
    | some i => exact ⟨i, rfl⟩
  · exact Nat.lt_of_not_le fun h9 => h5 ⟨e, h9⟩
theorem Rb.set {R : Rr} (h : Rb R) {i : Nat} {r : Rn} {c : Int} {e : List Nat} (ho : r.t.ops.length ≤ 16 ∧ r.ts.length = r.t.ops.length) (hf : -1099511627776 ≤ r.t.f3 ∧ r.t.f3 ≤ 1099511627776) : Rb ⟨c, R.all.set i r, e⟩ :=
  ⟨fun q hq => (List.mem_or_eq_of_mem_set hq).elim (h.o q) (fun e => by subst e; exact ho), fun q hq => (List.mem_or_eq_of_mem_set hq).elim (h.f q) (fun e => by subst e; exact hf)⟩
theorem Rb.step {n : Nat} {fl : Int} {R : Rr} (h : Rb R) (hc : 0 ≤ R.clock) (s : Stp) : Rb (rDo n fl R s).1 := by
  unfold rDo
  by_cases h0 : rCode n R s = 0
  · rw [if_pos h0]
    obtain ⟨hB, h1, h2, h3, h4⟩ := rCode_zero h0
    obtain ⟨⟨b1, b2⟩, -, ⟨b3, b4⟩, -, -⟩ := codeB_zero hB
    unfold rGo
    cases ha : rAct R.all s.ses with
    | none =>
      rw [show rAct (rTick R (R.clock + 1 + s.gap)).all s.ses = none from ha]
      refine ⟨fun r hr => ?_, fun r hr => ?_⟩ <;> rcases List.mem_append.1 hr with hr | hr
      · exact h.o r hr
      · obtain rfl := List.mem_singleton.1 hr
        exact ⟨by simp, rfl⟩
      · exact h.f r hr
      · obtain rfl := List.mem_singleton.1 hr
        exact ⟨show (-1099511627776 : Int) ≤ 0 by decide, show (0 : Int) ≤ 1099511627776 by decide⟩
    | some i =>
      rw [show rAct (rTick R (R.clock + 1 + s.gap)).all s.ses = some i from ha]
      obtain ⟨r, hr, -⟩ := rAct_in ha
      have hm := List.mem_of_getElem? hr
      have hg : gR R.all i = r := gR_of hr
      have ho := h.o r hm
      have hf := h.f r hm
      have hop : isO s → ∀ o : OpM, Rb (rOp (rTick R (R.clock + 1 + s.gap)) i o) := fun hi o => by
        have h9 := h3 hi
        unfold opsR at h9
        rw [ha] at h9
        simp only [hg] at h9
        unfold rOp addR
        rw [show gR (rTick R (R.clock + 1 + s.gap)).all i = r from hg]
        refine h.set ⟨?_, ?_⟩ hf
        · simp only [List.length_append, List.length_cons, List.length_nil]; omega
        · simp only [List.length_append, List.length_cons, List.length_nil]; omega
      have hen : ∀ st, Rb (rEnd (rTick R (R.clock + 1 + s.gap)) i st) := fun st => by
        unfold rEnd endR endT
        rw [show gR (rTick R (R.clock + 1 + s.gap)).all i = r from hg]
        refine h.set ho ?_
        show -1099511627776 ≤ R.clock + 1 + s.gap ∧ R.clock + 1 + s.gap ≤ 1099511627776
        omega
      simp only
      split
      · rename_i e; exact hop (.inl e) _
      split
      · rename_i e; exact hop (.inr (.inl e)) _
      split
      · rename_i e; exact hop (.inr (.inr e)) _
      split
      · exact hen _
      · exact hen _
  · rw [if_neg h0]
    exact h
/-- Any step. -/
theorem rdo_any {tg : Nat → Ug} {w : World} {rb n : Nat} {fl : Int} {R : Rr} {av ev : Value} {L : List Rt} (h : Rm tg w rb n fl R av ev L) (hs : Sml R) (hf : Rb R) (hc : 0 ≤ R.clock ∧ R.clock ≤ 1099511627776) (s : Stp) (hk : s.key.size ≤ maxLen) (hv : s.value.size ≤ maxLen) : RoP tg w rb n fl s (rDo n fl R s).1 (rDo n fl R s).2 (rCode n R s) := by
  unfold rDo
  by_cases h0 : rCode n R s = 0
  · rw [if_pos h0, h0]
    obtain ⟨hB, h1, h2, h3, h4⟩ := rCode_zero h0
    obtain ⟨⟨b1, b2⟩, -, hgp, -, -⟩ := codeB_zero hB
    obtain ⟨kd, se, gp, k, v⟩ := s
    simp only at hk hv h1 h2 h4 b1 b2 hgp ⊢
    unfold rGo
    by_cases e1 : kd = 1
    · subst e1
      obtain ⟨ha, hl⟩ := h1 rfl
      rw [show rAct (rTick R (R.clock + 1 + gp)).all se = none from ha]
      exact rdo_1 h hs hc se gp k v hk hv h0 hgp ha hl
    · obtain ⟨i, ha⟩ := h2 e1
      rw [show rAct (rTick R (R.clock + 1 + gp)).all se = some i from ha]
      have hop : isO ⟨kd, se, gp, k, v⟩ → (gR R.all i).t.ops.length < 16 := fun hi => by
        have h9 := h3 hi
        unfold opsR at h9
        rw [show rAct R.all _ = some i from ha] at h9
        exact h9
      simp only
      by_cases e2 : kd = 2
      · subst e2
        rw [if_pos rfl]
        exact rdo_2 h hs hc hf.f se gp k v hk hv h0 hgp ha (hop (.inl rfl))
      rw [if_neg e2]
      by_cases e3 : kd = 3
      · subst e3
        rw [if_pos rfl]
        exact rdo_3 h hs hc se gp k v hk hv h0 hgp ha (hop (.inr (.inl rfl)))
      rw [if_neg e3]
      by_cases e4 : kd = 4
      · subst e4
        rw [if_pos rfl]
        exact rdo_4 h hs hc se gp k v hk hv h0 hgp ha (hop (.inr (.inr rfl)))
      rw [if_neg e4]
      by_cases e5 : kd = 5
      · subst e5
        rw [if_pos rfl]
        exact rdo_5 h hs hc se gp k v hk hv h0 hgp ha
      rw [if_neg e5]
      obtain rfl : kd = 6 := by omega
      exact rdo_6 h hs hc se gp k v hk hv h0 hgp ha
  · rw [if_neg h0]
    exact rdo_no h hs s hk hv h0
end Go.Proofs.Ytmghmacgljihcaa

namespace Go.Proofs.Ytmghmacgljihcaa
open Go.RowKit

/-- What the document's Log gives. -/
def RlP (w : World) (log : List TxM) (e : Ending) (w' : World) : Prop := ∃ v L, e = .returned v ∧ OwnT w.heap.size w' v L ∧ L.map (·.1) = log ∧ (∀ x ∈ L, OwnO 0 w' x.2 x.1.ops) ∧ Kept w w'
set_option maxRecDepth 100000 in
set_option maxHeartbeats 3200000 in
theorem rlog15 {tg : Nat → Ug} {w : World} {rb n : Nat} {fl : Int} {R : Rr} {av ev : Value} {L : List Rt} (h : Rm tg w rb n fl R av ev L) (hs : Sml R) (hin : ∀ i ∈ R.ends, i < R.all.length) : Calls Try.prog 15 #[.pointer (some ⟨rb, 0, none⟩)] w (RlP w (R.ends.map fun i => (gR R.all i).t)) := by
  have HM : Hid _ := h
  have HIN : Hid _ := hin
  have hne := hs.e
  have hnl := hs.n
  obtain ⟨ne, ene⟩ : ∃ ne, ne = R.ends.length := ⟨_, rfl⟩
  rw [← ene] at hne
  have ENE : Hid (ne = R.ends.length) := ene
  have ho := h.obj
  have hrl := lt_of_heap ho
  obtain ⟨ea, ecp, eev, -⟩ := row_shape h.ends
  rw [List.length_map, ← ene] at eev
  have y4 : w.cell? ⟨rb, 4, none⟩ = some (.slice ea ne ecp) := (cell_of ho 4).trans (by rw [eev]; rfl)
  have y3 : w.cell? ⟨rb, 3, none⟩ = some av := (cell_of ho 3).trans rfl
  have EEV : Hid (ev = .slice ea ne ecp) := eev
  clear h hs hin ene eev ho
  unfold RlP
  go_enter Try.func15, Try.ntmps15
  go_wp2_with fail
  go_loopw [3, 4] (fun s t wr => ∃ (j : Nat) (L' : List (TxM × Value)), t = .int .i64 j ∧ j ≤ ne ∧ OwnT w.heap.size wr s L' ∧ L'.map (·.1) = (R.ends.take j).map (fun i => (gR R.all i).t) ∧ (∀ x ∈ L', OwnO 0 w x.2 x.1.ops) ∧ Kept w wr) (fun _ t _ => ne - (intOf t).toNat)
  case atStart => exact ⟨0, [], rfl, Nat.zero_le _, ⟨rfl, .inl ⟨rfl, rfl⟩⟩, rfl, (fun x hx => by cases hx), Same.refl _ _⟩
  case round =>
    obtain ⟨j, L', rfl, hj, hT, hmap, hops, kj⟩ := hrel
    rename World => WL
    obtain ⟨va, vc, rfl, -⟩ := row_shape hT
    have HT : Hid (OwnT w.heap.size WL (.slice va L'.length vc) L') := hT
    have HMP : Hid _ := hmap
    have HOPS : Hid (∀ x ∈ L', OwnO 0 w x.2 x.1.ops) := hops
    have KJ : Hid (Kept w WL) := kj
    have n4 : WL.cell? ⟨rb, 4, none⟩ = some (.slice ea ne ecp) := (kj.cell (p := ⟨rb, 4, none⟩) hrl (fun e => e)).trans y4
    have hrj := Nat.lt_of_lt_of_le hrl kj.size
    have hLj : L'.length = j := by
      have := congrArg List.length hmap
      rw [List.length_map, List.length_map, List.length_take, ← show ne = _ from ENE.out] at this
      omega
    have HLJ : Hid (L'.length = j) := hLj
    clear hT hmap hops kj hLj
    by_cases hlt : j < ne
    · have d1 : decide ((j : Int) < (ne : Int)) = true := decide_eq_true (by omega)
      have hlt2 : (j : Int) < (ne : Int) := by omega
      obtain ⟨q, hq⟩ : ∃ q, R.ends[j]? = some q := ⟨_, List.getElem?_eq_getElem (by rw [← show ne = _ from ENE.out]; exact hlt)⟩
      have hqi := HIN.out q (List.mem_of_getElem? hq)
      obtain ⟨x, hx, ex⟩ : ∃ x, L[q]? = some x ∧ x.1 = gR R.all q := by
        have hm := HM.out.map
        have hl : q < L.length := by rw [← hm, List.length_map] at hqi; exact hqi
        exact ⟨L[q], List.getElem?_eq_getElem hl, by rw [← hm]; exact (gR_of (by rw [List.getElem?_map, List.getElem?_eq_getElem hl]; rfl)).symm⟩
      have HTK : Hid (R.ends.take (j + 1) = R.ends.take j ++ [q]) := (by rw [List.take_add_one, hq]; rfl : R.ends.take (j + 1) = R.ends.take j ++ [q])
      obtain ⟨b, cap, ea3⟩ := Rq.place (Rq.start HM.out) hx
      obtain ⟨hbl, hcl, -⟩ := Rq.runs (Rq.start HM.out) ea3 hx
      obtain ⟨oa, oc, eo, -⟩ := OwnO.ops (HM.out.row q x hx).1
      have hxo := (HM.out.row q x hx).1
      have HXO : Hid (OwnO 0 w x.2.1 x.1.t.ops) := hxo
      have EO : Hid (x.2.1 = .slice oa x.1.t.ops.length oc) := eo
      have EX : Hid (x.1 = gR R.all q) := ex
      have hen := HM.out.ends
      rw [show ev = _ from EEV.out] at hen
      obtain ⟨eb, rfl, -, heb, ce⟩ := row_cell hen (j := j) (u := .int .i64 (q : Int)) (by rw [List.getElem?_map, List.getElem?_map, hq]; rfl)
      obtain ⟨on, eon⟩ : ∃ on, on = x.1.t.ops.length := ⟨_, rfl⟩
      rw [← eon] at EO
      obtain ⟨ll, ell⟩ : ∃ ll, ll = L.length := ⟨_, rfl⟩
      have hql : q < ll := by rw [ell]; exact (List.getElem?_eq_some_iff.1 hx).1
      have hqll : (q : Int) < (ll : Int) := by omega
      have hll : ll ≤ 4096 := by have h9 := congrArg List.length HM.out.map; rw [List.length_map] at h9; omega
      have y3' : w.cell? ⟨rb, 3, none⟩ = some (.slice (some ⟨b, 0, none⟩) ll cap) := by rw [y3, ea3, ell]
      have hc7 := hcl 7 _ (by decide) rfl
      rw [show x.2.1 = _ from EO.out] at hc7
      have HBK : Hid (∀ W' : World, Kept w W' → (W'.cell? ⟨rb, 3, none⟩ = some (.slice (some ⟨b, 0, none⟩) ll cap) ∧ rb < W'.heap.size ∧ W'.cell? ⟨rb, 4, none⟩ = some (.slice (some ⟨eb, 0, none⟩) ne ecp)) ∧ W'.cell? ⟨eb, j, none⟩ = some (.int .i64 (q : Int)) ∧ W'.cell? ⟨b, q * 10, none⟩ = some (.int .i64 x.1.t.f0) ∧ W'.cell? ⟨b, q * 10 + 1, none⟩ = some (.int .i64 x.1.t.f1) ∧ W'.cell? ⟨b, q * 10 + 2, none⟩ = some (.int .i64 x.1.t.f2) ∧ W'.cell? ⟨b, q * 10 + 3, none⟩ = some (.int .i64 x.1.t.f3) ∧ W'.cell? ⟨b, q * 10 + 4, none⟩ = some (.int .i64 x.1.t.f4) ∧ W'.cell? ⟨b, q * 10 + 5, none⟩ = some (.int .i64 x.1.t.f5) ∧ W'.cell? ⟨b, q * 10 + 6, none⟩ = some (.int .i64 x.1.t.f6) ∧ W'.cell? ⟨b, q * 10 + 7, none⟩ = some (.slice oa on oc)) := fun W' k' => by
        have t : ∀ o, W'.cell? ⟨b, o, none⟩ = w.cell? ⟨b, o, none⟩ := fun o => k'.cell (p := ⟨b, o, none⟩) hbl (fun e => e)
        exact ⟨⟨(k'.cell (p := ⟨rb, 3, none⟩) hrl (fun e => e)).trans y3', Nat.lt_of_lt_of_le hrl k'.size, (k'.cell (p := ⟨rb, 4, none⟩) hrl (fun e => e)).trans y4⟩, (k'.cell (p := ⟨eb, j, none⟩) heb (fun e => e)).trans ce, (t _).trans (hcl 0 _ (by decide) rfl), (t _).trans (hcl 1 _ (by decide) rfl), (t _).trans (hcl 2 _ (by decide) rfl), (t _).trans (hcl 3 _ (by decide) rfl), (t _).trans (hcl 4 _ (by decide) rfl), (t _).trans (hcl 5 _ (by decide) rfl), (t _).trans (hcl 6 _ (by decide) rfl), (t _).trans hc7⟩
      have HAP : Hid (∀ W' : World, Kept WL W' → ∀ g', W'.heap[g']? = some (txO x.1.t (.slice oa on oc)) → ∀ ty, ∃ v' w', (Builtin.append_ #[39, 39] ty #[.slice va L'.length vc, .slice (some ⟨g', 0, none⟩) 1 1]).run Try.prog W' = .ok v' w' ∧ (OwnT w.heap.size w' v' (L' ++ [(x.1.t, .slice oa on oc)]) ∧ Kept w w' ∧ ∃ a n c, v' = .slice a n c)) := fun W' k' g' hg' ty => by
        have hT' := row_kept HT.out k' (fun _ _ e => e)
        obtain ⟨v', w', h1, h2, h3, -⟩ := app_txn (x.1.t, .slice oa on oc) hT' rfl hg' (by have := HLJ.out; omega) (Nat.le_trans KJ.out.size k'.size) ty
        refine ⟨v', w', h1, h2, Same.trans (Same.trans' KJ.out k') h3 (fun b hb e => ?_), by obtain ⟨a9, c9, e9, -⟩ := row_shape h2; exact ⟨a9, _, c9, e9⟩⟩
        obtain ⟨h9, -⟩ := row_block hT' e
        omega
      have hj1 : (j : Int) + 1 ≤ 9223372036854775807 := by omega
      have HNX : Hid (∀ w' v', OwnT w.heap.size w' v' (L' ++ [(x.1.t, .slice oa on oc)]) → Kept w w' → ∃ (j' : Nat) (L'' : List (TxM × Value)), Value.int .i64 ((j : Int) + 1) = .int .i64 j' ∧ j' ≤ ne ∧ OwnT w.heap.size w' v' L'' ∧ L''.map (·.1) = (R.ends.take j').map (fun i => (gR R.all i).t) ∧ (∀ x ∈ L'', OwnO 0 w x.2 x.1.ops) ∧ Kept w w') := fun w' v' h1 h2 => by
        refine ⟨j + 1, _, by simp, hlt, h1, ?_, fun y hy => ?_, h2⟩
        · rw [List.map_append, show L'.map (·.1) = _ from HMP.out, HTK.out, List.map_append]
          simp only [List.map_cons, List.map_nil]
          rw [show x.1 = _ from EX.out]
        · rcases List.mem_append.1 hy with hy | hy
          · exact HOPS.out y hy
          · obtain rfl := List.mem_singleton.1 hy
            have := HXO.out
            rw [show x.2.1 = _ from EO.out] at this
            exact this
      clear hq hqi hx ex ea3 hcl eo hxo hen eon ell hc7 y3' ce
      go_upto_region 5 with fail
      generalize L'.length = ln at *
      refine wp_region_held_drew (S := fun W' => (W'.cell? ⟨rb, 3, none⟩ = some (.slice (some ⟨b, 0, none⟩) ll cap) ∧ rb < W'.heap.size ∧ W'.cell? ⟨rb, 4, none⟩ = some (.slice (some ⟨eb, 0, none⟩) ne ecp)) ∧ W'.cell? ⟨eb, j, none⟩ = some (.int .i64 (q : Int)) ∧ W'.cell? ⟨b, q * 10, none⟩ = some (.int .i64 x.1.t.f0) ∧ W'.cell? ⟨b, q * 10 + 1, none⟩ = some (.int .i64 x.1.t.f1) ∧ W'.cell? ⟨b, q * 10 + 2, none⟩ = some (.int .i64 x.1.t.f2) ∧ W'.cell? ⟨b, q * 10 + 3, none⟩ = some (.int .i64 x.1.t.f3) ∧ W'.cell? ⟨b, q * 10 + 4, none⟩ = some (.int .i64 x.1.t.f4) ∧ W'.cell? ⟨b, q * 10 + 5, none⟩ = some (.int .i64 x.1.t.f5) ∧ W'.cell? ⟨b, q * 10 + 6, none⟩ = some (.int .i64 x.1.t.f6) ∧ W'.cell? ⟨b, q * 10 + 7, none⟩ = some (.slice oa on oc)) (by kernel_rfl) (HBK.out _ (by (repeat (first | exact KJ.out | apply Same.alloc | apply Same.drew | apply Same.drewN)); done)) (fun hHeld => ?_)
      (try simp only [Act.put, List.getElem_toArray, List.getElem_cons_succ, List.getElem_cons_zero, List.setIfInBounds_toArray, List.set_cons_zero, List.set_cons_succ])
      refine wpAnyH_take (i := 0) (v := (.slice va ln vc)) rfl (by kernel_rfl) (by kernel_rfl) (by kernel_rfl) (fun _ _ _ h => h) (Or.inl ⟨by rfl, fun w hSw => by (dsimp only at hSw; go_simp)⟩) (by assumption) ?_
      (try simp only [Act.put, List.getElem_toArray, List.getElem_cons_zero, List.setIfInBounds_toArray, List.set_cons_zero, List.set_cons_succ])
      refine wpAnyH_take (i := 1) (v := (.pointer (some ⟨rb, 0, none⟩))) rfl (by kernel_rfl) (by kernel_rfl) (by kernel_rfl) (fun _ _ _ h => h) (Or.inl ⟨by rfl, fun w hSw => by (dsimp only at hSw; go_simp)⟩) (by assumption) ?_
      (try simp only [Act.put, List.getElem_toArray, List.getElem_cons_succ, List.getElem_cons_zero, List.setIfInBounds_toArray, List.set_cons_zero, List.set_cons_succ])
      refine wpAnyH_take (i := 2) (v := (.pointer (some ⟨rb, 0, none⟩))) rfl (by kernel_rfl) (by kernel_rfl) (by kernel_rfl) (fun _ _ _ h => h) (Or.inl ⟨by rfl, fun w hSw => by (dsimp only at hSw; go_simp)⟩) (by assumption) ?_
      (try simp only [Act.put, List.getElem_toArray, List.getElem_cons_succ, List.getElem_cons_zero, List.setIfInBounds_toArray, List.set_cons_zero, List.set_cons_succ])
      refine wpAnyH_take (i := 3) (v := (.pointer (some ⟨rb, 3, none⟩))) rfl (by kernel_rfl) (by kernel_rfl) (by kernel_rfl) (fun _ _ _ h => h) (Or.inl ⟨by rfl, fun w hSw => by (dsimp only at hSw; go_simp)⟩) (by assumption) ?_
      (try simp only [Act.put, List.getElem_toArray, List.getElem_cons_succ, List.getElem_cons_zero, List.setIfInBounds_toArray, List.set_cons_zero, List.set_cons_succ])
      refine wpAnyH_take (i := 4) (v := (.slice (some ⟨b, 0, none⟩) ll cap)) rfl (by kernel_rfl) (by kernel_rfl) (by kernel_rfl) (fun _ _ _ h => h) (Or.inl ⟨by rfl, fun w hSw => by (dsimp only at hSw; go_simp)⟩) (by assumption) ?_
      (try simp only [Act.put, List.getElem_toArray, List.getElem_cons_succ, List.getElem_cons_zero, List.setIfInBounds_toArray, List.set_cons_zero, List.set_cons_succ])
      refine wpAnyH_take (i := 5) (v := (.pointer (some ⟨rb, 0, none⟩))) rfl (by kernel_rfl) (by kernel_rfl) (by kernel_rfl) (fun _ _ _ h => h) (Or.inl ⟨by rfl, fun w hSw => by (dsimp only at hSw; go_simp)⟩) (by assumption) ?_
      (try simp only [Act.put, List.getElem_toArray, List.getElem_cons_succ, List.getElem_cons_zero, List.setIfInBounds_toArray, List.set_cons_zero, List.set_cons_succ])
      refine wpAnyH_take (i := 6) (v := (.pointer (some ⟨rb, 0, none⟩))) rfl (by kernel_rfl) (by kernel_rfl) (by kernel_rfl) (fun _ _ _ h => h) (Or.inl ⟨by rfl, fun w hSw => by (dsimp only at hSw; go_simp)⟩) (by assumption) ?_
      (try simp only [Act.put, List.getElem_toArray, List.getElem_cons_succ, List.getElem_cons_zero, List.setIfInBounds_toArray, List.set_cons_zero, List.set_cons_succ])
      refine wpAnyH_take (i := 7) (v := (.pointer (some ⟨rb, 4, none⟩))) rfl (by kernel_rfl) (by kernel_rfl) (by kernel_rfl) (fun _ _ _ h => h) (Or.inl ⟨by rfl, fun w hSw => by (dsimp only at hSw; go_simp)⟩) (by assumption) ?_
      (try simp only [Act.put, List.getElem_toArray, List.getElem_cons_succ, List.getElem_cons_zero, List.setIfInBounds_toArray, List.set_cons_zero, List.set_cons_succ])
      refine wpAnyH_take (i := 8) (v := (.slice (some ⟨eb, 0, none⟩) ne ecp)) rfl (by kernel_rfl) (by kernel_rfl) (by kernel_rfl) (fun _ _ _ h => h) (Or.inl ⟨by rfl, fun w hSw => by (dsimp only at hSw; go_simp)⟩) (by assumption) ?_
      (try simp only [Act.put, List.getElem_toArray, List.getElem_cons_succ, List.getElem_cons_zero, List.setIfInBounds_toArray, List.set_cons_zero, List.set_cons_succ])
      refine wpAnyH_take (i := 9) (v := (.int .i64 (j : Int))) rfl (by kernel_rfl) (by kernel_rfl) (by kernel_rfl) (fun _ _ _ h => h) (Or.inl ⟨by rfl, fun w hSw => by (dsimp only at hSw; go_simp)⟩) (by assumption) ?_
      (try simp only [Act.put, List.getElem_toArray, List.getElem_cons_succ, List.getElem_cons_zero, List.setIfInBounds_toArray, List.set_cons_zero, List.set_cons_succ])
      refine wpAnyH_take (i := 10) (v := (.pointer (some ⟨eb, j, none⟩))) rfl (by kernel_rfl) (by kernel_rfl) (by kernel_rfl) (fun _ _ _ h => h) (Or.inl ⟨by rfl, fun w hSw => by (dsimp only at hSw; go_simp)⟩) (by assumption) ?_
      (try simp only [Act.put, List.getElem_toArray, List.getElem_cons_succ, List.getElem_cons_zero, List.setIfInBounds_toArray, List.set_cons_zero, List.set_cons_succ])
      refine wpAnyH_take (i := 11) (v := (.int .i64 (q : Int))) rfl (by kernel_rfl) (by kernel_rfl) (by kernel_rfl) (fun _ _ _ h => h) (Or.inl ⟨by rfl, fun w hSw => by (dsimp only at hSw; go_simp)⟩) (by assumption) ?_
      (try simp only [Act.put, List.getElem_toArray, List.getElem_cons_succ, List.getElem_cons_zero, List.setIfInBounds_toArray, List.set_cons_zero, List.set_cons_succ])
      refine wpAnyH_take (i := 12) (v := (.pointer (some ⟨b, q * 10, none⟩))) rfl (by kernel_rfl) (by kernel_rfl) (by kernel_rfl) (fun _ _ _ h => h) (Or.inl ⟨by rfl, fun w hSw => by (dsimp only at hSw; go_simp)⟩) (by assumption) ?_
      (try simp only [Act.put, List.getElem_toArray, List.getElem_cons_succ, List.getElem_cons_zero, List.setIfInBounds_toArray, List.set_cons_zero, List.set_cons_succ])
      refine wpAnyH_take (i := 13) (v := (.pointer (some ⟨b, q * 10, none⟩))) rfl (by kernel_rfl) (by kernel_rfl) (by kernel_rfl) (fun _ _ _ h => h) (Or.inl ⟨by rfl, fun w hSw => by (dsimp only at hSw; go_simp)⟩) (by assumption) ?_
      (try simp only [Act.put, List.getElem_toArray, List.getElem_cons_succ, List.getElem_cons_zero, List.setIfInBounds_toArray, List.set_cons_zero, List.set_cons_succ])
      refine wpAnyH_take (i := 14) (v := (txA x.1.t (.slice oa on oc))) rfl (by kernel_rfl) (by kernel_rfl) (by kernel_rfl) (fun _ _ _ h => h) (Or.inl ⟨by rfl, fun w hSw => by (dsimp only at hSw; go_simp)⟩) (by assumption) ?_
      (try simp only [Act.put, List.getElem_toArray, List.getElem_cons_succ, List.getElem_cons_zero, List.setIfInBounds_toArray, List.set_cons_zero, List.set_cons_succ])
      refine wpAnyH_ready (rs := [15]) (by kernel_rfl) (by simp) (AllReadyH.cons rfl (fun K hK => ?_) AllReadyH.nil)
      go_simp
      refine hK.out _ _ (HBK.out _ (by (repeat (first | exact KJ.out | apply Same.alloc | apply Same.drew | apply Same.drewN)); done)) (fun hHeld1 => ?_)
      clear hK K hHeld
      (try simp only [Act.put, List.getElem_toArray, List.getElem_cons_succ, List.getElem_cons_zero, List.setIfInBounds_toArray, List.set_cons_zero, List.set_cons_succ])
      refine wpAnyH_ready (rs := [16]) (by kernel_rfl) (by simp) (AllReadyH.cons rfl (fun K hK => ?_) AllReadyH.nil)
      refine step_app rfl (.tmp 14) (.tmp 29) 39 rfl _ _ rfl rfl _ (HAP.out _ (by (repeat (first | exact Same.refl _ _ | apply Same.alloc | apply Same.drew | apply Same.drewN)); done) _ (by exact heap_new _ _)) ?_
      rintro v8 w8 ⟨o8, k8, a8, n8, c8, rfl⟩
      refine hK.out _ _ (HBK.out _ k8) (fun hHeld2 => ?_)
      clear hK K hHeld1 HAP HBK
      (try simp only [Act.put, List.getElem_toArray, List.getElem_cons_succ, List.getElem_cons_zero, List.setIfInBounds_toArray, List.set_cons_zero, List.set_cons_succ])
      refine wpAnyH_take (i := 17) (v := (.slice a8 n8 c8)) rfl (by kernel_rfl) (by kernel_rfl) (by kernel_rfl) (fun _ _ _ h => h) (Or.inl ⟨by rfl, fun w hSw => by (dsimp only at hSw; go_simp)⟩) (by assumption) ?_
      (try simp only [Act.put, List.getElem_toArray, List.getElem_cons_succ, List.getElem_cons_zero, List.setIfInBounds_toArray, List.set_cons_zero, List.set_cons_succ])
      refine wpAnyH_done (by kernel_rfl) ?_ _
      go_wp2_with fail
      have O8 : Hid _ := HNX.out _ _ o8 k8
      go_roundw
      case rel => exact O8.out
      case measure => simp only [intOf]; omega
    · obtain rfl : ne = j := by omega
      have d1 : decide ((ne : Int) < (ne : Int)) = false := decide_eq_false (by omega)
      have HF : Hid (L'.map (·.1) = R.ends.map fun i => (gR R.all i).t) := (by rw [show L'.map (·.1) = _ from HMP.out, show ne = _ from ENE.out, List.take_length] : L'.map (·.1) = R.ends.map fun i => (gR R.all i).t)
      generalize L'.length = ln at *
      go_wp2_with fail
      go_ret
      exact ⟨_, L', rfl, HT.out, HF.out, fun x hx => row_kept (HOPS.out x hx) KJ.out (fun _ _ e => e), KJ.out⟩
end Go.Proofs.Ytmghmacgljihcaa

namespace Go.Proofs.Ytmghmacgljihcaa
open Go.RowKit

/-- Both machines, made since w0; the blocks of G are neither's. -/
def Bm (w0 w : World) (mb rb n : Nat) (fl : Int) (M : Mm) (R : Rr) (G : Nat → Prop) : Prop := ∃ F tg av ev L, Mk F w mb M ∧ Rm tg w rb n fl R av ev L ∧ (∀ b, F b → tg b = .out) ∧ (∀ b, F b → w0.heap.size ≤ b) ∧ (∀ b, tg b ≠ .out → w0.heap.size ≤ b) ∧ Kept w0 w ∧ ∀ b, G b → ¬ F b ∧ tg b = .out ∧ b < w.heap.size
theorem Bm.on {w0 w w' : World} {mb rb n : Nat} {fl : Int} {M : Mm} {R : Rr} {G : Nat → Prop} (h : Bm w0 w mb rb n fl M R G) (k : Kept w w') : Bm w0 w' mb rb n fl M R G := by
  obtain ⟨F, tg, av, ev, L, h1, h2, h3, h4, h5, h6, h7⟩ := h
  exact ⟨F, tg, av, ev, L, h1.on k, h2.on k, h3, h4, h5, Same.trans' h6 k, fun b hb => ⟨(h7 b hb).1, (h7 b hb).2.1, Nat.lt_of_lt_of_le (h7 b hb).2.2 k.size⟩⟩
theorem Bm.kept {w0 w : World} {mb rb n : Nat} {fl : Int} {M : Mm} {R : Rr} {G : Nat → Prop} (h : Bm w0 w mb rb n fl M R G) : Kept w0 w := by
  obtain ⟨F, tg, av, ev, L, h1, h2, h3, h4, h5, h6, h7⟩ := h
  exact h6
theorem Bm.weak {w0 w : World} {mb rb n : Nat} {fl : Int} {M : Mm} {R : Rr} {G G' : Nat → Prop} (h : Bm w0 w mb rb n fl M R G) (hg : ∀ b, G' b → G b) : Bm w0 w mb rb n fl M R G' := by
  obtain ⟨F, tg, av, ev, L, h1, h2, h3, h4, h5, h6, h7⟩ := h
  exact ⟨F, tg, av, ev, L, h1, h2, h3, h4, h5, h6, fun b hb => h7 b (hg b hb)⟩
theorem Bm.add {w0 w : World} {mb rb n : Nat} {fl : Int} {M : Mm} {R : Rr} {G : Nat → Prop} (h : Bm w0 w mb rb n fl M R G) (o : Obj) : Bm w0 (w.alloc o) mb rb n fl M R (fun b => b = w.heap.size ∨ G b) := by
  obtain ⟨F, tg, av, ev, L, h1, h2, h3, h4, h5, h6, h7⟩ := h
  have k : Kept w (w.alloc o) := (Same.refl _ _).alloc _
  refine ⟨F, tg, av, ev, L, h1.on k, h2.on k, h3, h4, h5, Same.trans' h6 k, fun b hb => ?_⟩
  rw [World.size_alloc]
  rcases hb with rfl | hb
  · refine ⟨fun e => by have := h1.lt _ e; omega, ?_, by omega⟩
    by_cases h9 : tg w.heap.size = .out
    · exact h9
    · have := h2.lt _ h9; omega
  · exact ⟨(h7 b hb).1, (h7 b hb).2.1, by have := (h7 b hb).2.2; omega⟩
/-- The program's step. -/
theorem Bm.code {w0 w : World} {mb rb n : Nat} {fl : Int} {M : Mm} {R : Rr} {G : Nat → Prop} (h : Bm w0 w mb rb n fl M R G) (s : Stp) (hk : s.key.size ≤ maxLen) (hv : s.value.size ≤ maxLen) :
    Calls Try.prog 20 #[.pointer (some ⟨mb, 0, none⟩), .agg #[.int .i64 s.kind, .int .i64 s.ses, .int .i64 s.gap, .string s.key, .string s.value]] w fun e w' => e = .returned (.tuple #[.agg #[.bool (doM M s).2.found, .string (doM M s).2.value, .int .i64 (doM M s).2.status], .int .i64 (codeD M s)]) ∧ Bm w0 w' mb rb n fl (doM M s).1 R G ∧ ∀ b, G b → w'.heap[b]? = w.heap[b]? := by
  obtain ⟨F, tg, av, ev, L, h1, h2, h3, h4, h5, h6, h7⟩ := h
  refine Calls.mono (do15 h1 s hk hv) fun r w' hr => ?_
  obtain ⟨hr1, F', g1, g2, g3⟩ := hr
  refine ⟨hr1, ⟨F', tg, av, ev, L, g1, h2.off g3 h3, fun b hb => ?_, fun b hb => ?_, h5, h6.trans g3 fun b hb hF => ?_, fun b hb => ⟨fun hF => ?_, (h7 b hb).2.1, Nat.lt_of_lt_of_le (h7 b hb).2.2 g3.size⟩⟩, fun b hb => g3.block b (h7 b hb).2.2 (h7 b hb).1⟩
  · rcases g2 b hb with h | h
    · exact h3 b h
    · by_cases h9 : tg b = .out
      · exact h9
      · have := h2.lt _ h9; omega
  · rcases g2 b hb with h | h
    · exact h4 b h
    · exact Nat.le_trans h6.size h
  · have := h4 b hF; omega
  · rcases g2 b hF with h | h
    · exact (h7 b hb).1 h
    · have := (h7 b hb).2.2; omega
/-- The document's step. -/
theorem Bm.doc {w0 w : World} {mb rb n : Nat} {fl : Int} {M : Mm} {R : Rr} {G : Nat → Prop} (h : Bm w0 w mb rb n fl M R G) (hs : Sml R) (hf : Rb R) (hc : 0 ≤ R.clock ∧ R.clock ≤ 1099511627776) (s : Stp) (hk : s.key.size ≤ maxLen) (hv : s.value.size ≤ maxLen) :
    Calls Try.prog 23 #[.pointer (some ⟨rb, 0, none⟩), stA s] w fun e w' => e = .returned (.tuple #[.bool (rDo n fl R s).2.found, .string (rDo n fl R s).2.value, .int .i64 (rDo n fl R s).2.status, .int .i64 (rCode n R s)]) ∧ Bm w0 w' mb rb n fl M (rDo n fl R s).1 G ∧ ∀ b, G b → w'.heap[b]? = w.heap[b]? := by
  obtain ⟨F, tg, av, ev, L, h1, h2, h3, h4, h5, h6, h7⟩ := h
  refine Calls.mono (rdo_any h2 hs hf hc s hk hv) fun r w' hr => ?_
  obtain ⟨hr1, av', ev', L', ⟨tg', g1, g2⟩, g3⟩ := hr
  have hin : ∀ b, b < w.heap.size → tg b = .out → tg' b = .out := fun b hb e => by
    by_cases h9 : tg' b = .out
    · exact h9
    · rcases g2.2 b h9 with h | h
      · exact absurd e h
      · omega
  refine ⟨hr1, ⟨F, tg', av', ev', L', h1.off g3 (fun b hb e => e (h3 b hb)), g1, fun b hb => hin b (h1.lt b hb) (h3 b hb), h4, fun b hb => ?_, h6.trans g3 fun b hb e => ?_, fun b hb => ⟨(h7 b hb).1, hin b (h7 b hb).2.2 (h7 b hb).2.1, Nat.lt_of_lt_of_le (h7 b hb).2.2 g3.size⟩⟩, fun b hb => g3.block b (h7 b hb).2.2 (fun e => e (h7 b hb).2.1)⟩
  · rcases g2.2 b hb with h | h
    · exact h5 b h
    · exact Nat.le_trans h6.size h
  · have := h5 b e; omega
/-- Both tell the same. -/
structure Rp (n : Nat) (fl : Int) (M : Mm) (R : Rr) : Prop where
  l : Rl M R
  b : Rb R
  n : M.ses.length = n
  f : M.flaw = fl
  i : Inv M
theorem Rp.sml {n : Nat} {fl : Int} {M : Mm} {R : Rr} (h : Rp n fl M R) : Sml R := by
  have h1 := h.l.beg
  have h2 := h.i.b1
  have h3 := h.i.cnt
  have h4 := congrArg List.length h.l.log
  rw [List.length_map] at h4
  have h5 : (0 : Int) ≤ acts M.ses := by unfold acts; omega
  exact ⟨by omega, by omega, h.b.o⟩
theorem Rp.clock {n : Nat} {fl : Int} {M : Mm} {R : Rr} (h : Rp n fl M R) : 0 ≤ R.clock ∧ R.clock ≤ 1099511627776 := by rw [h.l.clk]; exact ⟨h.i.c0, h.i.c1⟩
theorem Rp.step {n : Nat} {fl : Int} {M : Mm} {R : Rr} (h : Rp n fl M R) (s : Stp) : Rp n fl (doM M s).1 (rDo n fl R s).1 ∧ (rDo n fl R s).2 = (doM M s).2 ∧ rCode n R s = codeD M s := by
  obtain ⟨hl, hb, rfl, rfl, hi⟩ := h
  obtain ⟨h1, h2⟩ := hl.step hi s
  refine ⟨⟨h2, hb.step (by rw [hl.clk]; exact hi.c0) s, ?_, ?_, hi.step s⟩, h1, hl.code hi s⟩
  · rcases do_rel M s with e | e
    · rw [e]
    · obtain ⟨sn, h9⟩ := e.ses
      rw [h9, List.length_set]
  · rcases do_rel M s with e | e
    · rw [e]
    · exact e.flaw
theorem loadVar_st {w : World} {g : Nat} {s : Stp} (h : w.heap[g]? = some (stO s)) : (loadVar 43 ⟨g, 0, none⟩).run Try.prog w = .ok (stA s) w := by
  obtain ⟨c0, c1, c2, c3, c4⟩ := st_cells h
  clear h
  go_simp
set_option maxRecDepth 100000 in
set_option maxHeartbeats 1600000 in
theorem plain15 (w : World) (s : Stp) : Calls Try.prog 16 #[.agg #[.int .i64 s.kind, .int .i64 s.ses, .int .i64 s.gap, .string s.key, .string s.value]] w fun e w' => e = .returned (stA s) ∧ Kept w w' := by
  obtain ⟨kd, se, gp, k, v⟩ := s
  go_enter Try.func16, Try.ntmps16
  go_wp2_with fail
  refine bodyPost_ret (results_c (a := 2) (t := 43) rfl rfl (loadVar_st (s := ⟨kd, se, gp, k, v⟩) (g := w.heap.size + 1) (by have h9 := heap_new (w.alloc (.cells #[.int .i64 kd, .int .i64 se, .int .i64 gp, .string k, .string v] 32 (0, 0))) (stO ⟨kd, se, gp, k, v⟩); rw [World.size_alloc] at h9; exact h9))) rfl ?_
  exact ⟨rfl, ((Same.refl _ _).alloc _).alloc _⟩
theorem Bm.now {w0 w : World} {mb rb n : Nat} {fl : Int} {M : Mm} {R : Rr} {G : Nat → Prop} (h : Bm w0 w mb rb n fl M R G) : (Calls Try.prog 21 #[.pointer (some ⟨mb, 0, none⟩)] w fun e w' => e = .returned (.int .i64 M.clock) ∧ w' = w) ∧ w.cell? ⟨rb, 2, none⟩ = some (.int .i64 R.clock) ∧ rb < w.heap.size := by
  obtain ⟨F, tg, av, ev, L, h1, h2, h3, h4, h5, h6, h7⟩ := h
  exact ⟨now15 h1, (cell_of h2.obj 2).trans rfl, lt_of_heap h2.obj⟩
set_option maxRecDepth 100000 in
set_option maxHeartbeats 3200000 in
theorem dob15 {w0 w : World} {mb rb n : Nat} {fl : Int} {M : Mm} {R : Rr} {G : Nat → Prop} (h : Bm w0 w mb rb n fl M R G) (p : Rp n fl M R) (s : Stp) (hk : s.key.size ≤ maxLen) (hv : s.value.size ≤ maxLen) :
    Calls Try.prog 8 #[.pointer (some ⟨mb, 0, none⟩), .pointer (some ⟨rb, 0, none⟩), .agg #[.int .i64 s.kind, .int .i64 s.ses, .int .i64 s.gap, .string s.key, .string s.value]] w fun e w' => e = .returned (.bool true) ∧ Bm w0 w' mb rb n fl (doM M s).1 (rDo n fl R s).1 G ∧ ∀ b, G b → w'.heap[b]? = w.heap[b]? := by
  obtain ⟨p', e1, e2⟩ := p.step s
  have HCK : Hid ((doM M s).1.clock = (rDo n fl R s).1.clock) := p'.l.clk.symm
  have HSM : Hid (Sml R) := p.sml
  have HRB : Hid (Rb R) := p.b
  have HCL : Hid _ := p.clock
  have HDO : Hid (∀ W G', Bm w0 W mb rb n fl (doM M s).1 R G' → Calls Try.prog 23 #[.pointer (some ⟨rb, 0, none⟩), stA s] W fun e w' => e = .returned (.tuple #[.bool (doM M s).2.found, .string (doM M s).2.value, .int .i64 (doM M s).2.status, .int .i64 (codeD M s)]) ∧ Bm w0 w' mb rb n fl (doM M s).1 (rDo n fl R s).1 G' ∧ ∀ b, G' b → w'.heap[b]? = W.heap[b]?) := fun W G' hW => by
    have h9 := hW.doc HSM.out HRB.out HCL.out s hk hv
    rw [e1, e2] at h9
    exact h9
  have HCO : Hid (∀ W G', Bm w0 W mb rb n fl M R G' → _) := fun W G' hW => Bm.code hW s hk hv
  have H0 : Hid _ := h
  have HPL : Hid (∀ W, Calls Try.prog 16 #[.agg #[.int .i64 s.kind, .int .i64 s.ses, .int .i64 s.gap, .string s.key, .string s.value]] W fun e w' => e = .returned (stA s) ∧ Kept W w') := fun W => plain15 W s
  clear h p p' e1 e2 hk hv HSM HRB HCL
  generalize (doM M s).1 = M' at *
  generalize (rDo n fl R s).1 = R' at *
  generalize (doM M s).2 = an at *
  obtain ⟨fd, vl, st⟩ := an
  generalize codeD M s = cd at *
  try simp only at HDO HCO
  obtain ⟨kd, se, gp, k, v⟩ := s
  try simp only at HDO HCO HPL ⊢
  go_enter Try.func8, Try.ntmps8
  go_upto_region 1 with fail
  have B1 : Hid _ := Bm.add H0.out (.cells #[.int .i64 kd, .int .i64 se, .int .i64 gp, .string k, .string v] 32 (0, 0))
  have G1 : Hid _ := heap_new w (.cells #[.int .i64 kd, .int .i64 se, .int .i64 gp, .string k, .string v] 32 (0, 0))
  have HGS : Hid (∀ b, G b → (w.alloc (.cells #[.int .i64 kd, .int .i64 se, .int .i64 gp, .string k, .string v] 32 (0, 0))).heap[b]? = w.heap[b]?) := fun b hb => by
    obtain ⟨F, tg, av, ev, L, h1, h2, h3, h4, h5, h6, h7⟩ := H0.out
    exact ((Same.refl (fun _ => False) w).alloc _).block b (h7 b hb).2.2 (fun e => e)
  generalize w.alloc (.cells #[.int .i64 kd, .int .i64 se, .int .i64 gp, .string k, .string v] 32 (0, 0)) = W1 at *
  generalize w.heap.size = g at B1 G1 ⊢
  have c0 : W1.cell? ⟨g, 0, none⟩ = some (.int .i64 kd) := (cell_of G1.out 0).trans rfl
  have c1 : W1.cell? ⟨g, 1, none⟩ = some (.int .i64 se) := (cell_of G1.out 1).trans rfl
  have c2 : W1.cell? ⟨g, 2, none⟩ = some (.int .i64 gp) := (cell_of G1.out 2).trans rfl
  have c3 : W1.cell? ⟨g, 3, none⟩ = some (.string k) := (cell_of G1.out 3).trans rfl
  have c4 : W1.cell? ⟨g, 4, none⟩ = some (.string v) := (cell_of G1.out 4).trans rfl
  have hg := lt_of_heap G1.out
  go_wp2_with fail
  refine Calls.mono (HCO.out _ _ B1.out) ?_
  rintro r2 W2 ⟨rfl, b2, s2⟩
  have B2 : Hid _ := b2
  have HG2 : Hid (∀ b, G b → W2.heap[b]? = w.heap[b]?) := fun b hb => (s2 b (.inr hb)).trans (HGS.out b hb)
  have G2 : Hid (W2.heap[g]? = some (.cells #[.int .i64 kd, .int .i64 se, .int .i64 gp, .string k, .string v] 32 (0, 0))) := (s2 g (.inl rfl)).trans G1.out
  clear b2 s2 c0 c1 c2 c3 c4 hg HCO B1 G1 HGS H0
  go_upto_region 2 with fail
  have B3 : Hid _ := Bm.add B2.out (.cells #[.bool fd, .string vl, .int .i64 st] 54 (0, 0))
  have G3 : Hid _ := heap_new W2 (.cells #[.bool fd, .string vl, .int .i64 st] 54 (0, 0))
  have G4 : Hid ((W2.alloc (.cells #[.bool fd, .string vl, .int .i64 st] 54 (0, 0))).heap[g]? = some (.cells #[.int .i64 kd, .int .i64 se, .int .i64 gp, .string k, .string v] 32 (0, 0))) := (((Same.refl (fun _ => False) W2).alloc _).block g (lt_of_heap G2.out) (fun e => e)).trans G2.out
  have HG3 : Hid (∀ b, G b → (W2.alloc (.cells #[.bool fd, .string vl, .int .i64 st] 54 (0, 0))).heap[b]? = w.heap[b]?) := fun b hb => by
    obtain ⟨F, tg, av, ev, L, h1, h2, h3, h4, h5, h6, h7⟩ := B2.out
    exact (((Same.refl (fun _ => False) W2).alloc _).block b (h7 b (.inr hb)).2.2 (fun e => e)).trans (HG2.out b hb)
  generalize W2.alloc (.cells #[.bool fd, .string vl, .int .i64 st] 54 (0, 0)) = W3 at *
  generalize W2.heap.size = g7 at B3 G3 ⊢
  have c0 : W3.cell? ⟨g, 0, none⟩ = some (.int .i64 kd) := (cell_of G4.out 0).trans rfl
  have c1 : W3.cell? ⟨g, 1, none⟩ = some (.int .i64 se) := (cell_of G4.out 1).trans rfl
  have c2 : W3.cell? ⟨g, 2, none⟩ = some (.int .i64 gp) := (cell_of G4.out 2).trans rfl
  have c3 : W3.cell? ⟨g, 3, none⟩ = some (.string k) := (cell_of G4.out 3).trans rfl
  have c4 : W3.cell? ⟨g, 4, none⟩ = some (.string v) := (cell_of G4.out 4).trans rfl
  have hg := lt_of_heap G4.out
  go_wp2_with fail
  refine Calls.mono (HPL.out _) ?_
  rintro r4 W4 ⟨rfl, k4⟩
  have B4 : Hid _ := Bm.on B3.out k4
  have G5 : Hid (W4.heap[g7]? = some (.cells #[.bool fd, .string vl, .int .i64 st] 54 (0, 0))) := (k4.block g7 (lt_of_heap G3.out) (fun e => e)).trans G3.out
  have HG4 : Hid (∀ b, G b → W4.heap[b]? = w.heap[b]?) := fun b hb => by
    obtain ⟨F, tg, av, ev, L, h1, h2, h3, h4, h5, h6, h7⟩ := B3.out
    exact (k4.block b (h7 b (.inr (.inr hb))).2.2 (fun e => e)).trans (HG3.out b hb)
  clear c0 c1 c2 c3 c4 hg HPL B3 G3 G4 HG3 B2 G2 HG2 k4
  go_wp2_with fail
  refine Calls.mono (HDO.out _ _ B4.out) ?_
  rintro r5 W5 ⟨rfl, b5, s5⟩
  have B5 : Hid _ := b5
  have G6 : Hid (W5.heap[g7]? = some (.cells #[.bool fd, .string vl, .int .i64 st] 54 (0, 0))) := (s5 g7 (.inl rfl)).trans G5.out
  have HG5 : Hid (∀ b, G b → W5.heap[b]? = w.heap[b]?) := fun b hb => (s5 b (.inr (.inr hb))).trans (HG4.out b hb)
  clear b5 s5 HDO B4 G5 HG4
  obtain ⟨hnow, hck, hrl⟩ := Bm.now B5.out
  have HNW : Hid (∀ W, (∃ m, W = W5.drewN m) → Calls Try.prog 21 #[.pointer (some ⟨mb, 0, none⟩)] W fun e w' => e = .returned (.int .i64 R'.clock) ∧ w' = W) := fun W hW => by
    obtain ⟨m, rfl⟩ := hW
    have h9 := (Bm.now (Bm.on B5.out (Same.drewN (Same.refl _ _) m))).1
    rw [show M'.clock = _ from HCK.out] at h9
    exact h9
  have a0 : W5.cell? ⟨g7, 0, none⟩ = some (.bool fd) := (cell_of G6.out 0).trans rfl
  have a1 : W5.cell? ⟨g7, 1, none⟩ = some (.string vl) := (cell_of G6.out 1).trans rfl
  have a2 : W5.cell? ⟨g7, 2, none⟩ = some (.int .i64 st) := (cell_of G6.out 2).trans rfl
  have hg7 := lt_of_heap G6.out
  clear hnow G6
  generalize R'.clock = ck at *
  go_upto_region 3 with fail
  go_quiet ((go_at_call 21; exact Calls.quiet_of_same (HNW.out _ (by first | exact ⟨0, rfl⟩ | exact ⟨_, rfl⟩))))
  go_wp2_with fail
  go_ret
  exact ⟨rfl, Bm.weak (Bm.on B5.out (by (repeat (first | exact Same.refl _ _ | apply Same.drew | apply Same.drewN)); done)) (fun b hb => .inr (.inr hb)), HG5.out⟩
end Go.Proofs.Ytmghmacgljihcaa

namespace Go.Proofs.Ytmghmacgljihcaa
open Go.RowKit

theorem MkN.good {w w' : World} {mb : Nat} {M : Mm} (h : MkN w w' mb M) : Good M.A := by
  obtain ⟨F, ⟨-, tg, sb, vb, lv, P, L, hm, -⟩, -⟩ := h
  exact hm.st.good
theorem Sx.new {n : Nat} (h0 : 1 ≤ n) (h1 : n ≤ 64) : Sx n (newM n 0) 0 [] 0 (fun _ => none) := ⟨Ok.new h0 h1, rfl, rfl, rfl, fun j => by rw [at_new]; rfl⟩
set_option maxRecDepth 100000 in
set_option maxHeartbeats 1600000 in
theorem anchor15 (w : World) : Calls Try.prog 5 #[] w fun e w' => e = .returned (.bool true) ∧ Kept w w' := by
  have HN : Hid _ := newN w 1 (by decide) (by decide)
  have s0 := Sx.new (n := 1) (by decide) (by decide)
  obtain ⟨M1, a1, e1, c1, f1, o1, s1⟩ := s0.begin (i := 0) (by decide) rfl (by decide) (by decide)
  obtain ⟨M2, e2, c2, s2⟩ := s1.write (i := 0) (a := a1) (k := ⟨#[97]⟩) (v := ⟨#[120]⟩) rfl (by rw [o1]; decide) ⟨by decide, by decide⟩ (by decide) (by decide)
  obtain ⟨M3, e3, c3, s3⟩ := (s2.commit (i := 0) (k := ⟨#[97]⟩) (v := ⟨#[120]⟩) rfl (by show a1.t.ops ++ _ = _; rw [o1]; rfl) ⟨by decide, by decide⟩ (by decide) (by decide) (by decide)).1 rfl
  have HE1 : Hid _ := And.intro e1 c1
  have HE2 : Hid _ := And.intro e2 c2
  have HE3 : Hid _ := And.intro e3 c3
  have HS3 : Hid _ := s3
  clear s0 s1 s2 s3 c1 c2 c3 e1 e2 e3 f1 o1
  go_enter Try.func5, Try.ntmps5
  go_wp2_with fail
  refine Calls.mono HN.out ?_
  rintro e w1 ⟨mb, rfl, m1⟩
  have D1 : Hid _ := MkN.doN m1 1 0 0 e0 e0 (by decide) (by decide) HE1.out.1 HE1.out.2
  clear m1
  go_wp2_with fail
  refine Calls.mono D1.out ?_
  rintro e w2 ⟨rfl, m2⟩
  have D2 : Hid _ := MkN.doN m2 3 0 0 ⟨#[97]⟩ ⟨#[120]⟩ (by decide) (by decide) HE2.out.1 HE2.out.2
  clear m2
  go_wp2_with fail
  refine Calls.mono D2.out ?_
  rintro e w3 ⟨rfl, m3⟩
  have D3 : Hid _ := MkN.doN m3 5 0 0 e0 e0 (by decide) (by decide) HE3.out.1 HE3.out.2
  clear m3
  go_wp2_with fail
  refine Calls.mono D3.out ?_
  rintro e w4 ⟨rfl, m4⟩
  have m5 := MkN.on m4 ((Same.refl _ w4).alloc (.cells #[.bool false, .string e0, .int .i64 1] 54 (0, 0)))
  have D4 : Hid _ := MkN.valN m5 ⟨#[97]⟩ (by decide) (x := ⟨3, 0, true, ⟨#[120]⟩⟩) (Sx.val (A := []) HS3.out (MkN.good m5) (by decide) (fun e he => by cases he))
  have M5 : Hid _ := m5
  have HB : Hid (AnB (w4.alloc (.cells #[.bool false, .string e0, .int .i64 1] 54 (0, 0))) w4.heap.size ⟨false, e0, 1⟩) := heap_new _ _
  clear m4 m5
  go_wp2_with fail
  refine Calls.mono D4.out ?_
  rintro e w6 ⟨rfl, k6⟩
  have m6 := MkN.on M5.out k6
  have D5 : Hid _ := MkN.nowN m6 (c := 3) (Sx.clock HS3.out)
  obtain ⟨⟨-, -, z2⟩, hl2, -⟩ := AnB.cells ((k6.block w4.heap.size (lt_of_heap HB.out) (fun e => e)).trans HB.out : AnB w6 w4.heap.size ⟨false, e0, 1⟩)
  have K6 : Hid (Kept w w6) := MkN.kept m6
  clear m6 k6
  go_wp2_with fail
  refine Calls.mono D5.out ?_
  rintro e w7 ⟨rfl, rfl⟩
  go_wp2_with fail
  go_ret
  exact ⟨rfl, K6.out⟩
/-- Session 3 made idle. -/
def freeM (M : Mm) : Mm := if (M.at 3).act.isSome = true then (doM M ⟨6, 3, 0, e0, e0⟩).1 else M
def freeB (M : Mm) : Bool := !(M.at 3).act.isSome && decide (M.clock < 549755813888) && decide (M.log.length < 4000)
theorem Ok.free {n : Nat} {M : Mm} (h : Ok n M) : Ok n (freeM M) := by
  unfold freeM
  split
  · exact h.step _
  · exact h
end Go.Proofs.Ytmghmacgljihcaa

namespace Go.Proofs.Ytmghmacgljihcaa
open Go.RowKit

set_option maxRecDepth 100000 in
set_option maxHeartbeats 1600000 in
theorem rnewBad (w : World) (n fl : Int) (h : (n < 1 ∨ 64 < n) ∨ (fl < 0 ∨ 4 < fl)) : Calls Try.prog 7 #[.int .i64 n, .int .i64 fl] w fun e w' => e = .returned (.tuple #[.pointer none, .int .i64 (if n < 1 ∨ 64 < n then 150 else 158)]) ∧ w' = w := by
  by_cases d1 : n < 1
  · rw [if_pos (.inl d1)]
    have e1 : decide (n < 1) = true := decide_eq_true d1
    go_enter Try.func7, Try.ntmps7
    go_wp2_with fail
    go_ret2
    exact ⟨rfl, rfl⟩
  · have e1 : decide (n < 1) = false := decide_eq_false d1
    by_cases d2 : 64 < n
    · rw [if_pos (.inr d2)]
      have e2 : decide (64 < n) = true := decide_eq_true d2
      go_enter Try.func7, Try.ntmps7
      go_wp2_with fail
      go_ret2
      exact ⟨rfl, rfl⟩
    · rw [if_neg (by omega)]
      have e2 : decide (64 < n) = false := decide_eq_false d2
      by_cases d3 : fl < 0
      · have e3 : decide (fl < 0) = true := decide_eq_true d3
        go_enter Try.func7, Try.ntmps7
        go_wp2_with fail
        go_ret2
        exact ⟨rfl, rfl⟩
      · have e3 : decide (fl < 0) = false := decide_eq_false d3
        have d4 : 4 < fl := by omega
        have e4 : decide (4 < fl) = true := decide_eq_true d4
        go_enter Try.func7, Try.ntmps7
        go_wp2_with fail
        go_ret2
        exact ⟨rfl, rfl⟩
set_option maxRecDepth 100000 in
set_option maxHeartbeats 1600000 in
theorem rnew15 (w : World) (n : Nat) (fl : Int) (h0 : 1 ≤ n) (h1 : n ≤ 64) (f0 : 0 ≤ fl) (f1 : fl ≤ 4) : Calls Try.prog 7 #[.int .i64 (n : Int), .int .i64 fl] w fun e w' => ∃ rb, e = .returned (.tuple #[.pointer (some ⟨rb, 0, none⟩), .int .i64 0]) ∧ ∃ tg, Rm tg w' rb n fl ⟨0, [], []⟩ (.slice none 0 0) (.slice none 0 0) [] ∧ (∀ b, tg b ≠ .out → w.heap.size ≤ b) ∧ Kept w w' := by
  have d1 : ¬ (n : Int) < 1 := by omega
  have d2 : ¬ 64 < (n : Int) := by omega
  have d3 : ¬ fl < 0 := by omega
  have d4 : ¬ 4 < fl := by omega
  have e1 : decide ((n : Int) < 1) = false := decide_eq_false d1
  have e2 : decide (64 < (n : Int)) = false := decide_eq_false d2
  have e3 : decide (fl < 0) = false := decide_eq_false d3
  have e4 : decide (4 < fl) = false := decide_eq_false d4
  go_enter Try.func7, Try.ntmps7
  go_wp2_with fail
  go_ret2
  refine ⟨w.heap.size, rfl, fun b => if b = w.heap.size then Ug.mach else Ug.out, ⟨heap_new w _, (by simp), ⟨rfl, .inl ⟨rfl, rfl⟩⟩, (fun b hb => by cases hb), ⟨rfl, .inl ⟨rfl, rfl⟩⟩, (fun b hb => by cases hb), rfl, (fun i x hx => by cases hx), fun b hb => ?_⟩, fun b hb => ?_, (Same.refl _ _).alloc _⟩
  · have : b = w.heap.size := Classical.byContradiction fun e => hb (if_neg e)
    rw [World.size_alloc]
    omega
  · have : b = w.heap.size := Classical.byContradiction fun e => hb (if_neg e)
    omega
/-- Both, just made. -/
theorem Bm.start {w0 w w' : World} {mb rb n : Nat} {fl : Int} {M : Mm} {R : Rr} {av ev : Value} {L : List Rt} {tg : Nat → Ug} (h : MkN w0 w mb M) (hr : Rm tg w' rb n fl R av ev L) (ht : ∀ b, tg b ≠ .out → w.heap.size ≤ b) (k : Kept w w') : Bm w0 w' mb rb n fl M R (fun _ => False) := by
  obtain ⟨F, h1, h2, h3⟩ := h
  refine ⟨F, tg, av, ev, L, h1.on k, hr, fun b hb => ?_, h2, fun b hb => Nat.le_trans h3.size (ht b hb), Same.trans' h3 k, fun _ e => e.elim⟩
  by_cases e : tg b = .out
  · exact e
  · have := ht b e
    have := h1.lt b hb
    omega
theorem inv_new {n : Nat} {fl : Int} {w : World} {mb : Nat} {F : Nat → Prop} (h : Mk F w mb (newM n fl)) : Rp n fl (newM n fl) ⟨0, [], []⟩ := ⟨Rl.new n fl, ⟨(fun _ h => by cases h), (fun _ h => by cases h)⟩, (by simp [newM]), rfl, h.1⟩
set_option maxRecDepth 100000 in
set_option maxHeartbeats 800000 in
theorem active_off {F : Nat → Prop} {w : World} {mb : Nat} {M : Mm} (h : Mk F w mb M) {i : Int} (hi : i < 0 ∨ (M.ses.length : Int) ≤ i) : Calls Try.prog 9 #[.pointer (some ⟨mb, 0, none⟩), .int .i64 i] w fun e w' => e = .returned (.bool false) ∧ w' = w := by
  obtain ⟨hv, tg, sb, vb, lv, P, L, hm, -⟩ := h
  obtain ⟨hmb, ⟨-, -, -, c3, -⟩, -⟩ := Mi.cells hm
  have hs1 := hv.s1
  clear hm hv
  generalize M.ses.length = n at *
  by_cases d1 : i < 0
  · have e1 : decide (0 ≤ i) = false := decide_eq_false (by omega)
    have e2 : ¬ 0 ≤ i := by omega
    go_enter Try.func9, Try.ntmps9
    go_wp2_with fail
    go_ret
    exact ⟨rfl, rfl⟩
  · have e1 : decide (0 ≤ i) = true := decide_eq_true (by omega)
    have e2 : 0 ≤ i := by omega
    have e3 : ¬ i < (n : Int) := by omega
    have e4 : decide (i < (n : Int)) = false := decide_eq_false e3
    go_enter Try.func9, Try.ntmps9
    go_wp2_with fail
    go_ret
    exact ⟨rfl, rfl⟩
/-- What both say of a session. -/
theorem Bm.active {w0 w : World} {mb rb n : Nat} {fl : Int} {M : Mm} {R : Rr} {G : Nat → Prop} (h : Bm w0 w mb rb n fl M R G) (p : Rp n fl M R) (i : Int) : ∃ (b : Bool) (x : Int), (decide (0 ≤ x) = b) ∧ (Calls Try.prog 9 #[.pointer (some ⟨mb, 0, none⟩), .int .i64 i] w fun e w' => e = .returned (.bool b) ∧ w' = w) ∧ (Calls Try.prog 10 #[.pointer (some ⟨rb, 0, none⟩), .int .i64 i] w fun e w' => e = .returned (.int .i64 x) ∧ w' = w) := by
  obtain ⟨F, tg, av, ev, L, h1, h2, -⟩ := h
  obtain ⟨a, cap, -, hrd⟩ := h2.rd
  have hA := ractive15 hrd p.sml.n i
  by_cases hi : i < 0 ∨ (M.ses.length : Int) ≤ i
  · have hn : rAct R.all i = none := rAct_none fun j r hr => by
      cases e : isA i r with
      | false => rfl
      | true =>
        simp only [isA, Bool.and_eq_true, beq_iff_eq] at e
        obtain ⟨j', a', g1, g2, -⟩ := p.l.own j r hr e.1
        have := e.2
        omega
    rw [hn] at hA
    exact ⟨false, -1, rfl, active_off h1 hi, hA⟩
  · obtain ⟨j, rfl⟩ : ∃ j : Nat, i = (j : Int) := ⟨i.toNat, by omega⟩
    have hs := p.l.actS j
    refine ⟨(M.at j).act.isSome, _, ?_, active15 h1 (by omega), hA⟩
    rw [← hs]
    cases rAct R.all (j : Int) with
    | none => rfl
    | some q => simp [ix]
theorem Bm.value {w0 w : World} {mb rb n : Nat} {fl : Int} {M : Mm} {R : Rr} {G : Nat → Prop} (h : Bm w0 w mb rb n fl M R G) (p : Rp n fl M R) (k : ByteArray) (hk : k.size ≤ maxLen) : (Calls Try.prog 11 #[.pointer (some ⟨mb, 0, none⟩), .string k] w fun e w' => e = .returned (.tuple #[.string (valM M k).v, .bool (valM M k).f]) ∧ Kept w w') ∧ ∀ W, Kept w W → (Calls Try.prog 12 #[.pointer (some ⟨rb, 0, none⟩), .string k] W fun e w' => e = .returned (.tuple #[.string (valM M k).v, .bool (valM M k).f]) ∧ Kept W w') := by
  obtain ⟨F, tg, av, ev, L, h1, h2, -⟩ := h
  refine ⟨value15 h1 k hk, fun W kW => ?_⟩
  obtain ⟨a, cap, -, hrd⟩ := (h2.on kW).rd
  have h9 := rvalue15 hrd p.sml k
  rw [p.l.val k] at h9
  exact h9
theorem Bm.logs {w0 w : World} {mb rb n : Nat} {fl : Int} {M : Mm} {R : Rr} {G : Nat → Prop} (h : Bm w0 w mb rb n fl M R G) (p : Rp n fl M R) : Calls Try.prog 14 #[.pointer (some ⟨mb, 0, none⟩)] w (LogP w M.log) ∧ ∀ W, Kept w W → Calls Try.prog 15 #[.pointer (some ⟨rb, 0, none⟩)] W (RlP W M.log) := by
  obtain ⟨F, tg, av, ev, L, h1, h2, -⟩ := h
  refine ⟨log15 h1, fun W kW => ?_⟩
  have h9 := rlog15 (h2.on kW) p.sml (fun i hi => ((p.l.fin i).1 hi).1)
  rw [← p.l.log] at h9
  exact h9
end Go.Proofs.Ytmghmacgljihcaa

namespace Go.Proofs.Ytmghmacgljihcaa
open Go.RowKit

set_option maxRecDepth 100000 in
set_option maxHeartbeats 6400000 in
theorem plays_law {w : World} {a : Option Addr} {l : List Stp} {cap : Nat} (hl : StepsAt w a l) (hs : SmallS l) (hn : l.length ≤ 2513169434918) (n0 fl : Int) :
    Calls Try.prog 3 #[.int .i64 n0, .int .i64 fl, .slice a l.length cap] w fun e w' => e = .returned (.bool true) ∧ Kept w w' := by
  have HAN : Hid _ := anchor15 w
  obtain ⟨n, en⟩ : ∃ n, n = l.length := ⟨_, rfl⟩
  by_cases hbad : (n0 < 1 ∨ 64 < n0) ∨ (fl < 0 ∨ 4 < fl)
  · have HNB : Hid (∀ W, Calls Try.prog 6 #[.int .i64 n0, .int .i64 fl] W fun e w' => e = .returned (.tuple #[.pointer none, .int .i64 (if n0 < 1 ∨ 64 < n0 then 150 else 158)]) ∧ w' = W) := fun W => newBad W n0 fl hbad
    have HRB : Hid (∀ W, Calls Try.prog 7 #[.int .i64 n0, .int .i64 fl] W fun e w' => e = .returned (.tuple #[.pointer none, .int .i64 (if n0 < 1 ∨ 64 < n0 then 150 else 158)]) ∧ w' = W) := fun W => rnewBad W n0 fl hbad
    obtain ⟨cd, ecd⟩ : ∃ cd : Int, cd = if n0 < 1 ∨ 64 < n0 then 150 else 158 := ⟨_, rfl⟩
    have hcd : cd ≠ 0 := by rw [ecd]; split <;> decide
    rw [← ecd] at HNB HRB
    rw [← en]
    have f1 : (cd != 0) = true := by simpa using hcd
    clear hl hs en hbad ecd hn
    go_enter Try.func3, Try.ntmps3
    go_wp2_with fail
    refine Calls.mono HAN.out ?_
    rintro e w0 ⟨rfl, k0⟩
    have K0 : Hid (Kept w w0) := k0
    clear k0 HAN
    go_wp2_with fail
    refine Calls.mono (HNB.out _) ?_
    rintro e w1 ⟨rfl, e1⟩
    subst w1
    go_wp2_with fail
    refine Calls.mono (HRB.out _) ?_
    rintro e w1 ⟨rfl, e1⟩
    subst w1
    go_wp2_with fail
    go_ret
    exact ⟨rfl, K0.out⟩
  · obtain ⟨N, eN⟩ : ∃ N : Nat, n0 = (N : Int) := ⟨n0.toNat, by omega⟩
    subst eN
    have hN0 : 1 ≤ N := by omega
    have hN1 : N ≤ 64 := by omega
    have hf0 : 0 ≤ fl := by omega
    have hf1 : fl ≤ 4 := by omega
    have HNW : Hid (∀ W, _) := fun W => newF W N fl hN0 hN1 hf0 hf1
    have HRN : Hid (∀ W, _) := fun W => rnew15 W N fl hN0 hN1 hf0 hf1
    have HL : Hid (StepsAt w a l) := hl
    have HSM : Hid (SmallS l) := hs
    have ENL : Hid (n = l.length) := en
    rw [← en] at hn ⊢
    clear hl hs en hbad hf0 hf1
    go_enter Try.func3, Try.ntmps3
    go_wp2_with fail
    refine Calls.mono HAN.out ?_
    rintro e w0 ⟨rfl, k0⟩
    have K0 : Hid (Kept w w0) := k0
    clear k0 HAN
    go_wp2_with fail
    refine Calls.mono (HNW.out _) ?_
    rintro e w1 ⟨mb, rfl, h1⟩
    have H1 : Hid (MkN w0 w1 mb (newM N fl)) := h1
    clear h1 HNW
    go_wp2_with fail
    refine Calls.mono (HRN.out _) ?_
    rintro e w2 ⟨rb, rfl, tg, h2, h3, h4⟩
    have B0 : Hid (Bm w w2 mb rb N fl (newM N fl) ⟨0, [], []⟩ (fun _ => False)) := Bm.start (MkN.behind K0.out H1.out) h2 h3 h4
    have P0 : Hid (Rp N fl (newM N fl) ⟨0, [], []⟩) := by
      obtain ⟨F, h9, -⟩ := H1.out
      exact inv_new h9
    clear h2 h3 h4 HRN H1 K0
    go_wp2_with fail
    go_loopw [48] (fun t wr => ∃ (j : Nat) (M : Mm) (R : Rr), t = .int .i64 j ∧ j ≤ n ∧ Bm w wr mb rb N fl M R (fun _ => False) ∧ Rp N fl M R) (fun t _ => n - (intOf t).toNat)
    case atStart => exact ⟨0, _, _, rfl, Nat.zero_le _, B0.out, P0.out⟩
    case round =>
      obtain ⟨j, M, R, rfl, hj, hB, hP⟩ := hrel
      rename World => WL
      have HB : Hid (Bm w WL mb rb N fl M R (fun _ => False)) := hB
      have HP : Hid (Rp N fl M R) := hP
      clear hB hP B0 P0
      by_cases hlt : j < n
      · have d1 : decide ((j : Int) < (n : Int)) = true := decide_eq_true (by omega)
        have hlt2 : (j : Int) < (n : Int) := by omega
        obtain ⟨s, hsj⟩ : ∃ s, l[j]? = some s := ⟨_, List.getElem?_eq_getElem (by rw [← show n = _ from ENL.out]; exact hlt)⟩
        obtain ⟨b, off, rfl, hb, c0, c1, c2, c3, c4⟩ := (StepsAt.on HL.out (Bm.kept HB.out)) j s hsj
        have hsm := HSM.out s (List.mem_of_getElem? hsj)
        have HDO : Hid (∀ W, Kept WL W → _) := fun W (k : Kept WL W) => dob15 (Bm.on HB.out k) HP.out s hsm.1 hsm.2
        have HNX : Hid (Rp N fl (doM M s).1 (rDo N fl R s).1) := (Rp.step HP.out s).1
        have hj1 : (j : Int) + 1 ≤ 9223372036854775807 := by omega
        clear hsj hsm
        generalize (doM M s).1 = M' at *
        generalize (rDo N fl R s).1 = R' at *
        obtain ⟨kd, se, gp, k, v⟩ := s
        try simp only at c0 c1 c2 c3 c4 HDO
        go_wp2_with fail
        refine Calls.mono (HDO.out _ (by (repeat (first | exact Same.refl _ _ | apply Same.alloc | apply Same.drew | apply Same.drewN)); done)) ?_
        rintro e w5 ⟨rfl, b5, -⟩
        have B5 : Hid _ := b5
        clear b5 HDO
        go_wp2_with fail
        go_roundw
        case rel => exact ⟨j + 1, M', R', by simp, hlt, B5.out, HNX.out⟩
        case measure => simp only [intOf]; omega
      · obtain rfl : n = j := by omega
        have d1 : decide ((n : Int) < (n : Int)) = false := decide_eq_false (by omega)
        go_wp2_with fail
        go_loopw [13] (fun t wr => ∃ i : Int, t = .int .i64 i ∧ -1 ≤ i ∧ i ≤ (N : Int) + 1 ∧ wr = WL) (fun t _ => ((N : Int) + 1 - intOf t).toNat)
        case atStart => exact ⟨-1, rfl, by omega, by omega, rfl⟩
        case round =>
          obtain ⟨i, rfl, hi0, hi1, ew⟩ := hrel
          subst ew
          by_cases hle : i ≤ (N : Int)
          · have d2 : decide (i ≤ (N : Int)) = true := decide_eq_true hle
            obtain ⟨ab, ax, hax, hac, hdc⟩ := Bm.active HB.out HP.out i
            have HAC : Hid _ := hac
            have HDC : Hid _ := hdc
            have hi2 : i + 1 ≤ 9223372036854775807 := by omega
            have hi3 : -9223372036854775808 ≤ i + 1 := by omega
            clear hac hdc
            go_wp2_with fail
            refine Calls.mono HAC.out ?_
            rintro e w5 ⟨rfl, e5⟩
            subst e5
            go_wp2_with fail
            refine Calls.mono HDC.out ?_
            rintro e w5 ⟨rfl, e5⟩
            subst e5
            subst hax
            clear HAC HDC
            go_wp2_with fail
            go_roundw
            case rel => exact ⟨i + 1, rfl, by omega, by omega, by first | trivial | rfl⟩
            case measure => simp only [intOf]; omega
          · have d2 : decide (i ≤ (N : Int)) = false := decide_eq_false hle
            go_wp2_with fail
            rename World => WM
            go_loopw [73] (fun t wr => ∃ j : Nat, t = .int .i64 j ∧ j ≤ n ∧ Kept WM wr) (fun t _ => n - (intOf t).toNat)
            case atStart => exact ⟨0, rfl, Nat.zero_le _, Same.refl _ _⟩
            case round =>
              obtain ⟨j, rfl, hj, kj⟩ := hrel
              rename World => WN
              have KJ : Hid (Kept WM WN) := kj
              clear kj
              by_cases hlt : j < n
              · have d3 : decide ((j : Int) < (n : Int)) = true := decide_eq_true (by omega)
                have hlt2 : (j : Int) < (n : Int) := by omega
                obtain ⟨s, hsj⟩ : ∃ s, l[j]? = some s := ⟨_, List.getElem?_eq_getElem (by rw [← show n = _ from ENL.out]; exact hlt)⟩
                obtain ⟨b, off, rfl, hb, c0, c1, c2, c3, c4⟩ := (StepsAt.on HL.out (Same.trans' (Bm.kept HB.out) KJ.out)) j s hsj
                have hsm := HSM.out s (List.mem_of_getElem? hsj)
                have HV1 : Hid (∀ W, Kept WM W → _) := fun W (k : Kept WM W) => (Bm.value (Bm.on HB.out k) HP.out s.key hsm.1).1
                have HV2 : Hid (∀ W, Kept WM W → _) := fun W (k : Kept WM W) => (Bm.value HB.out HP.out s.key hsm.1).2 W k
                have hj1 : (j : Int) + 1 ≤ 9223372036854775807 := by omega
                clear hsj hsm
                generalize valM M s.key = vm at *
                obtain ⟨vc, vw, vf, vv⟩ := vm
                obtain ⟨kd, se, gp, k, v⟩ := s
                try simp only at c0 c1 c2 c3 c4 HV1 HV2
                go_wp2_with fail
                refine Calls.mono (HV1.out _ (by (repeat (first | exact KJ.out | apply Same.alloc | apply Same.drew | apply Same.drewN)); done)) ?_
                rintro e w5 ⟨rfl, k5⟩
                have K5 : Hid (Kept WM w5) := Same.trans' (by (repeat (first | exact KJ.out | apply Same.alloc | apply Same.drew | apply Same.drewN)); done) k5
                have hbx : w5.cell? ⟨WN.heap.size, 3, none⟩ = some (.string k) := (k5.cell (p := ⟨WN.heap.size, 3, none⟩) (by rw [World.size_alloc]; exact Nat.lt_succ_self _) (fun e => e)).trans ((cell_of (heap_new WN _) 3).trans rfl)
                have hbs : WN.heap.size < w5.heap.size := Nat.lt_of_lt_of_le (by rw [World.size_alloc]; exact Nat.lt_succ_self _) k5.size
                clear k5 HV1 c0 c1 c2 c3 c4
                go_wp2_with fail
                refine Calls.mono (HV2.out _ K5.out) ?_
                rintro e w6 ⟨rfl, k6⟩
                have K6 : Hid (Kept WM w6) := Same.trans' K5.out k6
                clear k6 HV2 hbx hbs
                go_wp2_with fail
                go_roundw
                case rel => exact ⟨j + 1, by simp, hlt, K6.out⟩
                case measure => simp only [intOf]; omega
              · obtain rfl : n = j := by omega
                obtain ⟨hl1, hl2⟩ := Bm.logs (Bm.on HB.out KJ.out) HP.out
                have HL1 : Hid _ := hl1
                have HL2 : Hid _ := hl2
                have HO16 : Hid (∀ t ∈ M.log, t.ops.length ≤ 9223372036854775807) := fun t ht => by have := HP.out.i.lg t ht; omega
                have hln : M.log.length ≤ 4096 := by
                  have h1 := HP.out.i.cnt
                  have h2 := HP.out.i.b1
                  have h3 : (0 : Int) ≤ acts M.ses := by unfold acts; omega
                  omega
                have KW : Hid (Kept w WN) := Same.trans' (Bm.kept HB.out) KJ.out
                clear hl1 hl2
                go_wp2_with fail
                refine Calls.mono HL1.out ?_
                rintro e w7 ⟨v7, L7, rfl, o7, m7, p7, k7⟩
                obtain ⟨va, vc, rfl, -⟩ := row_shape o7
                have T7 : Hid (TxnsAt w7 va M.log) := by
                  have h9 := OwnT.txns o7 p7
                  rw [m7] at h9
                  exact h9
                have e7 : L7.length = M.log.length := by rw [← m7, List.length_map]
                rw [e7]
                have K7 : Hid (Kept WN w7) := k7
                have H8 : Hid _ := HL2.out w7 k7
                clear o7 p7 m7 e7 k7 HL1 HL2
                go_wp2_with fail
                refine Calls.mono H8.out ?_
                rintro e w8 ⟨v8, L8, rfl, o8, m8, p8, k8⟩
                obtain ⟨vb, vd, rfl, -⟩ := row_shape o8
                have T8 : Hid (TxnsAt w8 vb M.log) := by
                  have h9 := OwnT.txns o8 p8
                  rw [m8] at h9
                  exact h9
                have e8 : L8.length = M.log.length := by rw [← m8, List.length_map]
                rw [e8]
                have H9 : Hid _ := sameL15 w8 va vb vc vd M.log.length M.log (TxnsAt.on T7.out k8) T8.out rfl (by omega) HO16.out
                have K8 : Hid (Kept w w8) := Same.trans' (Same.trans' KW.out K7.out) k8
                clear o8 p8 m8 e8 k8 H8
                generalize M.log.length = ln at *
                go_wp2_with fail
                refine Calls.mono H9.out ?_
                rintro e w9 ⟨rfl, k9⟩
                have K9 : Hid (Kept w w9) := Same.trans' K8.out k9
                clear k9 H9
                go_wp2_with fail
                go_ret
                exact ⟨rfl, K9.out⟩
end Go.Proofs.Ytmghmacgljihcaa

namespace Go.Proofs.Ytmghmacgljihcaa
open Go.RowKit

def stc (l : List Stp) : List Value := l.flatMap fun s => [.int .i64 s.kind, .int .i64 s.ses, .int .i64 s.gap, .string s.key, .string s.value]
theorem length_stc (l : List Stp) : (stc l).length = l.length * 5 := by
  induction l with
  | nil => rfl
  | cons a r ih => simp only [stc, List.flatMap_cons, List.length_append, List.length_cons, List.length_nil] at *; omega
theorem stc_append (a b : List Stp) : stc (a ++ b) = stc a ++ stc b := by simp [stc]
theorem stc_one (l : List Stp) : ∀ v ∈ stc l, v.oneCell' = true := by
  intro v hv
  obtain ⟨o, _, hf⟩ := List.mem_flatMap.1 hv
  simp only [List.mem_cons, List.not_mem_nil, or_false] at hf
  rcases hf with rfl | rfl | rfl | rfl | rfl <;> rfl
theorem stc_get {l : List Stp} {i : Nat} {s : Stp} (h : l[i]? = some s) (j : Nat) (hj : j < 5) : (stc l)[i * 5 + j]? = [Value.int .i64 s.kind, .int .i64 s.ses, .int .i64 s.gap, .string s.key, .string s.value][j]? := by
  induction l generalizing i with
  | nil => simp at h
  | cons a r ih =>
    have e : stc (a :: r) = [Value.int .i64 a.kind, .int .i64 a.ses, .int .i64 a.gap, .string a.key, .string a.value] ++ stc r := rfl
    cases i with
    | zero =>
      simp only [List.getElem?_cons_zero, Option.some.injEq] at h
      subst h
      rw [e, List.getElem?_append_left (by simp; omega)]
      simp
    | succ i =>
      simp only [List.getElem?_cons_succ] at h
      rw [e, List.getElem?_append_right (by simp; omega), ← ih h]
      congr 1
      simp; omega
theorem Try.infoStep : (Try.prog.info? 32).map (fun i => (i.zero, i.size, i.bytes)) = some (some (.agg #[.int .i64 0, .int .i64 0, .int .i64 0, .string .empty, .string .empty]), 5, 56) := by kernel_rfl
def OwnS (base : Nat) (w : World) (v : Value) (l : List Stp) : Prop := w.ownsRow base 32 5 v l.length (stc l)
theorem OwnS.steps {base : Nat} {w : World} {a : Option Addr} {m cap : Nat} {l : List Stp} (h : OwnS base w (.slice a m cap) l) : StepsAt w a l := fun i s hs => by
  obtain ⟨b, rfl, -, hb, c0⟩ := row_cell h (stc_get hs 0 (by omega))
  have e : ∀ {j : Nat} {u : Value}, (stc l)[j]? = some u → w.cell? ⟨b, j, none⟩ = some u := fun hu => by
    obtain ⟨b', eb, -, -, c⟩ := row_cell h hu
    cases eb
    exact c
  exact ⟨b, 0, rfl, hb, by rw [Nat.zero_add]; exact c0, by rw [Nat.zero_add]; exact e (stc_get hs 1 (by omega)), by rw [Nat.zero_add]; exact e (stc_get hs 2 (by omega)), by rw [Nat.zero_add]; exact e (stc_get hs 3 (by omega)), by rw [Nat.zero_add]; exact e (stc_get hs 4 (by omega))⟩
theorem StepsAt.cells {w : World} {ad : Addr} {l : List Stp} (h : StepsAt w (some ad) l) : ∀ j u, (stc l)[j]? = some u → w.cell? (ad.add j) = some u := fun j u hu => by
  have hj : j < l.length * 5 := by rw [← length_stc]; exact (List.getElem?_eq_some_iff.1 hu).1
  have hi : j / 5 < l.length := by omega
  obtain ⟨b, off, e, hb, c0, c1, c2, c3, c4⟩ := h (j / 5) _ (List.getElem?_eq_getElem hi)
  have hg := stc_get (List.getElem?_eq_getElem hi) (j % 5) (by omega)
  rw [show j / 5 * 5 + j % 5 = j by omega, hu] at hg
  cases e
  rw [add_at]
  have hm : j % 5 = 0 ∨ j % 5 = 1 ∨ j % 5 = 2 ∨ j % 5 = 3 ∨ j % 5 = 4 := by omega
  rcases hm with h | h | h | h | h <;> rw [h] at hg <;> cases hg
  · rw [show off + j = off + j / 5 * 5 by omega]; exact c0
  · rw [show off + j = off + j / 5 * 5 + 1 by omega]; exact c1
  · rw [show off + j = off + j / 5 * 5 + 2 by omega]; exact c2
  · rw [show off + j = off + j / 5 * 5 + 3 by omega]; exact c3
  · rw [show off + j = off + j / 5 * 5 + 4 by omega]; exact c4
/-- The copy that the law hands in. -/
theorem copy_steps {w : World} {a : Option Addr} {l : List Stp} {cap : Nat} (h : StepsAt w a l) (hc : a = none → cap = 0) (hn : l.length ≤ 2513169434918) (ty : TypeId) :
    ∃ v' w', (Builtin.append_ #[22, 22] ty #[.slice (some ⟨w.heap.size, 0, none⟩) 0 0, .slice a l.length cap]).run Try.prog (w.alloc (.cells #[] 32)) = .ok v' w' ∧ (∃ a' c', v' = .slice a' l.length c' ∧ StepsAt w' a' l) ∧ Kept w w' := by
  have k0 : Kept w (w.alloc (.cells #[] 32 (0, 0))) := (Same.refl _ w).alloc _
  have hmade : (w.alloc (.cells #[] 32 (0, 0))).ownsRow w.heap.size 32 5 (.slice (some ⟨w.heap.size, 0, none⟩) 0 0) 0 [] := World.ownsRow_made w #[] 0 (Nat.le_refl _) (Nat.zero_le _) (by simp)
  cases a with
  | none =>
    have hl : l = [] := by
      cases l with
      | nil => rfl
      | cons s r =>
        obtain ⟨b, off, e, -⟩ := h 0 s rfl
        cases e
    subst hl
    rw [hc rfl]
    obtain ⟨i0, hi0, -, -, -⟩ := info_parts Try.infoStep
    exact ⟨_, _, run_append_owned_none (P := Try.prog) (w := w.alloc (.cells #[] 32 (0, 0))) w.heap.size 22 ty 32 i0 5 Try.underlying22 hi0 _ 0 [] hmade, ⟨_, _, rfl, fun i s hs => by simp at hs⟩, k0⟩
  | some ad =>
    obtain ⟨v', w', hr, r1, r2, -, -⟩ := app_wide (P := Try.prog) (t := 22) (ty := ty) (c := cap) (m := l.length) (base := w.heap.size) Try.underlying22 Try.infoStep rfl (by decide) hmade (length_stc l) (h.on k0).cells (stc_one _) (by unfold maxLen; omega) (by omega) (by rw [World.size_alloc]; omega)
    rw [List.nil_append, Nat.zero_add] at r1
    obtain ⟨a', c', rfl, -⟩ := row_shape r1
    refine ⟨_, w', hr, ⟨a', c', rfl, OwnS.steps (m := l.length) r1⟩, ((Kept.to k0 _).trans' r2).mono fun k hk e => ?_⟩
    simp only [Value.ownBlock, Option.some.injEq] at e
    omega
theorem Try.infoRStep : (Try.prog.info? 43).map (fun i => (i.zero, i.size, i.bytes)) = some (some (.agg #[.int .i64 0, .int .i64 0, .int .i64 0, .string .empty, .string .empty]), 5, 56) := by kernel_rfl
/-- A list of the document's steps of one's own. -/
def OwnP (base : Nat) (w : World) (v : Value) (l : List Stp) : Prop := w.ownsRow base 43 5 v l.length (stc l)
theorem OwnP.steps {base : Nat} {w : World} {a : Option Addr} {m cap : Nat} {l : List Stp} (h : OwnP base w (.slice a m cap) l) : StepsAt w a l := fun i s hs => by
  obtain ⟨b, rfl, -, hb, c0⟩ := row_cell h (stc_get hs 0 (by omega))
  have e : ∀ {j : Nat} {u : Value}, (stc l)[j]? = some u → w.cell? ⟨b, j, none⟩ = some u := fun hu => by
    obtain ⟨b', eb, -, -, c⟩ := row_cell h hu
    cases eb
    exact c
  exact ⟨b, 0, rfl, hb, by rw [Nat.zero_add]; exact c0, by rw [Nat.zero_add]; exact e (stc_get hs 1 (by omega)), by rw [Nat.zero_add]; exact e (stc_get hs 2 (by omega)), by rw [Nat.zero_add]; exact e (stc_get hs 3 (by omega)), by rw [Nat.zero_add]; exact e (stc_get hs 4 (by omega))⟩
theorem app_pl {w : World} {base g : Nat} {v : Value} {xs : List Stp} (s : Stp) (hown : OwnP base w v xs) (hg : w.heap[g]? = some (.cells #[.int .i64 s.kind, .int .i64 s.ses, .int .i64 s.gap, .string s.key, .string s.value] 43 (0, 0))) (hb : xs.length + 1 ≤ 2513169434918) (hbase : base ≤ w.heap.size) (ty : TypeId) :
    ∃ v' w', (Builtin.append_ #[42, 42] ty #[v, .slice (some ⟨g, 0, none⟩) 1 1]).run Try.prog w = .ok v' w' ∧ OwnP base w' v' (xs ++ [s]) ∧ Same (fun k => v.ownBlock = some k) w w' := by
  obtain ⟨v', w', hr, r1, r2, -, -⟩ := app_wide (P := Try.prog) (t := 42) (ty := ty) (c := 1) (m := 1) (a := ⟨g, 0, none⟩) (news := stc [s]) Try.underlying42 Try.infoRStep rfl (by decide) hown (length_stc [s]) (fun j u hu => by
    rw [add_at, Nat.zero_add, cell_of hg]
    simpa [stc] using hu) (stc_one _) (by unfold maxLen; omega) (by omega) hbase
  rw [← stc_append] at r1
  exact ⟨v', w', hr, by rw [OwnP, List.length_append]; exact r1, r2⟩
end Go.Proofs.Ytmghmacgljihcaa

namespace Go.Proofs.Ytmghmacgljihcaa

/-- How many of a session; is it one's own? -/
def nOf (l : List TxM) (j : Int) : Nat := l.countP fun t => decide (t.f0 = j)
theorem nOf_snoc (l : List TxM) (t : TxM) (j : Int) : nOf (l ++ [t]) j = nOf l j + if t.f0 = j then 1 else 0 := by
  unfold nOf
  rw [List.countP_append]
  simp [List.countP_cons]
/-- A list of finished transactions that is right, by the clock c, of N sessions. -/
structure Lg (N : Nat) (c : Int) (l : List TxM) : Prop where
  one : ∀ t ∈ l, 0 ≤ t.f4 ∧ t.f4 < t.f2 ∧ t.f2 < t.f3 ∧ t.f3 = t.f5 ∧ t.f3 ≤ c ∧ 0 ≤ t.f0 ∧ t.f0 < N
  seq : ∀ (i : Nat) (t : TxM), l[i]? = some t → t.f1 = ((nOf (l.take i) t.f0 : Nat) : Int)
  two : ∀ (k i : Nat) (u t : TxM), k < i → l[k]? = some u → l[i]? = some t → u.f3 < t.f3 ∧ u.f2 ≠ t.f2 ∧ u.f3 ≠ t.f2 ∧ (u.f0 = t.f0 → u.f3 < t.f2)
/-- What stands of any machine's log. -/
structure Lm (N : Nat) (M : Mm) : Prop where
  len : M.ses.length = N
  lg : Lg N M.clock M.log
  c0 : 0 ≤ M.clock
  act : ∀ j a, (M.at j).act = some a → a.t.f0 = (j : Int) ∧ 0 ≤ a.t.f4 ∧ a.t.f4 < a.t.f2 ∧ a.t.f2 ≤ M.clock ∧ a.t.f1 = ((nOf M.log (j : Int) : Nat) : Int) ∧ ∀ t ∈ M.log, t.f2 ≠ a.t.f2 ∧ t.f3 ≠ a.t.f2 ∧ (t.f0 = (j : Int) → t.f3 < a.t.f2)
  dif : ∀ j q a b, j ≠ q → (M.at j).act = some a → (M.at q).act = some b → a.t.f2 ≠ b.t.f2
  bg : ∀ j, j < N → (M.at j).begun = ((nOf M.log (j : Int) : Nat) : Int) + if (M.at j).act.isSome = true then 1 else 0
theorem Lg.mono {N : Nat} {c c' : Int} {l : List TxM} (h : Lg N c l) (hc : c ≤ c') : Lg N c' l := ⟨fun t ht => by
  obtain ⟨a1, a2, a3, a4, a5, a6⟩ := h.one t ht
  exact ⟨a1, a2, a3, a4, by omega, a6⟩, h.seq, h.two⟩
theorem Lm.new (N : Nat) (fl : Int) : Lm N (newM N fl) := ⟨by simp [newM], ⟨fun t ht => (by cases ht), fun i t h => (by simp [newM] at h), fun k i u t _ h => (by simp [newM] at h)⟩, Int.le_refl _, fun j a h => (by rw [at_new] at h; cases h), fun j q a b _ h => (by rw [at_new] at h; cases h), fun j _ => by rw [at_new]; rfl⟩
theorem Lm.tick {N : Nat} {M : Mm} (h : Lm N M) {c : Int} (hc : M.clock ≤ c) : Lm N (M.tick c) := ⟨h.len, h.lg.mono hc, Int.le_trans h.c0 hc, fun j a ha => by
  obtain ⟨a1, a2, a3, a4, a5, a6⟩ := h.act j a ha
  exact ⟨a1, a2, a3, Int.le_trans a4 hc, a5, a6⟩, h.dif, h.bg⟩
/-- A begin at a time that is above all. -/
theorem Lm.begin {N : Nat} {M : Mm} (h : Lm N M) {i : Nat} {c : Int} (hi : i < N) (hn : (M.at i).act = none) (hc : M.clock < c) : Lm N (beginM (M.tick c) i M.clock) := by
  have hil : i < (M.tick c).ses.length := by show i < M.ses.length; rw [h.len]; exact hi
  have e : ∀ j, (beginM (M.tick c) i M.clock).at j = if i = j then ⟨(M.at i).begun + 1, some ⟨⟨i, (M.at i).begun, c, 0, M.clock, 0, 0, []⟩, []⟩⟩ else M.at j := fun j => at_begin hil
  have hb := h.bg i hi
  rw [hn] at hb
  simp only [Option.isSome_none, Bool.false_eq_true, if_false] at hb
  refine ⟨by show (M.ses.set i _).length = N; rw [List.length_set]; exact h.len, h.lg.mono (Int.le_of_lt hc), Int.le_trans h.c0 (Int.le_of_lt hc), fun j a ha => ?_, fun j q a b hjq ha hb => ?_, fun j hj => ?_⟩
  · rw [e] at ha
    split at ha
    · rename_i hij
      subst hij
      cases ha
      refine ⟨rfl, h.c0, hc, Int.le_refl _, by show (M.at i).begun = _; rw [hb]; simp; rfl, fun t ht => ?_⟩
      obtain ⟨a1, a2, a3, a4, a5, a6⟩ := h.lg.one t ht
      show t.f2 ≠ c ∧ t.f3 ≠ c ∧ (_ → t.f3 < c)
      exact ⟨by omega, by omega, fun _ => by omega⟩
    · obtain ⟨a1, a2, a3, a4, a5, a6⟩ := h.act j a ha
      exact ⟨a1, a2, a3, Int.le_trans a4 (Int.le_of_lt hc), a5, a6⟩
  · rw [e] at ha hb
    split at ha
    · cases ha
      split at hb
      · rename_i h1 h2; exact absurd (h1.symm.trans h2) hjq
      · obtain ⟨a1, a2, a3, a4, -⟩ := h.act q b hb
        show c ≠ b.t.f2
        omega
    · split at hb
      · cases hb
        obtain ⟨a1, a2, a3, a4, -⟩ := h.act j a ha
        show a.t.f2 ≠ c
        omega
      · exact h.dif j q a b hjq ha hb
  · rw [e]
    split
    · rename_i hij
      subst hij
      show (M.at i).begun + 1 = _
      rw [hb]
      simp
      rfl
    · exact h.bg j hj
theorem Lm.oper {N : Nat} {M : Mm} (h : Lm N M) {i : Nat} {a : Ac} (ha : (M.at i).act = some a) (o : OpM) : Lm N (operM M i a o) := by
  have e : ∀ j, (operM M i a o).at j = if i = j then ⟨(M.at i).begun, some (addO a M.clock o)⟩ else M.at j := fun j => at_oper (at_lt ha)
  refine ⟨by show (M.ses.set i _).length = N; rw [List.length_set]; exact h.len, h.lg, h.c0, fun j b hb => ?_, fun j q x y hjq hx hy => ?_, fun j hj => ?_⟩
  · rw [e] at hb
    split at hb
    · rename_i hij
      subst hij
      cases hb
      exact h.act i a ha
    · exact h.act j b hb
  · rw [e] at hx hy
    split at hx
    · rename_i h1
      cases hx
      split at hy
      · rename_i h2; exact absurd (h1.symm.trans h2) hjq
      · exact h.dif i q a y (by rw [h1]; exact hjq) ha hy
    · split at hy
      · rename_i h2
        cases hy
        exact h.dif j i x a (by rw [h2]; exact hjq) hx ha
      · exact h.dif j q x y hjq hx hy
  · rw [e]
    have := h.bg j hj
    split
    · rename_i hij
      subst hij
      rw [ha] at this
      exact this
    · exact this
/-- A transaction is finished now. -/
theorem Lm.fin {N : Nat} {M : Mm} (h : Lm N M) {i : Nat} {a : Ac} (ha : (M.at i).act = some a) (hs : a.t.f2 < M.clock) (hl : ∀ t ∈ M.log, t.f3 < M.clock) (ho : ∀ j b, (M.at j).act = some b → b.t.f2 < M.clock) (st : Int) (A : List En) : Lm N (finM { M with A := A } i a st) := by
  have hil := at_lt ha
  have hN : i < N := by rw [← h.len]; exact hil
  have e : ∀ j, (finM { M with A := A } i a st).at j = if i = j then ⟨(M.at i).begun, none⟩ else M.at j := fun j => at_fin (M := { M with A := A }) hil
  obtain ⟨a1, a2, a3, a4, a5, a6⟩ := h.act i a ha
  have hlog : (finM { M with A := A } i a st).log = M.log ++ [endT a.t M.clock st] := rfl
  refine ⟨by show (M.ses.set i _).length = N; rw [List.length_set]; exact h.len, ?_, h.c0, fun j b hb => ?_, fun j q x y hjq hx hy => ?_, fun j hj => ?_⟩
  · show Lg N M.clock (M.log ++ [endT a.t M.clock st])
    refine ⟨fun t ht => ?_, fun q t hq => ?_, fun k q u t hkq hk hq => ?_⟩
    · rcases List.mem_append.1 ht with ht | ht
      · exact h.lg.one t ht
      · rw [List.mem_singleton.1 ht]
        show 0 ≤ a.t.f4 ∧ a.t.f4 < a.t.f2 ∧ a.t.f2 < M.clock ∧ M.clock = M.clock ∧ M.clock ≤ M.clock ∧ 0 ≤ a.t.f0 ∧ a.t.f0 < N
        omega
    · rcases Nat.lt_or_ge q M.log.length with hlt | hge
      · rw [List.getElem?_append_left hlt] at hq
        rw [List.take_append_of_le_length (Nat.le_of_lt hlt)]
        exact h.lg.seq q t hq
      · rw [List.getElem?_append_right hge] at hq
        have h0 : q - M.log.length = 0 := by
          have := (List.getElem?_eq_some_iff.1 hq).1
          simp at this
          omega
        rw [h0] at hq
        simp only [List.getElem?_cons_zero, Option.some.injEq] at hq
        subst hq
        have hql : q = M.log.length := by omega
        rw [hql, List.take_left]
        show a.t.f1 = ((nOf M.log a.t.f0 : Nat) : Int)
        rw [a5, a1]
    · rcases Nat.lt_or_ge q M.log.length with hlt | hge
      · rw [List.getElem?_append_left hlt] at hq
        rw [List.getElem?_append_left (by omega)] at hk
        exact h.lg.two k q u t hkq hk hq
      · rw [List.getElem?_append_right hge] at hq
        have h0 : q - M.log.length = 0 := by
          have := (List.getElem?_eq_some_iff.1 hq).1
          simp at this
          omega
        rw [h0] at hq
        simp only [List.getElem?_cons_zero, Option.some.injEq] at hq
        subst hq
        rw [List.getElem?_append_left (by omega)] at hk
        have hu := List.mem_of_getElem? hk
        obtain ⟨b1, b2, b3⟩ := a6 u hu
        exact ⟨hl u hu, b1, b2, fun hf => b3 (hf.trans a1)⟩
  · rw [e] at hb
    split at hb
    · cases hb
    · rename_i hij
      obtain ⟨b1, b2, b3, b4, b5, b6⟩ := h.act j b hb
      have hne : ¬ (a.t.f0 = (j : Int)) := by rw [a1]; omega
      refine ⟨b1, b2, b3, b4, ?_, fun t ht => ?_⟩
      · show b.t.f1 = ((nOf (M.log ++ [endT a.t M.clock st]) (j : Int) : Nat) : Int)
        rw [nOf_snoc, if_neg (show ¬ (endT a.t M.clock st).f0 = (j : Int) from hne)]
        exact b5
      · have ht' : t ∈ M.log ++ [endT a.t M.clock st] := ht
        rcases List.mem_append.1 ht' with ht | ht
        · exact b6 t ht
        · rw [List.mem_singleton.1 ht]
          have h9 := ho j b hb
          exact ⟨h.dif i j a b hij ha hb, by show M.clock ≠ b.t.f2; omega, fun hf => absurd hf hne⟩
  · rw [e] at hx hy
    split at hx
    · cases hx
    · split at hy
      · cases hy
      · exact h.dif j q x y hjq hx hy
  · rw [e]
    have hb := h.bg j hj
    show _ = ((nOf (M.log ++ [endT a.t M.clock st]) (j : Int) : Nat) : Int) + _
    rw [nOf_snoc]
    split
    · rename_i hij
      subst hij
      rw [ha] at hb
      rw [if_pos (show (endT a.t M.clock st).f0 = (i : Int) from a1)]
      simp only [Option.isSome_some, if_true, Option.isSome_none, Bool.false_eq_true, if_false] at hb ⊢
      omega
    · rename_i hij
      rw [if_neg (show ¬ (endT a.t M.clock st).f0 = (j : Int) from by show ¬ a.t.f0 = (j : Int); rw [a1]; omega)]
      exact hb
theorem Lm.step {N : Nat} {M : Mm} (h : Lm N M) (s : Stp) : Lm N (doM M s).1 := by
  by_cases hc : codeD M s = 0
  · obtain ⟨hB, hU⟩ := codeD_zero hc
    obtain ⟨-, b2, b3, -, -⟩ := codeB_zero hB
    rw [do_ok hc]
    have hct : M.clock < M.clock + 1 + s.gap := by omega
    have ht := h.tick (Int.le_of_lt hct)
    have hl : ∀ t ∈ (M.tick (M.clock + 1 + s.gap)).log, t.f3 < (M.tick (M.clock + 1 + s.gap)).clock := fun t ht' => by
      have := (h.lg.one t ht').2.2.2.2.1
      show t.f3 < M.clock + 1 + s.gap
      omega
    have ho : ∀ j b, ((M.tick (M.clock + 1 + s.gap)).at j).act = some b → b.t.f2 < (M.tick (M.clock + 1 + s.gap)).clock := fun j b hb => by
      obtain ⟨-, -, -, h4, -⟩ := h.act j b hb
      show b.t.f2 < M.clock + 1 + s.gap
      omega
    have hiN : s.ses.toNat < N := by rw [← h.len]; omega
    unfold goM
    split
    · rename_i hn
      exact h.begin hiN hn hct
    · rename_i a ha
      have hs := ho _ a ha
      split
      · exact ht.oper ha _
      split
      · exact ht.oper ha _
      split
      · exact ht.oper ha _
      split
      · unfold comtM
        split
        · exact ht.fin ha hs hl ho 0 M.A
        · exact ht.fin ha hs hl ho 1 _
      · exact ht.fin ha hs hl ho 0 M.A
  · rw [do_no hc]
    exact h
theorem do_begun (M : Mm) (s : Stp) : (doM M s).1.begun ≤ M.begun + (if s.kind = 1 then 1 else 0) := by
  by_cases hc : codeD M s = 0
  · rw [do_ok hc]
    obtain ⟨-, hU⟩ := codeD_zero hc
    obtain ⟨-, u2, -⟩ := codeU_zero hU
    unfold goM
    split
    · rename_i hn
      have hk : s.kind = 1 := Classical.byContradiction fun hk => by
        obtain ⟨a, ha, -⟩ := u2 hk
        rw [show (M.at s.ses.toNat).act = none from hn] at ha
        cases ha
      rw [if_pos hk]
      exact Int.le_refl _
    · have h0 : M.begun ≤ M.begun + (if s.kind = 1 then 1 else 0) := by split <;> omega
      split
      · exact h0
      split
      · exact h0
      split
      · exact h0
      split
      · unfold comtM
        split <;> exact h0
      · exact h0
  · rw [do_no hc]
    show M.begun ≤ _
    split <;> omega
theorem pl_lm {N : Nat} (l : List Stp) {M : Mm} (h : Lm N M) : Lm N (plM M l) ∧ (plM M l).begun ≤ M.begun + l.length := by
  induction l generalizing M with
  | nil => exact ⟨h, by show M.begun ≤ M.begun + 0; omega⟩
  | cons s r ih =>
    obtain ⟨h1, h2⟩ := ih (h.step s)
    refine ⟨h1, ?_⟩
    have h3 := do_begun M s
    have h4 : (if s.kind = 1 then (1 : Int) else 0) ≤ 1 := by split <;> omega
    show (plM (doM M s).1 r).begun ≤ M.begun + ((r.length + 1 : Nat) : Int)
    omega
theorem ab_lm {N : Nat} {M : Mm} (h : Lm N M) (q : Nat) : Lm N (abM M q) ∧ (abM M q).begun ≤ M.begun := by
  induction q with
  | zero => exact ⟨h, Int.le_refl _⟩
  | succ q ih =>
    have h3 := do_begun (abM M q) ⟨6, q, 0, e0, e0⟩
    rw [if_neg (by simp)] at h3
    exact ⟨ih.1.step _, by show (doM (abM M q) ⟨6, q, 0, e0, e0⟩).1.begun ≤ _; have := ih.2; omega⟩
theorem em_inv {N : Nat} (fl : Int) (l : List Stp) (h0 : 1 ≤ N) (h1 : N ≤ 64) : Inv (emM N fl l) := by
  have h5 : ∀ (l : List Stp) {M : Mm}, Inv M → Inv (plM M l) := fun l => by
    induction l with
    | nil => exact fun h => h
    | cons s r ih => exact fun h => ih (h.step s)
  have h6 : ∀ q {M : Mm}, Inv M → Inv (abM M q) := fun q => by
    induction q with
    | zero => exact fun h => h
    | succ q ih => exact fun h => (ih h).step _
  exact h6 N (h5 l (Inv.new h0 h1 fl))
/-- The log that is emitted. -/
theorem em_log {N : Nat} (fl : Int) (l : List Stp) (h0 : 1 ≤ N) (h1 : N ≤ 64) : Lg N (emM N fl l).clock (emM N fl l).log ∧ (emM N fl l).log.length ≤ l.length ∧ (emM N fl l).log.length ≤ 4096 := by
  obtain ⟨a1, a2⟩ := pl_lm l (Lm.new N fl)
  obtain ⟨b1, b2⟩ := ab_lm a1 N
  have hi := em_inv fl l h0 h1
  have hc := hi.cnt
  have hb := hi.b1
  have h9 : (newM N fl).begun = 0 := rfl
  refine ⟨b1.lg, ?_, by omega⟩
  have h8 : (emM N fl l).begun ≤ l.length := by
    have : (emM N fl l).begun ≤ (plM (newM N fl) l).begun := b2
    omega
  omega
end Go.Proofs.Ytmghmacgljihcaa

namespace Go.Proofs.Ytmghmacgljihcaa

/-- An operation that is right; what a write or a delete leaves. -/
def rtO (o : OpM) : Prop := 0 < o.key.size ∧ o.key.size ≤ 8 ∧ o.value.size ≤ 16 ∧ ((o.kind = 1 ∧ (o.found = true ∨ o.value.size = 0)) ∨ (o.kind = 2 ∧ o.found = true) ∨ (o.kind = 3 ∧ o.found = false ∧ o.value.size = 0))
def rtV (f : Bool) (v : ByteArray) : Prop := v.size ≤ 16 ∧ (f = true ∨ v.size = 0)
theorem rtO.v {o : OpM} (h : rtO o) : rtV o.found o.value := by
  obtain ⟨-, -, h1, h2⟩ := h
  refine ⟨h1, ?_⟩
  rcases h2 with ⟨-, h⟩ | ⟨-, h⟩ | ⟨-, -, h⟩
  · exact h
  · exact .inl h
  · exact .inr h
/-- What stands of any machine's transactions and versions. -/
structure Vr (M : Mm) : Prop where
  A : ∀ e ∈ M.A, rtV e.x.f e.x.v
  act : ∀ j a, (M.at j).act = some a → ∀ o ∈ a.t.ops, rtO o
  log : ∀ t ∈ M.log, (t.f6 = 0 ∨ t.f6 = 1) ∧ t.ops.length ≤ 16 ∧ ∀ o ∈ t.ops, rtO o
theorem Vr.new (n : Nat) (fl : Int) : Vr (newM n fl) := ⟨(fun e h => by cases h), (fun j a h => by rw [at_new] at h; cases h), (fun t h => by cases h)⟩
theorem Vr.tick {M : Mm} (h : Vr M) (c : Int) : Vr (M.tick c) := ⟨h.A, h.act, h.log⟩
theorem rtV_none : rtV v0.f v0.v := ⟨Nat.zero_le _, .inr rfl⟩
theorem at_rtV {A : List En} (h : ∀ e ∈ A, rtV e.x.f e.x.v) (k : ByteArray) (t : Int) : rtV ((atM (ch A k) t).getD v0).f ((atM (ch A k) t).getD v0).v := by
  unfold atM
  split
  · exact rtV_none
  · cases e : (ch A k)[cnt (ch A k) t - 1]? with
    | none => exact rtV_none
    | some v =>
      have hm := List.mem_of_getElem? e
      unfold ch at hm
      obtain ⟨x, hx, rfl⟩ := List.mem_map.1 hm
      exact h x (List.mem_filter.1 hx).1
theorem com_rtV {A : List En} (h : ∀ e ∈ A, rtV e.x.f e.x.v) (fl c : Int) (k : ByteArray) (t : Int) : rtV (comM fl c A k t).f (comM fl c A k t).v := by
  unfold comM
  have h1 := at_rtV h k (if fl = 2 then c else t)
  cases e : atM (ch A k) (if fl = 2 then c else t) with
  | none => exact rtV_none
  | some v =>
    rw [e] at h1
    simp only
    split
    · exact at_rtV h k _
    · exact h1
theorem getDz_mem {l : List OpM} {i : Nat} (h : i < l.length) : l.getD i z0 ∈ l := by
  rw [List.getD_eq_getElem?_getD, List.getElem?_eq_getElem h]
  exact List.getElem_mem h
theorem drt_rtV {S : List Sn} (h : ∀ j a, (S.getD j sn0).act = some a → ∀ o ∈ a.t.ops, rtO o) (k : ByteArray) (n : Nat) : rtV (drt S k n).1.found (drt S k n).1.value := by
  induction n with
  | zero => exact ⟨Nat.zero_le _, .inr rfl⟩
  | succ n ih =>
    unfold drt
    split
    · exact ih
    · rename_i a ha
      split
      · exact ih
      · rename_i i hi
        split
        · exact (h n a ha _ (getDz_mem (lastW_lt hi))).v
        · exact ih
theorem see_rtV {M : Mm} (h : Vr M) {t : TxM} (ht : ∀ o ∈ t.ops, rtO o) (k : ByteArray) : rtV (seeM M t k).1 (seeM M t k).2 := by
  unfold seeM
  split
  · rename_i i hi
    exact (ht _ (getDz_mem (lastW_lt hi))).v
  · split
    · exact drt_rtV h.act k _
    · exact com_rtV h.A _ _ _ _
theorem insts_rtV {l : List OpM} {A : List En} {c n : Int} (h : ∀ e ∈ A, rtV e.x.f e.x.v) (hl : ∀ o ∈ l, rtO o) : ∀ e ∈ insts A c n l, rtV e.x.f e.x.v := by
  induction l generalizing A with
  | nil => exact h
  | cons o r ih =>
    refine ih (A := inst A o.key ⟨c, n, o.found, o.value⟩) (fun e he => ?_) (fun o' ho' => hl o' (List.mem_cons_of_mem _ ho'))
    unfold inst at he
    split at he
    · rcases List.mem_append.1 he with he | he
      · exact h e he
      · obtain rfl := List.mem_singleton.1 he
        exact (hl o (List.mem_cons_self ..)).v
    · exact h e he
theorem at_put {M : Mm} {i : Nat} (hi : i < M.ses.length) (s : Sn) (j : Nat) : (M.ses.set i s).getD j sn0 = if i = j then s else M.at j := at_set hi s
theorem Vr.setA {M : Mm} (h : Vr M) {i : Nat} (hi : i < M.ses.length) {s : Sn} (hs : ∀ a, s.act = some a → ∀ o ∈ a.t.ops, rtO o) : ∀ j a, ((M.ses.set i s).getD j sn0).act = some a → ∀ o ∈ a.t.ops, rtO o := fun j a ha => by
  rw [at_put hi] at ha
  split at ha
  · exact hs a ha
  · exact h.act j a ha
theorem Vr.fin_ {M : Mm} (h : Vr M) {i : Nat} (hi : i < M.ses.length) {a : Ac} (ha : (M.at i).act = some a) (hn : a.t.ops.length ≤ 16) {st : Int} (hst : st = 0 ∨ st = 1) {A : List En} (hA : ∀ e ∈ A, rtV e.x.f e.x.v) : Vr (finM { M with A := A } i a st) :=
  ⟨hA, h.setA hi (fun a h => by cases h), fun t ht => by
    rcases List.mem_append.1 ht with ht | ht
    · exact h.log t ht
    · obtain rfl := List.mem_singleton.1 ht
      exact ⟨hst, hn, h.act i a ha⟩⟩
theorem Vr.oper {M : Mm} (h : Vr M) {i : Nat} (hi : i < M.ses.length) {a : Ac} (ha : (M.at i).act = some a) {o : OpM} (ho : rtO o) : Vr (operM M i a o) :=
  ⟨h.A, h.setA hi (fun b hb => by
    cases hb
    intro o' ho'
    rcases List.mem_append.1 ho' with ho' | ho'
    · exact h.act i a ha o' ho'
    · obtain rfl := List.mem_singleton.1 ho'
      exact ho), h.log⟩
theorem outc_in {l : List OpM} {o : OpM} (h : o ∈ outc l) : o ∈ l := by
  obtain ⟨i, h1, -, rfl⟩ := (oc_in l.length).1 h
  exact getDz_mem h1
theorem Vr.step {M : Mm} (h : Vr M) (hi : Inv M) (s : Stp) : Vr (doM M s).1 := by
  unfold doM
  split
  · rename_i h0
    obtain ⟨hB, hU⟩ := codeD_zero h0
    obtain ⟨⟨k1, k2⟩, ⟨b1, b2⟩, -, hk, hv⟩ := codeB_zero hB
    have ht := h.tick (M.clock + 1 + s.gap)
    have hl : s.ses.toNat < (M.tick (M.clock + 1 + s.gap)).ses.length := by show s.ses.toNat < M.ses.length; omega
    unfold goM
    split
    · exact ⟨h.A, ht.setA hl (fun b hb => by cases hb; intro o ho; cases ho), h.log⟩
    · rename_i a ha
      have hn : a.t.ops.length ≤ 16 := (hi.ac _ a ha).n
      split
      · rename_i e
        obtain ⟨q1, q2⟩ := hk (.inl e)
        obtain ⟨q3, q4⟩ := see_rtV ht (ht.act _ a ha) s.key
        exact ht.oper hl ha ⟨q1, q2, q3, .inl ⟨rfl, q4⟩⟩
      split
      · rename_i e
        obtain ⟨q1, q2⟩ := hk (.inr (.inl e))
        exact ht.oper hl ha ⟨q1, q2, hv e, .inr (.inl ⟨rfl, rfl⟩)⟩
      split
      · rename_i e
        obtain ⟨q1, q2⟩ := hk (.inr (.inr e))
        exact ht.oper hl ha ⟨q1, q2, Nat.zero_le _, .inr (.inr ⟨rfl, rfl, rfl⟩)⟩
      split
      · show Vr (comtM (M.tick (M.clock + 1 + s.gap)) s.ses.toNat a)
        unfold comtM
        split
        · exact ht.fin_ hl ha hn (.inl rfl) ht.A
        · exact ht.fin_ hl ha hn (.inr rfl) (insts_rtV ht.A fun o ho => ht.act _ a ha o (outc_in ho))
      · exact ht.fin_ hl ha hn (.inl rfl) ht.A
  · exact h
theorem Vr.em {N : Nat} (fl : Int) (l : List Stp) (h0 : 1 ≤ N) (h1 : N ≤ 64) : Vr (emM N fl l) := by
  have h5 : ∀ (l : List Stp) {M : Mm}, Inv M ∧ Vr M → Inv (plM M l) ∧ Vr (plM M l) := fun l => by
    induction l with
    | nil => exact fun h => h
    | cons s r ih => exact fun h => ih ⟨h.1.step s, h.2.step h.1 s⟩
  have h6 : ∀ q {M : Mm}, Inv M ∧ Vr M → Inv (abM M q) ∧ Vr (abM M q) := fun q => by
    induction q with
    | zero => exact fun h => h
    | succ q ih => exact fun h => ⟨(ih h).1.step _, (ih h).2.step (ih h).1 _⟩
  exact (h6 N (h5 l ⟨Inv.new h0 h1 fl, Vr.new N fl⟩)).2
/-- A transaction that is right. -/
structure RtT (t : TxM) : Prop where
  f0 : 0 ≤ t.f0 ∧ t.f0 ≤ 1048575
  f1 : 0 ≤ t.f1 ∧ t.f1 ≤ 1048575
  f2 : 0 ≤ t.f2 ∧ t.f2 ≤ 1099511627776
  f3 : 0 ≤ t.f3 ∧ t.f3 ≤ 1099511627776
  f4 : 0 ≤ t.f4 ∧ t.f4 ≤ 1099511627776
  f5 : 0 ≤ t.f5 ∧ t.f5 ≤ 1099511627776
  f6 : 0 ≤ t.f6 ∧ t.f6 ≤ 1
  n : t.ops.length ≤ 16
  o : ∀ o ∈ t.ops, rtO o
/-- All that is emitted. -/
theorem em_right {N : Nat} (fl : Int) (l : List Stp) (h0 : 1 ≤ N) (h1 : N ≤ 64) : ∀ t ∈ (emM N fl l).log, RtT t := fun t ht => by
  obtain ⟨a1, -, a3⟩ := em_log fl l h0 h1
  obtain ⟨b1, b2, b3, b4, b5, b6, b7⟩ := a1.one t ht
  obtain ⟨c1, c2, c3⟩ := (Vr.em fl l h0 h1).log t ht
  have hc := (em_inv fl l h0 h1).c1
  obtain ⟨i, hi⟩ := List.getElem?_of_mem ht
  have hs := a1.seq i t hi
  have hcn : nOf ((emM N fl l).log.take i) t.f0 ≤ 4096 := Nat.le_trans List.countP_le_length (Nat.le_trans (by rw [List.length_take]; exact Nat.min_le_right _ _) a3)
  exact ⟨by omega, by omega, by omega, by omega, by omega, by omega, by omega, c2, c3⟩
end Go.Proofs.Ytmghmacgljihcaa

namespace Go.Proofs.Ytmghmacgljihcaa
open Go.RowKit

set_option maxRecDepth 100000 in
theorem bad_no {n most : Int} (h0 : 0 ≤ n) (h1 : n ≤ most) (w : World) : Calls Try.prog 30 #[.int .i64 n, .int .i64 most] w fun e w' => e = .returned (.bool false) ∧ w' = w := by
  have a1 : ¬ n < 0 := by omega
  have a2 : ¬ most < n := by omega
  have b1 : decide (n < 0) = false := decide_eq_false a1
  have b2 : decide (most < n) = false := decide_eq_false a2
  clear h0 h1
  go_enter Try.func30, Try.ntmps30
  go_wp2_with fail
  go_ret
  exact ⟨rfl, rfl⟩
set_option maxRecDepth 100000 in
set_option maxHeartbeats 3200000 in
theorem rightOp_yes {o : OpM} (h : rtO o) (w : World) : Calls Try.prog 31 #[.agg #[.int .i64 o.kind, .string o.key, .bool o.found, .string o.value]] w fun e w' => e = .returned (.bool true) ∧ Kept w w' := by
  have hnot : ∀ (x : Bool) (w : World), (Op.unary .not (.bool x)).run Try.prog w = .ok (.bool (!x)) w := fun _ _ => rfl
  obtain ⟨kind, key, found, value⟩ := o
  obtain ⟨h1, h2, h3, h4⟩ := h
  simp only at h1 h2 h3 h4 ⊢
  have d1 : ((key.size : Int) == 0) = false := by rw [beq_eq_false_iff_ne]; omega
  have d1' : ¬ key.size = 0 := by omega
  have d1'' : ¬ key = ByteArray.empty := fun e => by subst e; exact absurd h1 (by decide)
  have d2 : decide ((8 : Int) < (key.size : Int)) = false := decide_eq_false (by omega)
  have d2' : ¬ (8 : Int) < (key.size : Int) := by omega
  have d3 : decide ((16 : Int) < (value.size : Int)) = false := decide_eq_false (by omega)
  have d3' : ¬ (16 : Int) < (value.size : Int) := by omega
  rcases h4 with ⟨rfl, h4⟩ | ⟨rfl, rfl⟩ | ⟨rfl, rfl, h5⟩
  · cases found with
    | true =>
      clear h1 h2 h3 h4
      go_enter Try.func31, Try.ntmps31
      go_wp2_with fail
      go_ret
      exact ⟨rfl, (Same.refl _ w).alloc _⟩
    | false =>
      have h5 : value.size = 0 := by rcases h4 with h | h; cases h; exact h
      have d4 : ((value.size : Int) == 0) = true := by rw [h5]; rfl
      clear h1 h2 h3 h4
      go_enter Try.func31, Try.ntmps31
      go_wp2_with fail
      go_ret
      exact ⟨rfl, (Same.refl _ w).alloc _⟩
  · clear h1 h2 h3
    go_enter Try.func31, Try.ntmps31
    go_wp2_with fail
    go_ret
    exact ⟨rfl, (Same.refl _ w).alloc _⟩
  · have d4 : ((value.size : Int) == 0) = true := by rw [h5]; rfl
    clear h1 h2 h3
    go_enter Try.func31, Try.ntmps31
    go_wp2_with fail
    go_ret
    exact ⟨rfl, (Same.refl _ w).alloc _⟩
set_option maxRecDepth 100000 in
set_option maxHeartbeats 3200000 in
theorem valid_yes (w : World) {t : TxM} (h : RtT t) {a : Option Addr} {c : Nat} (ho : OpsAt w a t.ops) : Calls Try.prog 19 #[.agg #[.int .i64 t.f0, .int .i64 t.f1, .int .i64 t.f2, .int .i64 t.f3, .int .i64 t.f4, .int .i64 t.f5, .int .i64 t.f6, .slice a t.ops.length c]] w fun e w' => e = .returned (.int .i64 0) ∧ Kept w w' := by
  have hnot : ∀ (x : Bool) (w : World), (Op.unary .not (.bool x)).run Try.prog w = .ok (.bool (!x)) w := fun _ _ => rfl
  have H0 : Hid (∀ W, _) := fun W => bad_no h.f0.1 h.f0.2 W
  have H1 : Hid (∀ W, _) := fun W => bad_no h.f1.1 h.f1.2 W
  have H2 : Hid (∀ W, _) := fun W => bad_no h.f2.1 h.f2.2 W
  have H3 : Hid (∀ W, _) := fun W => bad_no h.f3.1 h.f3.2 W
  have H4 : Hid (∀ W, _) := fun W => bad_no h.f4.1 h.f4.2 W
  have H5 : Hid (∀ W, _) := fun W => bad_no h.f5.1 h.f5.2 W
  have H6 : Hid (∀ W, _) := fun W => bad_no h.f6.1 h.f6.2 W
  have HRO : Hid (∀ o ∈ t.ops, ∀ W, _) := fun o ho' W => rightOp_yes (h.o o ho') W
  have hn := h.n
  obtain ⟨n, en⟩ : ∃ n, n = t.ops.length := ⟨_, rfl⟩
  have EN : Hid (n = t.ops.length) := en
  have HO : Hid (OpsAt w a t.ops) := ho
  rw [← en] at hn ⊢
  have d1 : ¬ (16 : Int) < (n : Int) := by omega
  have d2 : decide ((16 : Int) < (n : Int)) = false := decide_eq_false d1
  clear h en ho
  go_enter Try.func19, Try.ntmps19
  go_wp2_with fail
  refine Calls.mono (H0.out _) ?_
  rintro r w1 ⟨rfl, rfl⟩
  go_wp2_with fail
  refine Calls.mono (H1.out _) ?_
  rintro r w1 ⟨rfl, rfl⟩
  go_wp2_with fail
  refine Calls.mono (H2.out _) ?_
  rintro r w1 ⟨rfl, rfl⟩
  go_wp2_with fail
  refine Calls.mono (H3.out _) ?_
  rintro r w1 ⟨rfl, rfl⟩
  go_wp2_with fail
  refine Calls.mono (H4.out _) ?_
  rintro r w1 ⟨rfl, rfl⟩
  go_wp2_with fail
  refine Calls.mono (H5.out _) ?_
  rintro r w1 ⟨rfl, rfl⟩
  go_wp2_with fail
  refine Calls.mono (H6.out _) ?_
  rintro r w1 ⟨rfl, rfl⟩
  have K1 : Hid (Kept w (w.alloc (.cells #[.int .i64 t.f0, .int .i64 t.f1, .int .i64 t.f2, .int .i64 t.f3, .int .i64 t.f4, .int .i64 t.f5, .int .i64 t.f6, .slice a n c] 51 (0, 0)))) := (Same.refl _ w).alloc _
  have G1 : Hid _ := heap_new w (.cells #[.int .i64 t.f0, .int .i64 t.f1, .int .i64 t.f2, .int .i64 t.f3, .int .i64 t.f4, .int .i64 t.f5, .int .i64 t.f6, .slice a n c] 51 (0, 0))
  clear H0 H1 H2 H3 H4 H5 H6
  generalize w.alloc (.cells #[.int .i64 t.f0, .int .i64 t.f1, .int .i64 t.f2, .int .i64 t.f3, .int .i64 t.f4, .int .i64 t.f5, .int .i64 t.f6, .slice a n c] 51 (0, 0)) = W at *
  generalize w.heap.size = g at G1 ⊢
  have c7 : W.cell? ⟨g, 7, none⟩ = some (.slice a n c) := (cell_of G1.out 7).trans rfl
  have hg := lt_of_heap G1.out
  go_wp2_with fail
  go_loopw [3] (fun i wr => ∃ k : Nat, i = .int .i64 k ∧ k ≤ n ∧ Kept W wr) (fun i _ => n - (intOf i).toNat)
  case atStart => exact ⟨0, rfl, Nat.zero_le _, Same.refl _ _⟩
  case round =>
    obtain ⟨k, rfl, hk, kw⟩ := hrel
    rename World => WL
    have KW : Hid (Kept W WL) := kw
    have e7 : WL.cell? ⟨g, 7, none⟩ = some (.slice a n c) := (kw.cell (p := ⟨g, 7, none⟩) hg (fun e => e)).trans c7
    have hgl := Nat.lt_of_lt_of_le hg kw.size
    clear kw
    by_cases hkn : k < n
    · have d3 : decide ((k : Int) < (n : Int)) = true := decide_eq_true (by omega)
      have hkn2 : (k : Int) < (n : Int) := by omega
      obtain ⟨o, hok⟩ : ∃ o, t.ops[k]? = some o := ⟨_, List.getElem?_eq_getElem (by rw [← show n = _ from EN.out]; exact hkn)⟩
      obtain ⟨x, ox, rfl, hx, q0, q1, q2, q3⟩ := (OpsAt.on HO.out (Same.trans' K1.out KW.out)) k o hok
      have HR : Hid (∀ W, _) := HRO.out o (List.mem_of_getElem? hok)
      have hj1 : (k : Int) + 1 ≤ 9223372036854775807 := by omega
      clear hok
      go_wp2_with fail
      refine Calls.mono (HR.out _) ?_
      rintro r w5 ⟨rfl, k5⟩
      have K5 : Hid (Kept W w5) := Same.trans' (by (repeat (first | exact KW.out | apply Same.alloc | apply Same.drew | apply Same.drewN)); done) k5
      clear k5 HR
      go_wp2_with fail
      go_roundw
      case rel => exact ⟨k + 1, by simp, hkn, K5.out⟩
      case measure => simp only [intOf]; omega
    · obtain rfl : n = k := by omega
      have d3 : decide ((n : Int) < (n : Int)) = false := decide_eq_false (by omega)
      go_wp2_with fail
      go_ret
      exact ⟨rfl, Same.trans' K1.out KW.out⟩
end Go.Proofs.Ytmghmacgljihcaa

namespace Go.Proofs.Ytmghmacgljihcaa
open Go.RowKit

set_option maxRecDepth 100000 in
set_option maxHeartbeats 800000 in
theorem emitB (w : World) (n fl : Int) (h : (n < 1 ∨ 64 < n) ∨ (fl < 0 ∨ 4 < fl)) (a : Option Addr) (m c : Nat) : Calls Try.prog 17 #[.int .i64 n, .int .i64 fl, .slice a m c] w fun e w' => e = .returned (.tuple #[.slice none 0 0, .int .i64 (if n < 1 ∨ 64 < n then 150 else 158)]) ∧ w' = w := by
  have HN : Hid _ := newBad w n fl h
  obtain ⟨cd, ecd⟩ : ∃ cd : Int, cd = if n < 1 ∨ 64 < n then 150 else 158 := ⟨_, rfl⟩
  have hcd : cd = 150 ∨ cd = 158 := by rw [ecd]; split; exact .inl rfl; exact .inr rfl
  rw [← ecd] at HN ⊢
  clear h ecd
  rcases hcd with rfl | rfl
  all_goals
    go_enter Try.func17, Try.ntmps17
    go_wp2_with fail
    refine Calls.mono HN.out ?_
    rintro e w1 ⟨rfl, h1⟩
    subst w1
    go_wp2_with fail
    refine bodyPost_ret (results_tmp2 rfl _ _ _) rfl ?_
    exact ⟨rfl, rfl⟩
set_option maxRecDepth 100000 in
set_option maxHeartbeats 800000 in
theorem remitB (w : World) (n fl : Int) (h : (n < 1 ∨ 64 < n) ∨ (fl < 0 ∨ 4 < fl)) (a : Option Addr) (m c : Nat) : Calls Try.prog 18 #[.int .i64 n, .int .i64 fl, .slice a m c] w fun e w' => e = .returned (.tuple #[.slice none 0 0, .int .i64 (if n < 1 ∨ 64 < n then 150 else 158)]) ∧ w' = w := by
  have HN : Hid _ := rnewBad w n fl h
  obtain ⟨cd, ecd⟩ : ∃ cd : Int, cd = if n < 1 ∨ 64 < n then 150 else 158 := ⟨_, rfl⟩
  have hcd : cd = 150 ∨ cd = 158 := by rw [ecd]; split; exact .inl rfl; exact .inr rfl
  rw [← ecd] at HN ⊢
  clear h ecd
  rcases hcd with rfl | rfl
  all_goals
    go_enter Try.func18, Try.ntmps18
    go_wp2_with fail
    refine Calls.mono HN.out ?_
    rintro e w1 ⟨rfl, h1⟩
    subst w1
    go_wp2_with fail
    refine bodyPost_ret (results_tmp2 rfl _ _ _) rfl ?_
    exact ⟨rfl, rfl⟩
/-- The document's machine, made since w0. -/
def Rk (w0 w : World) (rb n : Nat) (fl : Int) (R : Rr) : Prop := ∃ tg av ev L, Rm tg w rb n fl R av ev L ∧ (∀ b, tg b ≠ .out → w0.heap.size ≤ b) ∧ Kept w0 w
theorem Rk.on {w0 w w' : World} {rb n : Nat} {fl : Int} {R : Rr} (h : Rk w0 w rb n fl R) (k : Kept w w') : Rk w0 w' rb n fl R := by
  obtain ⟨tg, av, ev, L, h1, h2, h3⟩ := h
  exact ⟨tg, av, ev, L, h1.on k, h2, Same.trans' h3 k⟩
theorem Rk.kept {w0 w : World} {rb n : Nat} {fl : Int} {R : Rr} (h : Rk w0 w rb n fl R) : Kept w0 w := by
  obtain ⟨tg, av, ev, L, h1, h2, h3⟩ := h
  exact h3
theorem Rk.doc {w0 w : World} {rb n : Nat} {fl : Int} {M : Mm} {R : Rr} (h : Rk w0 w rb n fl R) (p : Rp n fl M R) (s : Stp) (hk : s.key.size ≤ maxLen) (hv : s.value.size ≤ maxLen) :
    Calls Try.prog 23 #[.pointer (some ⟨rb, 0, none⟩), stA s] w fun e w' => (∃ b v s c, e = .returned (.tuple #[.bool b, .string v, .int .i64 s, .int .i64 c])) ∧ ∃ R', Rk w0 w' rb n fl R' ∧ Rp n fl (doM M s).1 R' := by
  obtain ⟨tg, av, ev, L, h2, h5, h6⟩ := h
  refine Calls.mono (rdo_any h2 p.sml p.b p.clock s hk hv) fun r w' hr => ?_
  obtain ⟨hr1, av', ev', L', ⟨tg', g1, g2⟩, g3⟩ := hr
  refine ⟨⟨_, _, _, _, hr1⟩, _, ⟨tg', av', ev', L', g1, fun b hb => ?_, h6.trans g3 fun b hb e => ?_⟩, (p.step s).1⟩
  · rcases g2.2 b hb with h | h
    · exact h5 b h
    · exact Nat.le_trans h6.size h
  · have := h5 b e; omega
theorem Rk.log {w0 w : World} {rb n : Nat} {fl : Int} {M : Mm} {R : Rr} (h : Rk w0 w rb n fl R) (p : Rp n fl M R) : Calls Try.prog 15 #[.pointer (some ⟨rb, 0, none⟩)] w (RlP w M.log) := by
  obtain ⟨tg, av, ev, L, h2, h5, h6⟩ := h
  have h9 := rlog15 h2 p.sml (fun i hi => ((p.l.fin i).1 hi).1)
  rw [← p.l.log] at h9
  exact h9
set_option maxRecDepth 100000 in
set_option maxHeartbeats 1600000 in
theorem remit15 {w : World} {a : Option Addr} {l : List Stp} {cap : Nat} (hl : StepsAt w a l) (hs : SmallS l) (hn : l.length ≤ 9223372036854775806) (N : Nat) (fl : Int) (h0 : 1 ≤ N) (h1 : N ≤ 64) (f0 : 0 ≤ fl) (f1 : fl ≤ 4) :
    Calls Try.prog 18 #[.int .i64 (N : Int), .int .i64 fl, .slice a l.length cap] w fun e w' => ∃ a' c', e = .returned (.tuple #[.slice a' (emM N fl l).log.length c', .int .i64 0]) ∧ TxnsAt w' a' (emM N fl l).log ∧ Kept w w' := by
  have HN : Hid _ := rnew15 w N fl h0 h1 f0 f1
  have HL : Hid (StepsAt w a l) := hl
  have HS : Hid (SmallS l) := hs
  obtain ⟨n, en⟩ : ∃ n, n = l.length := ⟨_, rfl⟩
  rw [← en] at hn ⊢
  have EN : Hid (n = l.length) := en
  have HNI : Hid (Inv (newM N fl)) := Inv.new h0 h1 fl
  obtain ⟨ln, eln⟩ : ∃ ln, ln = (emM N fl l).log.length := ⟨_, rfl⟩
  rw [← eln]
  have ELN : Hid (ln = (emM N fl l).log.length) := eln
  clear hl hs en h0 f0 f1 eln
  go_enter Try.func18, Try.ntmps18
  go_wp2_with fail
  refine Calls.mono HN.out ?_
  rintro e w1 ⟨rb, rfl, tg, m1, m2, m3⟩
  have R1 : Hid (Rk w w1 rb N fl ⟨0, [], []⟩) := ⟨tg, _, _, _, m1, m2, m3⟩
  have P1 : Hid (Rp N fl (newM N fl) ⟨0, [], []⟩) := ⟨Rl.new N fl, ⟨(fun _ h => by cases h), (fun _ h => by cases h)⟩, (by simp [newM]), rfl, HNI.out⟩
  clear m1 m2 m3 HN HNI
  go_wp2_with fail
  go_loopw [10] (fun i wr => ∃ (j : Nat) (R : Rr), j ≤ n ∧ i = .int .i64 (j : Int) ∧ Rk w wr rb N fl R ∧ Rp N fl (plM (newM N fl) (l.take j)) R) (fun i _ => n - (intOf i).toNat)
  case atStart => exact ⟨0, _, Nat.zero_le _, rfl, R1.out, P1.out⟩
  case round =>
    obtain ⟨j, R, hj, rfl, hR, hP⟩ := hrel
    rename World => WL
    have HR : Hid (Rk w WL rb N fl R) := hR
    have HP : Hid (Rp N fl (plM (newM N fl) (l.take j)) R) := hP
    clear hR hP R1 P1
    by_cases hlt : j < n
    · have c1 : decide ((j : Int) < (n : Int)) = true := decide_eq_true (by omega)
      have hlt2 : (j : Int) < (n : Int) := by omega
      obtain ⟨s, hsj⟩ : ∃ s, l[j]? = some s := ⟨_, List.getElem?_eq_getElem (by rw [← show n = _ from EN.out]; exact hlt)⟩
      obtain ⟨b, off, rfl, hb, q0, q1, q2, q3, q4⟩ := (StepsAt.on HL.out (Rk.kept HR.out)) j s hsj
      obtain ⟨hk, hv⟩ := HS.out s (List.mem_of_getElem? hsj)
      have HDO : Hid (∀ W, Kept WL W → _) := fun W (k : Kept WL W) => Rk.doc (Rk.on HR.out k) HP.out s hk hv
      rw [← plM_take hsj] at HDO
      have hj1 : (j : Int) + 1 ≤ 9223372036854775807 := by omega
      clear hsj hk hv
      obtain ⟨kd, se, gp, k, v⟩ := s
      try simp only at q0 q1 q2 q3 q4 HDO
      go_wp2_with fail
      refine Calls.mono (HDO.out _ (by (repeat (first | exact Same.refl _ _ | apply Same.alloc | apply Same.drew | apply Same.drewN)); done)) ?_
      rintro r w5 ⟨⟨x1, x2, x3, x4, rfl⟩, R5, r5, p5⟩
      have R5' : Hid _ := r5
      have P5 : Hid _ := p5
      clear r5 p5 HDO
      go_wp2_with fail
      go_roundw
      case rel => exact ⟨j + 1, R5, by omega, by first | rfl | simp, R5'.out, P5.out⟩
      case measure => simp only [intOf]; omega
    · have c1 : decide ((j : Int) < (n : Int)) = false := decide_eq_false (by omega)
      obtain rfl : n = j := by omega
      rw [show l.take n = l by rw [show n = l.length from EN.out]; exact List.take_length] at HP
      have HPZ : Hid (Rp N fl (abM (plM (newM N fl) l) 0) R) := HP.out
      have hN : (N : Int) ≤ 64 := by omega
      clear hlt HP
      go_wp2_with fail
      go_loopw [11] (fun i wz => ∃ (q : Nat) (R : Rr), q ≤ N ∧ i = .int .i64 (q : Int) ∧ Rk w wz rb N fl R ∧ Rp N fl (abM (plM (newM N fl) l) q) R) (fun i _ => N - (intOf i).toNat)
      case atStart => exact ⟨0, _, Nat.zero_le _, rfl, HR.out, HPZ.out⟩
      case round =>
        rename World => wz
        obtain ⟨q, R', hq, rfl, hR', hP'⟩ := hrel
        have HRQ : Hid (Rk w wz rb N fl R') := hR'
        have HPQ : Hid (Rp N fl (abM (plM (newM N fl) l) q) R') := hP'
        clear hR' hP' HR HPZ
        by_cases hlq : q < N
        · have c2 : decide ((q : Int) < (N : Int)) = true := decide_eq_true (by omega)
          have hlt2 : (q : Int) < (N : Int) := by omega
          have HDO : Hid (∀ W, Kept wz W → _) := fun W (k : Kept wz W) => Rk.doc (Rk.on HRQ.out k) HPQ.out ⟨6, (q : Int), 0, e0, e0⟩ (show e0.size ≤ maxLen by decide) (show e0.size ≤ maxLen by decide)
          have hq1 : (q : Int) + 1 ≤ 9223372036854775807 := by omega
          go_wp2_with fail
          refine Calls.mono (HDO.out _ (by (repeat (first | exact Same.refl _ _ | apply Same.alloc | apply Same.drew | apply Same.drewN)); done)) ?_
          rintro r w5 ⟨⟨x1, x2, x3, x4, rfl⟩, R5, r5, p5⟩
          have R5' : Hid _ := r5
          have P5 : Hid (Rp N fl (abM (plM (newM N fl) l) (q + 1)) R5) := p5
          clear r5 p5 HDO
          go_wp2_with fail
          go_roundw
          case rel => exact ⟨q + 1, R5, by omega, by first | rfl | simp, R5'.out, P5.out⟩
          case measure => simp only [intOf]; omega
        · have c2 : decide ((q : Int) < (N : Int)) = false := decide_eq_false (by omega)
          obtain rfl : N = q := by omega
          have HLG : Hid _ := Rk.log HRQ.out HPQ.out
          have KW : Hid (Kept w wz) := Rk.kept HRQ.out
          go_wp2_with fail
          refine Calls.mono HLG.out ?_
          rintro r w6 ⟨vv, LL, rfl, o6, l6, p6, k6⟩
          obtain ⟨va, vc, rfl, -⟩ := row_shape o6
          have T6 : Hid (TxnsAt w6 va (emM N fl l).log) := by
            have h9 := OwnT.txns o6 p6
            rw [l6] at h9
            exact h9
          have e6 : LL.length = (emM N fl l).log.length := by
            have h9 := congrArg List.length l6
            rw [List.length_map] at h9
            exact h9
          rw [e6, ← show ln = _ from ELN.out]
          have K6 : Hid (Kept w w6) := Same.trans' KW.out k6
          clear o6 l6 p6 k6 e6 HLG
          go_wp2_with fail
          refine bodyPost_ret (results_tmp2 rfl _ _ _) rfl ?_
          exact ⟨va, vc, rfl, T6.out, K6.out⟩
end Go.Proofs.Ytmghmacgljihcaa

namespace Go.Proofs.Ytmghmacgljihcaa
open Go.RowKit

set_option maxRecDepth 100000 in
set_option maxHeartbeats 6400000 in
theorem emits_go {w : World} {a : Option Addr} {l : List Stp} {cap : Nat} (hl : StepsAt w a l) (hn : l.length ≤ 2513169434918) (hcap : a = none → cap = 0) (n0 fl cd : Int) (LG : List TxM)
    (he : ∀ W a' c', StepsAt W a' l → Calls Try.prog 17 #[.int .i64 n0, .int .i64 fl, .slice a' l.length c'] W fun e w' => ∃ va vc, e = .returned (.tuple #[.slice va LG.length vc, .int .i64 cd]) ∧ TxnsAt w' va LG ∧ Kept W w')
    (hr : ∀ W a' c', StepsAt W a' l → Calls Try.prog 18 #[.int .i64 n0, .int .i64 fl, .slice a' l.length c'] W fun e w' => ∃ va vc, e = .returned (.tuple #[.slice va LG.length vc, .int .i64 cd]) ∧ TxnsAt w' va LG ∧ Kept W w')
    (hrt : ∀ t ∈ LG, RtT t) (hlg : LG.length ≤ 4096) :
    Calls Try.prog 4 #[.int .i64 n0, .int .i64 fl, .slice a l.length cap] w fun e w' => e = .returned (.bool true) ∧ Kept w w' := by
  have HAN : Hid _ := anchor15 w
  have HL : Hid (StepsAt w a l) := hl
  have HE : Hid _ := he
  have HR : Hid _ := hr
  have HRT : Hid (∀ t ∈ LG, RtT t) := hrt
  have HCP : Hid (∀ W, Kept w W → ∀ ty, ∃ v' w', (Builtin.append_ #[22, 22] ty #[.slice (some ⟨W.heap.size, 0, none⟩) 0 0, .slice a l.length cap]).run Try.prog (W.alloc (.cells #[] 32)) = .ok v' w' ∧ ((∃ a' c', v' = .slice a' l.length c' ∧ StepsAt w' a' l) ∧ Kept W w')) := fun W k ty => by
    obtain ⟨v', w', h1, h2, h3⟩ := copy_steps (StepsAt.on hl k) hcap hn ty
    exact ⟨v', w', h1, h2, h3⟩
  have HPL : Hid (∀ W (s : Stp), _) := fun W s => plain15 W s
  obtain ⟨n, en⟩ : ∃ n, n = l.length := ⟨_, rfl⟩
  obtain ⟨m, em⟩ : ∃ m, m = LG.length := ⟨_, rfl⟩
  rw [← en] at hn HE HR HCP ⊢
  rw [← em] at hlg HE HR
  have ENL : Hid (n = l.length) := en
  have EML : Hid (m = LG.length) := em
  clear hl he hr hrt en em hcap
  go_enter Try.func4, Try.ntmps4
  go_wp2_with fail
  refine Calls.mono HAN.out ?_
  rintro e w0 ⟨rfl, k0⟩
  have K0 : Hid (Kept w w0) := k0
  clear k0 HAN
  go_wp2_with fail
  go_loopw [7, 20] (fun s t wr => ∃ j : Nat, t = .int .i64 j ∧ j ≤ n ∧ OwnP w.heap.size wr s (l.take j) ∧ Kept w wr) (fun _ t _ => n - (intOf t).toNat)
  case atStart => exact ⟨0, rfl, Nat.zero_le _, ⟨rfl, .inl ⟨rfl, rfl⟩⟩, K0.out⟩
  case round =>
    obtain ⟨j, rfl, hj, hO, kj⟩ := hrel
    rename World => WL
    obtain ⟨pa, pc, rfl, -⟩ := row_shape hO
    have hlj : (l.take j).length = j := by rw [List.length_take, ← show n = _ from ENL.out]; omega
    rw [hlj]
    have HO : Hid (OwnP w.heap.size WL (.slice pa j pc) (l.take j)) := by rw [hlj] at hO; exact hO
    have KJ : Hid (Kept w WL) := kj
    have HLJ : Hid ((l.take j).length = j) := hlj
    clear hO kj hlj
    by_cases hlt : j < n
    · have d1 : decide ((j : Int) < (n : Int)) = true := decide_eq_true (by omega)
      have hlt2 : (j : Int) < (n : Int) := by omega
      obtain ⟨s, hsj⟩ : ∃ s, l[j]? = some s := ⟨_, List.getElem?_eq_getElem (by rw [← show n = _ from ENL.out]; exact hlt)⟩
      obtain ⟨b, off, rfl, hb, c0, c1, c2, c3, c4⟩ := (StepsAt.on HL.out KJ.out) j s hsj
      have HTK : Hid (l.take (j + 1) = l.take j ++ [s]) := (by rw [List.take_add_one, hsj]; rfl : l.take (j + 1) = l.take j ++ [s])
      have HAP : Hid (∀ W : World, Kept WL W → ∀ ty, ∃ v' w', (Builtin.append_ #[42, 42] ty #[.slice pa j pc, .slice (some ⟨W.heap.size, 0, none⟩) 1 1]).run Try.prog (W.alloc (.cells #[.int .i64 s.kind, .int .i64 s.ses, .int .i64 s.gap, .string s.key, .string s.value] 43 (0, 0))) = .ok v' w' ∧ (OwnP w.heap.size w' v' (l.take (j + 1)) ∧ Kept w w' ∧ ∃ a n c, v' = .slice a n c)) := fun W k ty => by
        have k1 : Kept WL (W.alloc (.cells #[.int .i64 s.kind, .int .i64 s.ses, .int .i64 s.gap, .string s.key, .string s.value] 43 (0, 0))) := k.alloc _
        have hT' := row_kept HO.out k1 (fun _ _ e => e)
        obtain ⟨v', w', h1, h2, h3⟩ := app_pl s hT' (heap_new W _) (by have := HLJ.out; omega) (Nat.le_trans KJ.out.size k1.size) ty
        rw [← show l.take (j + 1) = _ from HTK.out] at h2
        refine ⟨v', w', h1, h2, Same.trans (Same.trans' KJ.out k1) h3 (fun b hb e => ?_), by obtain ⟨a9, c9, e9, -⟩ := row_shape h2; exact ⟨a9, _, c9, e9⟩⟩
        obtain ⟨h9, -⟩ := row_block hT' e
        omega
      have hj1 : (j : Int) + 1 ≤ 9223372036854775807 := by omega
      have HP1 : Hid (∀ W, Calls Try.prog 16 #[.agg #[.int .i64 s.kind, .int .i64 s.ses, .int .i64 s.gap, .string s.key, .string s.value]] W fun e w' => e = .returned (stA s) ∧ Kept W w') := fun W => HPL.out W s
      clear hsj HTK
      obtain ⟨kd, se, gp, k, v⟩ := s
      try simp only at c0 c1 c2 c3 c4 HAP HP1
      go_wp2_with fail
      refine Calls.mono (HP1.out _) ?_
      rintro e w5 ⟨rfl, k5⟩
      have HA5 : Hid _ := HAP.out w5 (Same.trans' (by (repeat (first | exact Same.refl _ _ | apply Same.alloc | apply Same.drew | apply Same.drewN)); done) k5)
      clear k5 HP1 HAP
      unfold stA
      simp only
      go_wp2_with (at_builtin; apply Hid.out)
      refine wpList_app rfl (.tmp 24) (.tmp 27) 42 rfl _ _ rfl rfl _ HA5.out ?_
      rintro v6 w6 ⟨o6, k6, a6, n6, c6, rfl⟩
      have O6 : Hid _ := o6
      have K6 : Hid _ := k6
      clear o6 k6 HA5
      go_wp2_with fail
      go_roundw
      case rel => exact ⟨j + 1, by simp, hlt, O6.out, K6.out⟩
      case measure => simp only [intOf]; omega
    · obtain rfl : n = j := by omega
      have d1 : decide ((n : Int) < (n : Int)) = false := decide_eq_false (by omega)
      have HS1 : Hid (StepsAt WL pa l) := by
        have h9 := OwnP.steps HO.out
        rw [show l.take n = l by rw [show n = l.length from ENL.out]; exact List.take_length] at h9
        exact h9
      have HA2 : Hid _ := HCP.out WL KJ.out
      clear HCP HO HLJ hlt HPL
      go_wp2_with (at_builtin; apply Hid.out)
      refine wpList_app rfl (.tmp 33) (.tmp 34) 22 rfl _ _ rfl rfl _ HA2.out ?_
      rintro v' w1 ⟨⟨a', c', rfl, s1⟩, k1⟩
      have S1 : Hid (StepsAt w1 a' l) := s1
      have K1 : Hid (Kept WL w1) := k1
      clear s1 k1 HA2
      go_wp2_with fail
      refine Calls.mono (HE.out _ _ _ S1.out) ?_
      rintro e w2 ⟨va, vc, rfl, t2, k2⟩
      have T2 : Hid (TxnsAt w2 va LG) := t2
      have K2 : Hid (Kept w1 w2) := k2
      have S2 : Hid (StepsAt w2 pa l) := StepsAt.on HS1.out (Same.trans' K1.out k2)
      clear t2 k2 HE
      go_wp2_with fail
      refine Calls.mono (HR.out _ _ _ S2.out) ?_
      rintro e w3 ⟨vb, vd, rfl, t3, k3⟩
      have T3 : Hid (TxnsAt w3 vb LG) := t3
      have T2' : Hid (TxnsAt w3 va LG) := TxnsAt.on T2.out k3
      have K3 : Hid (Kept w w3) := Same.trans' (Same.trans' (Same.trans' KJ.out K1.out) K2.out) k3
      have HSM : Hid _ := sameL15 w3 va vb vc vd m LG T2'.out t3 EML.out (by omega) (fun t ht => by have := (HRT.out t ht).n; omega)
      clear t3 k3 HR
      go_wp2_with fail
      refine Calls.mono HSM.out ?_
      rintro e w4 ⟨rfl, k4⟩
      have T4 : Hid (TxnsAt w4 va LG) := TxnsAt.on T2'.out k4
      have K4 : Hid (Kept w w4) := Same.trans' K3.out k4
      clear k4 HSM
      go_wp2_with fail
      go_loopw [57] (fun t wr => ∃ k : Nat, t = .int .i64 k ∧ k ≤ m ∧ Kept w4 wr) (fun t _ => m - (intOf t).toNat)
      case atStart => exact ⟨0, rfl, Nat.zero_le _, Same.refl _ _⟩
      case round =>
        obtain ⟨k, rfl, hk, kk⟩ := hrel
        rename World => WN
        have KK : Hid (Kept w4 WN) := kk
        clear kk
        by_cases hkm : k < m
        · have d2 : decide ((k : Int) < (m : Int)) = true := decide_eq_true (by omega)
          have hkm2 : (k : Int) < (m : Int) := by omega
          obtain ⟨t, ht⟩ : ∃ t, LG[k]? = some t := ⟨_, List.getElem?_eq_getElem (by rw [← show m = _ from EML.out]; exact hkm)⟩
          obtain ⟨b1, off1, ua, uc, rfl, hb1, x0, x1, x2, x3, x4, x5, x6, x7, xo⟩ := (TxnsAt.on T4.out KK.out) k t ht
          have hk1 : (k : Int) + 1 ≤ 9223372036854775807 := by omega
          have HV : Hid (∀ W, Kept WN W → _) := fun W (kk : Kept WN W) => valid_yes W (HRT.out t (List.mem_of_getElem? ht)) (c := uc) (OpsAt.on xo kk)
          clear ht xo
          generalize t.ops.length = ol at *
          go_wp2_with fail
          refine Calls.mono (HV.out _ (by (repeat (first | exact Same.refl _ _ | apply Same.alloc | apply Same.drew | apply Same.drewN)); done)) ?_
          rintro e w5 ⟨rfl, k5⟩
          have K5 : Hid (Kept w4 w5) := Same.trans' (by (repeat (first | exact KK.out | apply Same.alloc | apply Same.drew | apply Same.drewN)); done) k5
          clear k5 HV
          go_wp2_with fail
          go_roundw
          case rel => exact ⟨k + 1, by simp, hkm, K5.out⟩
          case measure => simp only [intOf]; omega
        · obtain rfl : m = k := by omega
          have d2 : decide ((m : Int) < (m : Int)) = false := decide_eq_false (by omega)
          go_wp2_with fail
          go_ret
          exact ⟨rfl, Same.trans' K4.out KK.out⟩
theorem emits_law {w : World} {a : Option Addr} {l : List Stp} {cap : Nat} (hl : StepsAt w a l) (hs : SmallS l) (hn : l.length ≤ 2513169434918) (hcap : a = none → cap = 0) (n0 fl : Int) :
    Calls Try.prog 4 #[.int .i64 n0, .int .i64 fl, .slice a l.length cap] w fun e w' => e = .returned (.bool true) ∧ Kept w w' := by
  by_cases hbad : (n0 < 1 ∨ 64 < n0) ∨ (fl < 0 ∨ 4 < fl)
  · refine emits_go hl hn hcap n0 fl (if n0 < 1 ∨ 64 < n0 then 150 else 158) [] (fun W a' c' _ => Calls.mono (emitB W n0 fl hbad a' l.length c') fun e w' he => ?_) (fun W a' c' _ => Calls.mono (remitB W n0 fl hbad a' l.length c') fun e w' he => ?_) (fun t ht => by cases ht) (Nat.zero_le _)
    · obtain ⟨rfl, rfl⟩ := he
      exact ⟨none, 0, rfl, (fun i t h => by cases h), Same.refl _ _⟩
    · obtain ⟨rfl, rfl⟩ := he
      exact ⟨none, 0, rfl, (fun i t h => by cases h), Same.refl _ _⟩
  · obtain ⟨N, rfl⟩ : ∃ N : Nat, n0 = (N : Int) := ⟨n0.toNat, by omega⟩
    have h0 : 1 ≤ N := by omega
    have h1 : N ≤ 64 := by omega
    refine emits_go hl hn hcap _ fl 0 (emM N fl l).log (fun W a' c' h => Calls.mono (emit15 h hs (by omega) N fl h0 h1 (by omega) (by omega)) fun e w' he => ?_) (fun W a' c' h => Calls.mono (remit15 h hs (by omega) N fl h0 h1 (by omega) (by omega)) fun e w' he => ?_) (em_right fl l h0 h1) (em_log fl l h0 h1).2.2
    · obtain ⟨v, L, rfl, o1, m1, p1, k1⟩ := he
      obtain ⟨va, vc, rfl, -⟩ := row_shape o1
      have h9 := OwnT.txns o1 p1
      rw [m1] at h9
      have h8 := congrArg List.length m1
      rw [List.length_map] at h8
      exact ⟨va, vc, by rw [h8], h9, k1⟩
    · obtain ⟨va, vc, rfl, h2, h3⟩ := he
      exact ⟨va, vc, rfl, h2, h3⟩
end Go.Proofs.Ytmghmacgljihcaa
