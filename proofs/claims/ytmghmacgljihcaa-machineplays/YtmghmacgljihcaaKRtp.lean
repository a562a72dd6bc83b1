/- What is proved: the document's machine beside the program's: any step answers alike; the law MachinePlays answers true; the script lies in memory. -/
import Derived.Test.YtmghmacgljihcaaKRza
import Derived.Test.YtmghmacgljihcaaKRzb
import Derived.Test.YtmghmacgljihcaaKRzc
import Derived.Test.YtmghmacgljihcaaKRzd
import Derived.Test.YtmghmacgljihcaaKSam
import Derived.Test.YtmghmacgljihcaaKEmt
import Derived.Test.YtmghmacgljihcaaKAnch
namespace Go.Proofs.Ytmghmacgljihcaa
open Go.RowKit

/-- Bounds that every step keeps. -/
structure Rb (R : Rr) : Prop where
  o : ∀ r ∈ R.all, r.t.ops.length ≤ 16 ∧ r.ts.length = r.t.ops.length
  f : ∀ r ∈ R.all, -1099511627776 ≤ r.t.f3 ∧ r.t.f3 ≤ 1099511627776
theorem rCode_zero {n : Nat} {R : Rr} {s : Stp} (h : rCode n R s = 0) : codeB n s = 0 ∧ (s.kind = 1 → rAct R.all s.ses = none ∧ R.all.length < 4096) ∧ (s.kind ≠ 1 → ∃ i, rAct R.all s.ses = some i) ∧ (isO s → opsR R s.ses < 16) ∧ R.clock ≤ 1099511627775 - s.gap := by
  unfold rCode at h
  split at h
  · rename_i h1; exact absurd h h1
  rename_i h1
  have h1' : codeB n s = 0 := by simpa using h1
  split at h
  · cases h
  rename_i h2
  split at h
  · cases h
  rename_i h3
  split at h
  · cases h
  rename_i h4
  split at h
  · cases h
  rename_i h5
  split at h
  · cases h
  rename_i h6
  refine ⟨h1', fun e => ⟨?_, ?_⟩, fun e => ?_, fun e => ?_, by omega⟩
  · cases ha : rAct R.all s.ses with
    | none => rfl
    | some i => exact absurd ⟨e, by rw [ha]; rfl⟩ h2
  · exact Nat.lt_of_not_le fun h9 => h4 ⟨e, h9⟩
  · cases ha : rAct R.all s.ses with
    | none => exact absurd ⟨e, by rw [ha]; rfl⟩ h3
    | some i => exact ⟨i, rfl⟩
  · exact Nat.lt_of_not_le fun h9 => h5 ⟨e, h9⟩
theorem Rb.set {R : Rr} (h : Rb R) {i : Nat} {r : Rn} {c : Int} {e : List Nat} (ho : r.t.ops.length ≤ 16 ∧ r.ts.length = r.t.ops.length) (hf : -1099511627776 ≤ r.t.f3 ∧ r.t.f3 ≤ 1099511627776) : Rb ⟨c, R.all.set i r, e⟩ :=
  ⟨fun q hq => (List.mem_or_eq_of_mem_set hq).elim (h.o q) (fun e => by subst e; exact ho), fun q hq => (List.mem_or_eq_of_mem_set hq).elim (h.f q) (fun e => by subst e; exact hf)⟩
theorem Rb.step {n : Nat} {fl : Int} {R : Rr} (h : Rb R) (hc : 0 ≤ R.clock) (s : Stp) : Rb (rDo n fl R s).1 := by
  unfold rDo
  by_cases h0 : rCode n R s = 0
  · rw [if_pos h0]
    obtain ⟨hB, h1, h2, h3, h4⟩ := rCode_zero h0
    obtain ⟨⟨b1, b2⟩, -, ⟨b3, b4⟩, -, -⟩ := codeB_zero hB
    unfold rGo
    cases ha : rAct R.all s.ses with
    | none =>
      rw [show rAct (rTick R (R.clock + 1 + s.gap)).all s.ses = none from ha]
      refine ⟨fun r hr => ?_, fun r hr => ?_⟩ <;> rcases List.mem_append.1 hr with hr | hr
      · exact h.o r hr
      · obtain rfl := List.mem_singleton.1 hr
        exact ⟨by simp, rfl⟩
      · exact h.f r hr
      · obtain rfl := List.mem_singleton.1 hr
        exact ⟨show (-1099511627776 : Int) ≤ 0 by decide, show (0 : Int) ≤ 1099511627776 by decide⟩
    | some i =>
      rw [show rAct (rTick R (R.clock + 1 + s.gap)).all s.ses = some i from ha]
      obtain ⟨r, hr, -⟩ := rAct_in ha
      have hm := List.mem_of_getElem? hr
      have hg : gR R.all i = r := gR_of hr
      have ho := h.o r hm
      have hf := h.f r hm
      have hop : isO s → ∀ o : OpM, Rb (rOp (rTick R (R.clock + 1 + s.gap)) i o) := fun hi o => by
        have h9 := h3 hi
        unfold opsR at h9
        rw [ha] at h9
        simp only [hg] at h9
        unfold rOp addR
        rw [show gR (rTick R (R.clock + 1 + s.gap)).all i = r from hg]
        refine h.set ⟨?_, ?_⟩ hf
        · simp only [List.length_append, List.length_cons, List.length_nil]; omega
        · simp only [List.length_append, List.length_cons, List.length_nil]; omega
      have hen : ∀ st, Rb (rEnd (rTick R (R.clock + 1 + s.gap)) i st) := fun st => by
        unfold rEnd endR endT
        rw [show gR (rTick R (R.clock + 1 + s.gap)).all i = r from hg]
        refine h.set ho ?_
        show -1099511627776 ≤ R.clock + 1 + s.gap ∧ R.clock + 1 + s.gap ≤ 1099511627776
        omega
      simp only
      split
      · rename_i e; exact hop (.inl e) _
      split
      · rename_i e; exact hop (.inr (.inl e)) _
      split
      · rename_i e; exact hop (.inr (.inr e)) _
      split
      · exact hen _
      · exact hen _
  · rw [if_neg h0]
    exact h
/-- Any step. -/
theorem rdo_any {tg : Nat → Ug} {w : World} {rb n : Nat} {fl : Int} {R : Rr} {av ev : Value} {L : List Rt} (h : Rm tg w rb n fl R av ev L) (hs : Sml R) (hf : Rb R) (hc : 0 ≤ R.clock ∧ R.clock ≤ 1099511627776) (s : Stp) (hk : s.key.size ≤ maxLen) (hv : s.value.size ≤ maxLen) : RoP tg w rb n fl s (rDo n fl R s).1 (rDo n fl R s).2 (rCode n R s) := by
  unfold rDo
  by_cases h0 : rCode n R s = 0
  · rw [if_pos h0, h0]
    obtain ⟨hB, h1, h2, h3, h4⟩ := rCode_zero h0
    obtain ⟨⟨b1, b2⟩, -, hgp, -, -⟩ := codeB_zero hB
    obtain ⟨kd, se, gp, k, v⟩ := s
    simp only at hk hv h1 h2 h4 b1 b2 hgp ⊢
    unfold rGo
    by_cases e1 : kd = 1
    · subst e1
      obtain ⟨ha, hl⟩ := h1 rfl
      rw [show rAct (rTick R (R.clock + 1 + gp)).all se = none from ha]
      exact rdo_1 h hs hc se gp k v hk hv h0 hgp ha hl
    · obtain ⟨i, ha⟩ := h2 e1
      rw [show rAct (rTick R (R.clock + 1 + gp)).all se = some i from ha]
      have hop : isO ⟨kd, se, gp, k, v⟩ → (gR R.all i).t.ops.length < 16 := fun hi => by
        have h9 := h3 hi
        unfold opsR at h9
        rw [show rAct R.all _ = some i from ha] at h9
        exact h9
      simp only
      by_cases e2 : kd = 2
      · subst e2
        rw [if_pos rfl]
        exact rdo_2 h hs hc hf.f se gp k v hk hv h0 hgp ha (hop (.inl rfl))
      rw [if_neg e2]
      by_cases e3 : kd = 3
      · subst e3
        rw [if_pos rfl]
        exact rdo_3 h hs hc se gp k v hk hv h0 hgp ha (hop (.inr (.inl rfl)))
      rw [if_neg e3]
      by_cases e4 : kd = 4
      · subst e4
        rw [if_pos rfl]
        exact rdo_4 h hs hc se gp k v hk hv h0 hgp ha (hop (.inr (.inr rfl)))
      rw [if_neg e4]
      by_cases e5 : kd = 5
      · subst e5
        rw [if_pos rfl]
        exact rdo_5 h hs hc se gp k v hk hv h0 hgp ha
      rw [if_neg e5]
      obtain rfl : kd = 6 := by omega
      exact rdo_6 h hs hc se gp k v hk hv h0 hgp ha
  · rw [if_neg h0]
    exact rdo_no h hs s hk hv h0
end Go.Proofs.Ytmghmacgljihcaa

namespace Go.Proofs.Ytmghmacgljihcaa
open Go.RowKit

/-- What the document's Log gives. -/
def RlP (w : World) (log : List TxM) (e : Ending) (w' : World) : Prop := ∃ v L, e = .returned v ∧ OwnT w.heap.size w' v L ∧ L.map (·.1) = log ∧ (∀ x ∈ L, OwnO 0 w' x.2 x.1.ops) ∧ Kept w w'
set_option maxRecDepth 100000 in
set_option maxHeartbeats 3200000 in
theorem rlog15 {tg : Nat → Ug} {w : World} {rb n : Nat} {fl : Int} {R : Rr} {av ev : Value} {L : List Rt} (h : Rm tg w rb n fl R av ev L) (hs : Sml R) (hin : ∀ i ∈ R.ends, i < R.all.length) : Calls Try.prog 15 #[.pointer (some ⟨rb, 0, none⟩)] w (RlP w (R.ends.map fun i => (gR R.all i).t)) := by
  have HM : Hid _ := h
  have HIN : Hid _ := hin
  have hne := hs.e
  have hnl := hs.n
  obtain ⟨ne, ene⟩ : ∃ ne, ne = R.ends.length := ⟨_, rfl⟩
  rw [← ene] at hne
  have ENE : Hid (ne = R.ends.length) := ene
  have ho := h.obj
  have hrl := lt_of_heap ho
  obtain ⟨ea, ecp, eev, -⟩ := row_shape h.ends
  rw [List.length_map, ← ene] at eev
  have y4 : w.cell? ⟨rb, 4, none⟩ = some (.slice ea ne ecp) := (cell_of ho 4).trans (by rw [eev]; rfl)
  have y3 : w.cell? ⟨rb, 3, none⟩ = some av := (cell_of ho 3).trans rfl
  have EEV : Hid (ev = .slice ea ne ecp) := eev
  clear h hs hin ene eev ho
  unfold RlP
  go_enter Try.func15, Try.ntmps15
  go_wp2_with fail
  go_loopw [3, 4] (fun s t wr => ∃ (j : Nat) (L' : List (TxM × Value)), t = .int .i64 j ∧ j ≤ ne ∧ OwnT w.heap.size wr s L' ∧ L'.map (·.1) = (R.ends.take j).map (fun i => (gR R.all i).t) ∧ (∀ x ∈ L', OwnO 0 w x.2 x.1.ops) ∧ Kept w wr) (fun _ t _ => ne - (intOf t).toNat)
  case atStart => exact ⟨0, [], rfl, Nat.zero_le _, ⟨rfl, .inl ⟨rfl, rfl⟩⟩, rfl, (fun x hx => by cases hx), Same.refl _ _⟩
  case round =>
    obtain ⟨j, L', rfl, hj, hT, hmap, hops, kj⟩ := hrel
    rename World => WL
    obtain ⟨va, vc, rfl, -⟩ := row_shape hT
    have HT : Hid (OwnT w.heap.size WL (.slice va L'.length vc) L') := hT
    have HMP : Hid _ := hmap
    have HOPS : Hid (∀ x ∈ L', OwnO 0 w x.2 x.1.ops) := hops
    have KJ : Hid (Kept w WL) := kj
    have n4 : WL.cell? ⟨rb, 4, none⟩ = some (.slice ea ne ecp) := (kj.cell (p := ⟨rb, 4, none⟩) hrl (fun e => e)).trans y4
    have hrj := Nat.lt_of_lt_of_le hrl kj.size
    have hLj : L'.length = j := by
      have := congrArg List.length hmap
      rw [List.length_map, List.length_map, List.length_take, ← show ne = _ from ENE.out] at this
      omega
    have HLJ : Hid (L'.length = j) := hLj
    clear hT hmap hops kj hLj
    by_cases hlt : j < ne
    · have d1 : decide ((j : Int) < (ne : Int)) = true := decide_eq_true (by omega)
      have hlt2 : (j : Int) < (ne : Int) := by omega
      obtain ⟨q, hq⟩ : ∃ q, R.ends[j]? = some q := ⟨_, List.getElem?_eq_getElem (by rw [← show ne = _ from ENE.out]; exact hlt)⟩
      have hqi := HIN.out q (List.mem_of_getElem? hq)
      obtain ⟨x, hx, ex⟩ : ∃ x, L[q]? = some x ∧ x.1 = gR R.all q := by
        have hm := HM.out.map
        have hl : q < L.length := by rw [← hm, List.length_map] at hqi; exact hqi
        exact ⟨L[q], List.getElem?_eq_getElem hl, by rw [← hm]; exact (gR_of (by rw [List.getElem?_map, List.getElem?_eq_getElem hl]; rfl)).symm⟩
      have HTK : Hid (R.ends.take (j + 1) = R.ends.take j ++ [q]) := (by rw [List.take_add_one, hq]; rfl : R.ends.take (j + 1) = R.ends.take j ++ [q])
      obtain ⟨b, cap, ea3⟩ := Rq.place (Rq.start HM.out) hx
      obtain ⟨hbl, hcl, -⟩ := Rq.runs (Rq.start HM.out) ea3 hx
      obtain ⟨oa, oc, eo, -⟩ := OwnO.ops (HM.out.row q x hx).1
      have hxo := (HM.out.row q x hx).1
      have HXO : Hid (OwnO 0 w x.2.1 x.1.t.ops) := hxo
      have EO : Hid (x.2.1 = .slice oa x.1.t.ops.length oc) := eo
      have EX : Hid (x.1 = gR R.all q) := ex
      have hen := HM.out.ends
      rw [show ev = _ from EEV.out] at hen
      obtain ⟨eb, rfl, -, heb, ce⟩ := row_cell hen (j := j) (u := .int .i64 (q : Int)) (by rw [List.getElem?_map, List.getElem?_map, hq]; rfl)
      obtain ⟨on, eon⟩ : ∃ on, on = x.1.t.ops.length := ⟨_, rfl⟩
      rw [← eon] at EO
      obtain ⟨ll, ell⟩ : ∃ ll, ll = L.length := ⟨_, rfl⟩
      have hql : q < ll := by rw [ell]; exact (List.getElem?_eq_some_iff.1 hx).1
      have hqll : (q : Int) < (ll : Int) := by omega
      have hll : ll ≤ 4096 := by have h9 := congrArg List.length HM.out.map; rw [List.length_map] at h9; omega
      have y3' : w.cell? ⟨rb, 3, none⟩ = some (.slice (some ⟨b, 0, none⟩) ll cap) := by rw [y3, ea3, ell]
      have hc7 := hcl 7 _ (by decide) rfl
      rw [show x.2.1 = _ from EO.out] at hc7
      have HBK : Hid (∀ W' : World, Kept w W' → (W'.cell? ⟨rb, 3, none⟩ = some (.slice (some ⟨b, 0, none⟩) ll cap) ∧ rb < W'.heap.size ∧ W'.cell? ⟨rb, 4, none⟩ = some (.slice (some ⟨eb, 0, none⟩) ne ecp)) ∧ W'.cell? ⟨eb, j, none⟩ = some (.int .i64 (q : Int)) ∧ W'.cell? ⟨b, q * 10, none⟩ = some (.int .i64 x.1.t.f0) ∧ W'.cell? ⟨b, q * 10 + 1, none⟩ = some (.int .i64 x.1.t.f1) ∧ W'.cell? ⟨b, q * 10 + 2, none⟩ = some (.int .i64 x.1.t.f2) ∧ W'.cell? ⟨b, q * 10 + 3, none⟩ = some (.int .i64 x.1.t.f3) ∧ W'.cell? ⟨b, q * 10 + 4, none⟩ = some (.int .i64 x.1.t.f4) ∧ W'.cell? ⟨b, q * 10 + 5, none⟩ = some (.int .i64 x.1.t.f5) ∧ W'.cell? ⟨b, q * 10 + 6, none⟩ = some (.int .i64 x.1.t.f6) ∧ W'.cell? ⟨b, q * 10 + 7, none⟩ = some (.slice oa on oc)) := fun W' k' => by
        have t : ∀ o, W'.cell? ⟨b, o, none⟩ = w.cell? ⟨b, o, none⟩ := fun o => k'.cell (p := ⟨b, o, none⟩) hbl (fun e => e)
        exact ⟨⟨(k'.cell (p := ⟨rb, 3, none⟩) hrl (fun e => e)).trans y3', Nat.lt_of_lt_of_le hrl k'.size, (k'.cell (p := ⟨rb, 4, none⟩) hrl (fun e => e)).trans y4⟩, (k'.cell (p := ⟨eb, j, none⟩) heb (fun e => e)).trans ce, (t _).trans (hcl 0 _ (by decide) rfl), (t _).trans (hcl 1 _ (by decide) rfl), (t _).trans (hcl 2 _ (by decide) rfl), (t _).trans (hcl 3 _ (by decide) rfl), (t _).trans (hcl 4 _ (by decide) rfl), (t _).trans (hcl 5 _ (by decide) rfl), (t _).trans (hcl 6 _ (by decide) rfl), (t _).trans hc7⟩
      have HAP : Hid (∀ W' : World, Kept WL W' → ∀ g', W'.heap[g']? = some (txO x.1.t (.slice oa on oc)) → ∀ ty, ∃ v' w', (Builtin.append_ #[39, 39] ty #[.slice va L'.length vc, .slice (some ⟨g', 0, none⟩) 1 1]).run Try.prog W' = .ok v' w' ∧ (OwnT w.heap.size w' v' (L' ++ [(x.1.t, .slice oa on oc)]) ∧ Kept w w' ∧ ∃ a n c, v' = .slice a n c)) := fun W' k' g' hg' ty => by
        have hT' := row_kept HT.out k' (fun _ _ e => e)
        obtain ⟨v', w', h1, h2, h3, -⟩ := app_txn (x.1.t, .slice oa on oc) hT' rfl hg' (by have := HLJ.out; omega) (Nat.le_trans KJ.out.size k'.size) ty
        refine ⟨v', w', h1, h2, Same.trans (Same.trans' KJ.out k') h3 (fun b hb e => ?_), by obtain ⟨a9, c9, e9, -⟩ := row_shape h2; exact ⟨a9, _, c9, e9⟩⟩
        obtain ⟨h9, -⟩ := row_block hT' e
        omega
      have hj1 : (j : Int) + 1 ≤ 9223372036854775807 := by omega
      have HNX : Hid (∀ w' v', OwnT w.heap.size w' v' (L' ++ [(x.1.t, .slice oa on oc)]) → Kept w w' → ∃ (j' : Nat) (L'' : List (TxM × Value)), Value.int .i64 ((j : Int) + 1) = .int .i64 j' ∧ j' ≤ ne ∧ OwnT w.heap.size w' v' L'' ∧ L''.map (·.1) = (R.ends.take j').map (fun i => (gR R.all i).t) ∧ (∀ x ∈ L'', OwnO 0 w x.2 x.1.ops) ∧ Kept w w') := fun w' v' h1 h2 => by
        refine ⟨j + 1, _, by simp, hlt, h1, ?_, fun y hy => ?_, h2⟩
        · rw [List.map_append, show L'.map (·.1) = _ from HMP.out, HTK.out, List.map_append]
          simp only [List.map_cons, List.map_nil]
          rw [show x.1 = _ from EX.out]
        · rcases List.mem_append.1 hy with hy | hy
          · exact HOPS.out y hy
          · obtain rfl := List.mem_singleton.1 hy
            have := HXO.out
            rw [show x.2.1 = _ from EO.out] at this
            exact this
      clear hq hqi hx ex ea3 hcl eo hxo hen eon ell hc7 y3' ce
      go_upto_region 5 with fail
      generalize L'.length = ln at *
      refine wp_region_held_drew (S := fun W' => (W'.cell? ⟨rb, 3, none⟩ = some (.slice (some ⟨b, 0, none⟩) ll cap) ∧ rb < W'.heap.size ∧ W'.cell? ⟨rb, 4, none⟩ = some (.slice (some ⟨eb, 0, none⟩) ne ecp)) ∧ W'.cell? ⟨eb, j, none⟩ = some (.int .i64 (q : Int)) ∧ W'.cell? ⟨b, q * 10, none⟩ = some (.int .i64 x.1.t.f0) ∧ W'.cell? ⟨b, q * 10 + 1, none⟩ = some (.int .i64 x.1.t.f1) ∧ W'.cell? ⟨b, q * 10 + 2, none⟩ = some (.int .i64 x.1.t.f2) ∧ W'.cell? ⟨b, q * 10 + 3, none⟩ = some (.int .i64 x.1.t.f3) ∧ W'.cell? ⟨b, q * 10 + 4, none⟩ = some (.int .i64 x.1.t.f4) ∧ W'.cell? ⟨b, q * 10 + 5, none⟩ = some (.int .i64 x.1.t.f5) ∧ W'.cell? ⟨b, q * 10 + 6, none⟩ = some (.int .i64 x.1.t.f6) ∧ W'.cell? ⟨b, q * 10 + 7, none⟩ = some (.slice oa on oc)) (by kernel_rfl) (HBK.out _ (by (repeat (first | exact KJ.out | apply Same.alloc | apply Same.drew | apply Same.drewN)); done)) (fun hHeld => ?_)
      (try simp only [Act.put, List.getElem_toArray, List.getElem_cons_succ, List.getElem_cons_zero, List.setIfInBounds_toArray, List.set_cons_zero, List.set_cons_succ])
      refine wpAnyH_take (i := 0) (v := (.slice va ln vc)) rfl (by kernel_rfl) (by kernel_rfl) (by kernel_rfl) (fun _ _ _ h => h) (Or.inl ⟨by rfl, fun w hSw => by (dsimp only at hSw; go_simp)⟩) (by assumption) ?_
      (try simp only [Act.put, List.getElem_toArray, List.getElem_cons_zero, List.setIfInBounds_toArray, List.set_cons_zero, List.set_cons_succ])
      refine wpAnyH_take (i := 1) (v := (.pointer (some ⟨rb, 0, none⟩))) rfl (by kernel_rfl) (by kernel_rfl) (by kernel_rfl) (fun _ _ _ h => h) (Or.inl ⟨by rfl, fun w hSw => by (dsimp only at hSw; go_simp)⟩) (by assumption) ?_
      (try simp only [Act.put, List.getElem_toArray, List.getElem_cons_succ, List.getElem_cons_zero, List.setIfInBounds_toArray, List.set_cons_zero, List.set_cons_succ])
      refine wpAnyH_take (i := 2) (v := (.pointer (some ⟨rb, 0, none⟩))) rfl (by kernel_rfl) (by kernel_rfl) (by kernel_rfl) (fun _ _ _ h => h) (Or.inl ⟨by rfl, fun w hSw => by (dsimp only at hSw; go_simp)⟩) (by assumption) ?_
      (try simp only [Act.put, List.getElem_toArray, List.getElem_cons_succ, List.getElem_cons_zero, List.setIfInBounds_toArray, List.set_cons_zero, List.set_cons_succ])
      refine wpAnyH_take (i := 3) (v := (.pointer (some ⟨rb, 3, none⟩))) rfl (by kernel_rfl) (by kernel_rfl) (by kernel_rfl) (fun _ _ _ h => h) (Or.inl ⟨by rfl, fun w hSw => by (dsimp only at hSw; go_simp)⟩) (by assumption) ?_
      (try simp only [Act.put, List.getElem_toArray, List.getElem_cons_succ, List.getElem_cons_zero, List.setIfInBounds_toArray, List.set_cons_zero, List.set_cons_succ])
      refine wpAnyH_take (i := 4) (v := (.slice (some ⟨b, 0, none⟩) ll cap)) rfl (by kernel_rfl) (by kernel_rfl) (by kernel_rfl) (fun _ _ _ h => h) (Or.inl ⟨by rfl, fun w hSw => by (dsimp only at hSw; go_simp)⟩) (by assumption) ?_
      (try simp only [Act.put, List.getElem_toArray, List.getElem_cons_succ, List.getElem_cons_zero, List.setIfInBounds_toArray, List.set_cons_zero, List.set_cons_succ])
      refine wpAnyH_take (i := 5) (v := (.pointer (some ⟨rb, 0, none⟩))) rfl (by kernel_rfl) (by kernel_rfl) (by kernel_rfl) (fun _ _ _ h => h) (Or.inl ⟨by rfl, fun w hSw => by (dsimp only at hSw; go_simp)⟩) (by assumption) ?_
      (try simp only [Act.put, List.getElem_toArray, List.getElem_cons_succ, List.getElem_cons_zero, List.setIfInBounds_toArray, List.set_cons_zero, List.set_cons_succ])
      refine wpAnyH_take (i := 6) (v := (.pointer (some ⟨rb, 0, none⟩))) rfl (by kernel_rfl) (by kernel_rfl) (by kernel_rfl) (fun _ _ _ h => h) (Or.inl ⟨by rfl, fun w hSw => by (dsimp only at hSw; go_simp)⟩) (by assumption) ?_
      (try simp only [Act.put, List.getElem_toArray, List.getElem_cons_succ, List.getElem_cons_zero, List.setIfInBounds_toArray, List.set_cons_zero, List.set_cons_succ])
      refine wpAnyH_take (i := 7) (v := (.pointer (some ⟨rb, 4, none⟩))) rfl (by kernel_rfl) (by kernel_rfl) (by kernel_rfl) (fun _ _ _ h => h) (Or.inl ⟨by rfl, fun w hSw => by (dsimp only at hSw; go_simp)⟩) (by assumption) ?_
      (try simp only [Act.put, List.getElem_toArray, List.getElem_cons_succ, List.getElem_cons_zero, List.setIfInBounds_toArray, List.set_cons_zero, List.set_cons_succ])
      refine wpAnyH_take (i := 8) (v := (.slice (some ⟨eb, 0, none⟩) ne ecp)) rfl (by kernel_rfl) (by kernel_rfl) (by kernel_rfl) (fun _ _ _ h => h) (Or.inl ⟨by rfl, fun w hSw => by (dsimp only at hSw; go_simp)⟩) (by assumption) ?_
      (try simp only [Act.put, List.getElem_toArray, List.getElem_cons_succ, List.getElem_cons_zero, List.setIfInBounds_toArray, List.set_cons_zero, List.set_cons_succ])
      refine wpAnyH_take (i := 9) (v := (.int .i64 (j : Int))) rfl (by kernel_rfl) (by kernel_rfl) (by kernel_rfl) (fun _ _ _ h => h) (Or.inl ⟨by rfl, fun w hSw => by (dsimp only at hSw; go_simp)⟩) (by assumption) ?_
      (try simp only [Act.put, List.getElem_toArray, List.getElem_cons_succ, List.getElem_cons_zero, List.setIfInBounds_toArray, List.set_cons_zero, List.set_cons_succ])
      refine wpAnyH_take (i := 10) (v := (.pointer (some ⟨eb, j, none⟩))) rfl (by kernel_rfl) (by kernel_rfl) (by kernel_rfl) (fun _ _ _ h => h) (Or.inl ⟨by rfl, fun w hSw => by (dsimp only at hSw; go_simp)⟩) (by assumption) ?_
      (try simp only [Act.put, List.getElem_toArray, List.getElem_cons_succ, List.getElem_cons_zero, List.setIfInBounds_toArray, List.set_cons_zero, List.set_cons_succ])
      refine wpAnyH_take (i := 11) (v := (.int .i64 (q : Int))) rfl (by kernel_rfl) (by kernel_rfl) (by kernel_rfl) (fun _ _ _ h => h) (Or.inl ⟨by rfl, fun w hSw => by (dsimp only at hSw; go_simp)⟩) (by assumption) ?_
      (try simp only [Act.put, List.getElem_toArray, List.getElem_cons_succ, List.getElem_cons_zero, List.setIfInBounds_toArray, List.set_cons_zero, List.set_cons_succ])
      refine wpAnyH_take (i := 12) (v := (.pointer (some ⟨b, q * 10, none⟩))) rfl (by kernel_rfl) (by kernel_rfl) (by kernel_rfl) (fun _ _ _ h => h) (Or.inl ⟨by rfl, fun w hSw => by (dsimp only at hSw; go_simp)⟩) (by assumption) ?_
      (try simp only [Act.put, List.getElem_toArray, List.getElem_cons_succ, List.getElem_cons_zero, List.setIfInBounds_toArray, List.set_cons_zero, List.set_cons_succ])
      refine wpAnyH_take (i := 13) (v := (.pointer (some ⟨b, q * 10, none⟩))) rfl (by kernel_rfl) (by kernel_rfl) (by kernel_rfl) (fun _ _ _ h => h) (Or.inl ⟨by rfl, fun w hSw => by (dsimp only at hSw; go_simp)⟩) (by assumption) ?_
      (try simp only [Act.put, List.getElem_toArray, List.getElem_cons_succ, List.getElem_cons_zero, List.setIfInBounds_toArray, List.set_cons_zero, List.set_cons_succ])
      refine wpAnyH_take (i := 14) (v := (txA x.1.t (.slice oa on oc))) rfl (by kernel_rfl) (by kernel_rfl) (by kernel_rfl) (fun _ _ _ h => h) (Or.inl ⟨by rfl, fun w hSw => by (dsimp only at hSw; go_simp)⟩) (by assumption) ?_
      (try simp only [Act.put, List.getElem_toArray, List.getElem_cons_succ, List.getElem_cons_zero, List.setIfInBounds_toArray, List.set_cons_zero, List.set_cons_succ])
      refine wpAnyH_ready (rs := [15]) (by kernel_rfl) (by simp) (AllReadyH.cons rfl (fun K hK => ?_) AllReadyH.nil)
      go_simp
      refine hK.out _ _ (HBK.out _ (by (repeat (first | exact KJ.out | apply Same.alloc | apply Same.drew | apply Same.drewN)); done)) (fun hHeld1 => ?_)
      clear hK K hHeld
      (try simp only [Act.put, List.getElem_toArray, List.getElem_cons_succ, List.getElem_cons_zero, List.setIfInBounds_toArray, List.set_cons_zero, List.set_cons_succ])
      refine wpAnyH_ready (rs := [16]) (by kernel_rfl) (by simp) (AllReadyH.cons rfl (fun K hK => ?_) AllReadyH.nil)
      refine step_app rfl (.tmp 14) (.tmp 29) 39 rfl _ _ rfl rfl _ (HAP.out _ (by (repeat (first | exact Same.refl _ _ | apply Same.alloc | apply Same.drew | apply Same.drewN)); done) _ (by exact heap_new _ _)) ?_
      rintro v8 w8 ⟨o8, k8, a8, n8, c8, rfl⟩
      refine hK.out _ _ (HBK.out _ k8) (fun hHeld2 => ?_)
      clear hK K hHeld1 HAP HBK
      (try simp only [Act.put, List.getElem_toArray, List.getElem_cons_succ, List.getElem_cons_zero, List.setIfInBounds_toArray, List.set_cons_zero, List.set_cons_succ])
      refine wpAnyH_take (i := 17) (v := (.slice a8 n8 c8)) rfl (by kernel_rfl) (by kernel_rfl) (by kernel_rfl) (fun _ _ _ h => h) (Or.inl ⟨by rfl, fun w hSw => by (dsimp only at hSw; go_simp)⟩) (by assumption) ?_
      (try simp only [Act.put, List.getElem_toArray, List.getElem_cons_succ, List.getElem_cons_zero, List.setIfInBounds_toArray, List.set_cons_zero, List.set_cons_succ])
      refine wpAnyH_done (by kernel_rfl) ?_ _
      go_wp2_with fail
      have O8 : Hid _ := HNX.out _ _ o8 k8
      go_roundw
      case rel => exact O8.out
      case measure => simp only [intOf]; omega
    · obtain rfl : ne = j := by omega
      have d1 : decide ((ne : Int) < (ne : Int)) = false := decide_eq_false (by omega)
      have HF : Hid (L'.map (·.1) = R.ends.map fun i => (gR R.all i).t) := (by rw [show L'.map (·.1) = _ from HMP.out, show ne = _ from ENE.out, List.take_length] : L'.map (·.1) = R.ends.map fun i => (gR R.all i).t)
      generalize L'.length = ln at *
      go_wp2_with fail
      go_ret
      exact ⟨_, L', rfl, HT.out, HF.out, fun x hx => row_kept (HOPS.out x hx) KJ.out (fun _ _ e => e), KJ.out⟩
end Go.Proofs.Ytmghmacgljihcaa

namespace Go.Proofs.Ytmghmacgljihcaa
open Go.RowKit

/-- Both machines, made since w0; the blocks of G are neither's. -/
def Bm (w0 w : World) (mb rb n : Nat) (fl : Int) (M : Mm) (R : Rr) (G : Nat → Prop) : Prop := ∃ F tg av ev L, Mk F w mb M ∧ Rm tg w rb n fl R av ev L ∧ (∀ b, F b → tg b = .out) ∧ (∀ b, F b → w0.heap.size ≤ b) ∧ (∀ b, tg b ≠ .out → w0.heap.size ≤ b) ∧ Kept w0 w ∧ ∀ b, G b → ¬ F b ∧ tg b = .out ∧ b < w.heap.size
theorem Bm.on {w0 w w' : World} {mb rb n : Nat} {fl : Int} {M : Mm} {R : Rr} {G : Nat → Prop} (h : Bm w0 w mb rb n fl M R G) (k : Kept w w') : Bm w0 w' mb rb n fl M R G := by
  obtain ⟨F, tg, av, ev, L, h1, h2, h3, h4, h5, h6, h7⟩ := h
  exact ⟨F, tg, av, ev, L, h1.on k, h2.on k, h3, h4, h5, Same.trans' h6 k, fun b hb => ⟨(h7 b hb).1, (h7 b hb).2.1, Nat.lt_of_lt_of_le (h7 b hb).2.2 k.size⟩⟩
theorem Bm.kept {w0 w : World} {mb rb n : Nat} {fl : Int} {M : Mm} {R : Rr} {G : Nat → Prop} (h : Bm w0 w mb rb n fl M R G) : Kept w0 w := by
  obtain ⟨F, tg, av, ev, L, h1, h2, h3, h4, h5, h6, h7⟩ := h
  exact h6
theorem Bm.weak {w0 w : World} {mb rb n : Nat} {fl : Int} {M : Mm} {R : Rr} {G G' : Nat → Prop} (h : Bm w0 w mb rb n fl M R G) (hg : ∀ b, G' b → G b) : Bm w0 w mb rb n fl M R G' := by
  obtain ⟨F, tg, av, ev, L, h1, h2, h3, h4, h5, h6, h7⟩ := h
  exact ⟨F, tg, av, ev, L, h1, h2, h3, h4, h5, h6, fun b hb => h7 b (hg b hb)⟩
theorem Bm.add {w0 w : World} {mb rb n : Nat} {fl : Int} {M : Mm} {R : Rr} {G : Nat → Prop} (h : Bm w0 w mb rb n fl M R G) (o : Obj) : Bm w0 (w.alloc o) mb rb n fl M R (fun b => b = w.heap.size ∨ G b) := by
  obtain ⟨F, tg, av, ev, L, h1, h2, h3, h4, h5, h6, h7⟩ := h
  have k : Kept w (w.alloc o) := (Same.refl _ _).alloc _
  refine ⟨F, tg, av, ev, L, h1.on k, h2.on k, h3, h4, h5, Same.trans' h6 k, fun b hb => ?_⟩
  rw [World.size_alloc]
  rcases hb with rfl | hb
  · refine ⟨fun e => by have := h1.lt _ e; omega, ?_, by omega⟩
    by_cases h9 : tg w.heap.size = .out
    · exact h9
    · have := h2.lt _ h9; omega
  · exact ⟨(h7 b hb).1, (h7 b hb).2.1, by have := (h7 b hb).2.2; omega⟩
/-- The program's step. -/
theorem Bm.code {w0 w : World} {mb rb n : Nat} {fl : Int} {M : Mm} {R : Rr} {G : Nat → Prop} (h : Bm w0 w mb rb n fl M R G) (s : Stp) (hk : s.key.size ≤ maxLen) (hv : s.value.size ≤ maxLen) :
    Calls Try.prog 20 #[.pointer (some ⟨mb, 0, none⟩), .agg #[.int .i64 s.kind, .int .i64 s.ses, .int .i64 s.gap, .string s.key, .string s.value]] w fun e w' => e = .returned (.tuple #[.agg #[.bool (doM M s).2.found, .string (doM M s).2.value, .int .i64 (doM M s).2.status], .int .i64 (codeD M s)]) ∧ Bm w0 w' mb rb n fl (doM M s).1 R G ∧ ∀ b, G b → w'.heap[b]? = w.heap[b]? := by
  obtain ⟨F, tg, av, ev, L, h1, h2, h3, h4, h5, h6, h7⟩ := h
  refine Calls.mono (do15 h1 s hk hv) fun r w' hr => ?_
  obtain ⟨hr1, F', g1, g2, g3⟩ := hr
  refine ⟨hr1, ⟨F', tg, av, ev, L, g1, h2.off g3 h3, fun b hb => ?_, fun b hb => ?_, h5, h6.trans g3 fun b hb hF => ?_, fun b hb => ⟨fun hF => ?_, (h7 b hb).2.1, Nat.lt_of_lt_of_le (h7 b hb).2.2 g3.size⟩⟩, fun b hb => g3.block b (h7 b hb).2.2 (h7 b hb).1⟩
  · rcases g2 b hb with h | h
    · exact h3 b h
    · by_cases h9 : tg b = .out
      · exact h9
      · have := h2.lt _ h9; omega
  · rcases g2 b hb with h | h
    · exact h4 b h
    · exact Nat.le_trans h6.size h
  · have := h4 b hF; omega
  · rcases g2 b hF with h | h
    · exact (h7 b hb).1 h
    · have := (h7 b hb).2.2; omega
/-- The document's step. -/
theorem Bm.doc {w0 w : World} {mb rb n : Nat} {fl : Int} {M : Mm} {R : Rr} {G : Nat → Prop} (h : Bm w0 w mb rb n fl M R G) (hs : Sml R) (hf : Rb R) (hc : 0 ≤ R.clock ∧ R.clock ≤ 1099511627776) (s : Stp) (hk : s.key.size ≤ maxLen) (hv : s.value.size ≤ maxLen) :
    Calls Try.prog 23 #[.pointer (some ⟨rb, 0, none⟩), stA s] w fun e w' => e = .returned (.tuple #[.bool (rDo n fl R s).2.found, .string (rDo n fl R s).2.value, .int .i64 (rDo n fl R s).2.status, .int .i64 (rCode n R s)]) ∧ Bm w0 w' mb rb n fl M (rDo n fl R s).1 G ∧ ∀ b, G b → w'.heap[b]? = w.heap[b]? := by
  obtain ⟨F, tg, av, ev, L, h1, h2, h3, h4, h5, h6, h7⟩ := h
  refine Calls.mono (rdo_any h2 hs hf hc s hk hv) fun r w' hr => ?_
  obtain ⟨hr1, av', ev', L', ⟨tg', g1, g2⟩, g3⟩ := hr
  have hin : ∀ b, b < w.heap.size → tg b = .out → tg' b = .out := fun b hb e => by
    by_cases h9 : tg' b = .out
    · exact h9
    · rcases g2.2 b h9 with h | h
      · exact absurd e h
      · omega
  refine ⟨hr1, ⟨F, tg', av', ev', L', h1.off g3 (fun b hb e => e (h3 b hb)), g1, fun b hb => hin b (h1.lt b hb) (h3 b hb), h4, fun b hb => ?_, h6.trans g3 fun b hb e => ?_, fun b hb => ⟨(h7 b hb).1, hin b (h7 b hb).2.2 (h7 b hb).2.1, Nat.lt_of_lt_of_le (h7 b hb).2.2 g3.size⟩⟩, fun b hb => g3.block b (h7 b hb).2.2 (fun e => e (h7 b hb).2.1)⟩
  · rcases g2.2 b hb with h | h
    · exact h5 b h
    · exact Nat.le_trans h6.size h
  · have := h5 b e; omega
/-- Both tell the same. -/
structure Rp (n : Nat) (fl : Int) (M : Mm) (R : Rr) : Prop where
  l : Rl M R
  b : Rb R
  n : M.ses.length = n
  f : M.flaw = fl
  i : Inv M
theorem Rp.sml {n : Nat} {fl : Int} {M : Mm} {R : Rr} (h : Rp n fl M R) : Sml R := by
  have h1 := h.l.beg
  have h2 := h.i.b1
  have h3 := h.i.cnt
  have h4 := congrArg List.length h.l.log
  rw [List.length_map] at h4
  have h5 : (0 : Int) ≤ acts M.ses := by unfold acts; omega
  exact ⟨by omega, by omega, h.b.o⟩
theorem Rp.clock {n : Nat} {fl : Int} {M : Mm} {R : Rr} (h : Rp n fl M R) : 0 ≤ R.clock ∧ R.clock ≤ 1099511627776 := by rw [h.l.clk]; exact ⟨h.i.c0, h.i.c1⟩
theorem Rp.step {n : Nat} {fl : Int} {M : Mm} {R : Rr} (h : Rp n fl M R) (s : Stp) : Rp n fl (doM M s).1 (rDo n fl R s).1 ∧ (rDo n fl R s).2 = (doM M s).2 ∧ rCode n R s = codeD M s := by
  obtain ⟨hl, hb, rfl, rfl, hi⟩ := h
  obtain ⟨h1, h2⟩ := hl.step hi s
  refine ⟨⟨h2, hb.step (by rw [hl.clk]; exact hi.c0) s, ?_, ?_, hi.step s⟩, h1, hl.code hi s⟩
  · rcases do_rel M s with e | e
    · rw [e]
    · obtain ⟨sn, h9⟩ := e.ses
      rw [h9, List.length_set]
  · rcases do_rel M s with e | e
    · rw [e]
    · exact e.flaw
theorem loadVar_st {w : World} {g : Nat} {s : Stp} (h : w.heap[g]? = some (stO s)) : (loadVar 43 ⟨g, 0, none⟩).run Try.prog w = .ok (stA s) w := by
  obtain ⟨c0, c1, c2, c3, c4⟩ := st_cells h
  clear h
  go_simp
set_option maxRecDepth 100000 in
set_option maxHeartbeats 1600000 in
theorem plain15 (w : World) (s : Stp) : Calls Try.prog 16 #[.agg #[.int .i64 s.kind, .int .i64 s.ses, .int .i64 s.gap, .string s.key, .string s.value]] w fun e w' => e = .returned (stA s) ∧ Kept w w' := by
  obtain ⟨kd, se, gp, k, v⟩ := s
  go_enter Try.func16, Try.ntmps16
  go_wp2_with fail
  refine bodyPost_ret (results_c (a := 2) (t := 43) rfl rfl (loadVar_st (s := ⟨kd, se, gp, k, v⟩) (g := w.heap.size + 1) (by have h9 := heap_new (w.alloc (.cells #[.int .i64 kd, .int .i64 se, .int .i64 gp, .string k, .string v] 32 (0, 0))) (stO ⟨kd, se, gp, k, v⟩); rw [World.size_alloc] at h9; exact h9))) rfl ?_
  exact ⟨rfl, ((Same.refl _ _).alloc _).alloc _⟩
theorem Bm.now {w0 w : World} {mb rb n : Nat} {fl : Int} {M : Mm} {R : Rr} {G : Nat → Prop} (h : Bm w0 w mb rb n fl M R G) : (Calls Try.prog 21 #[.pointer (some ⟨mb, 0, none⟩)] w fun e w' => e = .returned (.int .i64 M.clock) ∧ w' = w) ∧ w.cell? ⟨rb, 2, none⟩ = some (.int .i64 R.clock) ∧ rb < w.heap.size := by
  obtain ⟨F, tg, av, ev, L, h1, h2, h3, h4, h5, h6, h7⟩ := h
  exact ⟨now15 h1, (cell_of h2.obj 2).trans rfl, lt_of_heap h2.obj⟩
set_option maxRecDepth 100000 in
set_option maxHeartbeats 3200000 in
theorem dob15 {w0 w : World} {mb rb n : Nat} {fl : Int} {M : Mm} {R : Rr} {G : Nat → Prop} (h : Bm w0 w mb rb n fl M R G) (p : Rp n fl M R) (s : Stp) (hk : s.key.size ≤ maxLen) (hv : s.value.size ≤ maxLen) :
    Calls Try.prog 8 #[.pointer (some ⟨mb, 0, none⟩), .pointer (some ⟨rb, 0, none⟩), .agg #[.int .i64 s.kind, .int .i64 s.ses, .int .i64 s.gap, .string s.key, .string s.value]] w fun e w' => e = .returned (.bool true) ∧ Bm w0 w' mb rb n fl (doM M s).1 (rDo n fl R s).1 G ∧ ∀ b, G b → w'.heap[b]? = w.heap[b]? := by
  obtain ⟨p', e1, e2⟩ := p.step s
  have HCK : Hid ((doM M s).1.clock = (rDo n fl R s).1.clock) := p'.l.clk.symm
  have HSM : Hid (Sml R) := p.sml
  have HRB : Hid (Rb R) := p.b
  have HCL : Hid _ := p.clock
  have HDO : Hid (∀ W G', Bm w0 W mb rb n fl (doM M s).1 R G' → Calls Try.prog 23 #[.pointer (some ⟨rb, 0, none⟩), stA s] W fun e w' => e = .returned (.tuple #[.bool (doM M s).2.found, .string (doM M s).2.value, .int .i64 (doM M s).2.status, .int .i64 (codeD M s)]) ∧ Bm w0 w' mb rb n fl (doM M s).1 (rDo n fl R s).1 G' ∧ ∀ b, G' b → w'.heap[b]? = W.heap[b]?) := fun W G' hW => by
    have h9 := hW.doc HSM.out HRB.out HCL.out s hk hv
    rw [e1, e2] at h9
    exact h9
  have HCO : Hid (∀ W G', Bm w0 W mb rb n fl M R G' → _) := fun W G' hW => Bm.code hW s hk hv
  have H0 : Hid _ := h
  have HPL : Hid (∀ W, Calls Try.prog 16 #[.agg #[.int .i64 s.kind, .int .i64 s.ses, .int .i64 s.gap, .string s.key, .string s.value]] W fun e w' => e = .returned (stA s) ∧ Kept W w') := fun W => plain15 W s
  clear h p p' e1 e2 hk hv HSM HRB HCL
  generalize (doM M s).1 = M' at *
  generalize (rDo n fl R s).1 = R' at *
  generalize (doM M s).2 = an at *
  obtain ⟨fd, vl, st⟩ := an
  generalize codeD M s = cd at *
  try simp only at HDO HCO
  obtain ⟨kd, se, gp, k, v⟩ := s
  try simp only at HDO HCO HPL ⊢
  go_enter Try.func8, Try.ntmps8
  go_upto_region 1 with fail
  have B1 : Hid _ := Bm.add H0.out (.cells #[.int .i64 kd, .int .i64 se, .int .i64 gp, .string k, .string v] 32 (0, 0))
  have G1 : Hid _ := heap_new w (.cells #[.int .i64 kd, .int .i64 se, .int .i64 gp, .string k, .string v] 32 (0, 0))
  have HGS : Hid (∀ b, G b → (w.alloc (.cells #[.int .i64 kd, .int .i64 se, .int .i64 gp, .string k, .string v] 32 (0, 0))).heap[b]? = w.heap[b]?) := fun b hb => by
    obtain ⟨F, tg, av, ev, L, h1, h2, h3, h4, h5, h6, h7⟩ := H0.out
    exact ((Same.refl (fun _ => False) w).alloc _).block b (h7 b hb).2.2 (fun e => e)
  generalize w.alloc (.cells #[.int .i64 kd, .int .i64 se, .int .i64 gp, .string k, .string v] 32 (0, 0)) = W1 at *
  generalize w.heap.size = g at B1 G1 ⊢
  have c0 : W1.cell? ⟨g, 0, none⟩ = some (.int .i64 kd) := (cell_of G1.out 0).trans rfl
  have c1 : W1.cell? ⟨g, 1, none⟩ = some (.int .i64 se) := (cell_of G1.out 1).trans rfl
  have c2 : W1.cell? ⟨g, 2, none⟩ = some (.int .i64 gp) := (cell_of G1.out 2).trans rfl
  have c3 : W1.cell? ⟨g, 3, none⟩ = some (.string k) := (cell_of G1.out 3).trans rfl
  have c4 : W1.cell? ⟨g, 4, none⟩ = some (.string v) := (cell_of G1.out 4).trans rfl
  have hg := lt_of_heap G1.out
  go_wp2_with fail
  refine Calls.mono (HCO.out _ _ B1.out) ?_
  rintro r2 W2 ⟨rfl, b2, s2⟩
  have B2 : Hid _ := b2
  have HG2 : Hid (∀ b, G b → W2.heap[b]? = w.heap[b]?) := fun b hb => (s2 b (.inr hb)).trans (HGS.out b hb)
  have G2 : Hid (W2.heap[g]? = some (.cells #[.int .i64 kd, .int .i64 se, .int .i64 gp, .string k, .string v] 32 (0, 0))) := (s2 g (.inl rfl)).trans G1.out
  clear b2 s2 c0 c1 c2 c3 c4 hg HCO B1 G1 HGS H0
  go_upto_region 2 with fail
  have B3 : Hid _ := Bm.add B2.out (.cells #[.bool fd, .string vl, .int .i64 st] 54 (0, 0))
  have G3 : Hid _ := heap_new W2 (.cells #[.bool fd, .string vl, .int .i64 st] 54 (0, 0))
  have G4 : Hid ((W2.alloc (.cells #[.bool fd, .string vl, .int .i64 st] 54 (0, 0))).heap[g]? = some (.cells #[.int .i64 kd, .int .i64 se, .int .i64 gp, .string k, .string v] 32 (0, 0))) := (((Same.refl (fun _ => False) W2).alloc _).block g (lt_of_heap G2.out) (fun e => e)).trans G2.out
  have HG3 : Hid (∀ b, G b → (W2.alloc (.cells #[.bool fd, .string vl, .int .i64 st] 54 (0, 0))).heap[b]? = w.heap[b]?) := fun b hb => by
    obtain ⟨F, tg, av, ev, L, h1, h2, h3, h4, h5, h6, h7⟩ := B2.out
    exact (((Same.refl (fun _ => False) W2).alloc _).block b (h7 b (.inr hb)).2.2 (fun e => e)).trans (HG2.out b hb)
  generalize W2.alloc (.cells #[.bool fd, .string vl, .int .i64 st] 54 (0, 0)) = W3 at *
  generalize W2.heap.size = g7 at B3 G3 ⊢
  have c0 : W3.cell? ⟨g, 0, none⟩ = some (.int .i64 kd) := (cell_of G4.out 0).trans rfl
  have c1 : W3.cell? ⟨g, 1, none⟩ = some (.int .i64 se) := (cell_of G4.out 1).trans rfl
  have c2 : W3.cell? ⟨g, 2, none⟩ = some (.int .i64 gp) := (cell_of G4.out 2).trans rfl
  have c3 : W3.cell? ⟨g, 3, none⟩ = some (.string k) := (cell_of G4.out 3).trans rfl
  have c4 : W3.cell? ⟨g, 4, none⟩ = some (.string v) := (cell_of G4.out 4).trans rfl
  have hg := lt_of_heap G4.out
  go_wp2_with fail
  refine Calls.mono (HPL.out _) ?_
  rintro r4 W4 ⟨rfl, k4⟩
  have B4 : Hid _ := Bm.on B3.out k4
  have G5 : Hid (W4.heap[g7]? = some (.cells #[.bool fd, .string vl, .int .i64 st] 54 (0, 0))) := (k4.block g7 (lt_of_heap G3.out) (fun e => e)).trans G3.out
  have HG4 : Hid (∀ b, G b → W4.heap[b]? = w.heap[b]?) := fun b hb => by
    obtain ⟨F, tg, av, ev, L, h1, h2, h3, h4, h5, h6, h7⟩ := B3.out
    exact (k4.block b (h7 b (.inr (.inr hb))).2.2 (fun e => e)).trans (HG3.out b hb)
  clear c0 c1 c2 c3 c4 hg HPL B3 G3 G4 HG3 B2 G2 HG2 k4
  go_wp2_with fail
  refine Calls.mono (HDO.out _ _ B4.out) ?_
  rintro r5 W5 ⟨rfl, b5, s5⟩
  have B5 : Hid _ := b5
  have G6 : Hid (W5.heap[g7]? = some (.cells #[.bool fd, .string vl, .int .i64 st] 54 (0, 0))) := (s5 g7 (.inl rfl)).trans G5.out
  have HG5 : Hid (∀ b, G b → W5.heap[b]? = w.heap[b]?) := fun b hb => (s5 b (.inr (.inr hb))).trans (HG4.out b hb)
  clear b5 s5 HDO B4 G5 HG4
  obtain ⟨hnow, hck, hrl⟩ := Bm.now B5.out
  have HNW : Hid (∀ W, (∃ m, W = W5.drewN m) → Calls Try.prog 21 #[.pointer (some ⟨mb, 0, none⟩)] W fun e w' => e = .returned (.int .i64 R'.clock) ∧ w' = W) := fun W hW => by
    obtain ⟨m, rfl⟩ := hW
    have h9 := (Bm.now (Bm.on B5.out (Same.drewN (Same.refl _ _) m))).1
    rw [show M'.clock = _ from HCK.out] at h9
    exact h9
  have a0 : W5.cell? ⟨g7, 0, none⟩ = some (.bool fd) := (cell_of G6.out 0).trans rfl
  have a1 : W5.cell? ⟨g7, 1, none⟩ = some (.string vl) := (cell_of G6.out 1).trans rfl
  have a2 : W5.cell? ⟨g7, 2, none⟩ = some (.int .i64 st) := (cell_of G6.out 2).trans rfl
  have hg7 := lt_of_heap G6.out
  clear hnow G6
  generalize R'.clock = ck at *
  go_upto_region 3 with fail
  go_quiet ((go_at_call 21; exact Calls.quiet_of_same (HNW.out _ (by first | exact ⟨0, rfl⟩ | exact ⟨_, rfl⟩))))
  go_wp2_with fail
  go_ret
  exact ⟨rfl, Bm.weak (Bm.on B5.out (by (repeat (first | exact Same.refl _ _ | apply Same.drew | apply Same.drewN)); done)) (fun b hb => .inr (.inr hb)), HG5.out⟩
end Go.Proofs.Ytmghmacgljihcaa

namespace Go.Proofs.Ytmghmacgljihcaa
open Go.RowKit

theorem MkN.good {w w' : World} {mb : Nat} {M : Mm} (h : MkN w w' mb M) : Good M.A := by
  obtain ⟨F, ⟨-, tg, sb, vb, lv, P, L, hm, -⟩, -⟩ := h
  exact hm.st.good
theorem Sx.new {n : Nat} (h0 : 1 ≤ n) (h1 : n ≤ 64) : Sx n (newM n 0) 0 [] 0 (fun _ => none) := ⟨Ok.new h0 h1, rfl, rfl, rfl, fun j => by rw [at_new]; rfl⟩
set_option maxRecDepth 100000 in
set_option maxHeartbeats 1600000 in
theorem anchor15 (w : World) : Calls Try.prog 5 #[] w fun e w' => e = .returned (.bool true) ∧ Kept w w' := by
  have HN : Hid _ := newN w 1 (by decide) (by decide)
  have s0 := Sx.new (n := 1) (by decide) (by decide)
  obtain ⟨M1, a1, e1, c1, f1, o1, s1⟩ := s0.begin (i := 0) (by decide) rfl (by decide) (by decide)
  obtain ⟨M2, e2, c2, s2⟩ := s1.write (i := 0) (a := a1) (k := ⟨#[97]⟩) (v := ⟨#[120]⟩) rfl (by rw [o1]; decide) ⟨by decide, by decide⟩ (by decide) (by decide)
  obtain ⟨M3, e3, c3, s3⟩ := (s2.commit (i := 0) (k := ⟨#[97]⟩) (v := ⟨#[120]⟩) rfl (by show a1.t.ops ++ _ = _; rw [o1]; rfl) ⟨by decide, by decide⟩ (by decide) (by decide) (by decide)).1 rfl
  have HE1 : Hid _ := And.intro e1 c1
  have HE2 : Hid _ := And.intro e2 c2
  have HE3 : Hid _ := And.intro e3 c3
  have HS3 : Hid _ := s3
  clear s0 s1 s2 s3 c1 c2 c3 e1 e2 e3 f1 o1
  go_enter Try.func5, Try.ntmps5
  go_wp2_with fail
  refine Calls.mono HN.out ?_
  rintro e w1 ⟨mb, rfl, m1⟩
  have D1 : Hid _ := MkN.doN m1 1 0 0 e0 e0 (by decide) (by decide) HE1.out.1 HE1.out.2
  clear m1
  go_wp2_with fail
  refine Calls.mono D1.out ?_
  rintro e w2 ⟨rfl, m2⟩
  have D2 : Hid _ := MkN.doN m2 3 0 0 ⟨#[97]⟩ ⟨#[120]⟩ (by decide) (by decide) HE2.out.1 HE2.out.2
  clear m2
  go_wp2_with fail
  refine Calls.mono D2.out ?_
  rintro e w3 ⟨rfl, m3⟩
  have D3 : Hid _ := MkN.doN m3 5 0 0 e0 e0 (by decide) (by decide) HE3.out.1 HE3.out.2
  clear m3
  go_wp2_with fail
  refine Calls.mono D3.out ?_
  rintro e w4 ⟨rfl, m4⟩
  have m5 := MkN.on m4 ((Same.refl _ w4).alloc (.cells #[.bool false, .string e0, .int .i64 1] 54 (0, 0)))
  have D4 : Hid _ := MkN.valN m5 ⟨#[97]⟩ (by decide) (x := ⟨3, 0, true, ⟨#[120]⟩⟩) (Sx.val (A := []) HS3.out (MkN.good m5) (by decide) (fun e he => by cases he))
  have M5 : Hid _ := m5
  have HB : Hid (AnB (w4.alloc (.cells #[.bool false, .string e0, .int .i64 1] 54 (0, 0))) w4.heap.size ⟨false, e0, 1⟩) := heap_new _ _
  clear m4 m5
  go_wp2_with fail
  refine Calls.mono D4.out ?_
  rintro e w6 ⟨rfl, k6⟩
  have m6 := MkN.on M5.out k6
  have D5 : Hid _ := MkN.nowN m6 (c := 3) (Sx.clock HS3.out)
  obtain ⟨⟨-, -, z2⟩, hl2, -⟩ := AnB.cells ((k6.block w4.heap.size (lt_of_heap HB.out) (fun e => e)).trans HB.out : AnB w6 w4.heap.size ⟨false, e0, 1⟩)
  have K6 : Hid (Kept w w6) := MkN.kept m6
  clear m6 k6
  go_wp2_with fail
  refine Calls.mono D5.out ?_
  rintro e w7 ⟨rfl, rfl⟩
  go_wp2_with fail
  go_ret
  exact ⟨rfl, K6.out⟩
/-- Session 3 made idle. -/
def freeM (M : Mm) : Mm := if (M.at 3).act.isSome = true then (doM M ⟨6, 3, 0, e0, e0⟩).1 else M
def freeB (M : Mm) : Bool := !(M.at 3).act.isSome && decide (M.clock < 549755813888) && decide (M.log.length < 4000)
theorem Ok.free {n : Nat} {M : Mm} (h : Ok n M) : Ok n (freeM M) := by
  unfold freeM
  split
  · exact h.step _
  · exact h
end Go.Proofs.Ytmghmacgljihcaa

namespace Go.Proofs.Ytmghmacgljihcaa
open Go.RowKit

set_option maxRecDepth 100000 in
set_option maxHeartbeats 1600000 in
theorem rnewBad (w : World) (n fl : Int) (h : (n < 1 ∨ 64 < n) ∨ (fl < 0 ∨ 4 < fl)) : Calls Try.prog 7 #[.int .i64 n, .int .i64 fl] w fun e w' => e = .returned (.tuple #[.pointer none, .int .i64 (if n < 1 ∨ 64 < n then 150 else 158)]) ∧ w' = w := by
  by_cases d1 : n < 1
  · rw [if_pos (.inl d1)]
    have e1 : decide (n < 1) = true := decide_eq_true d1
    go_enter Try.func7, Try.ntmps7
    go_wp2_with fail
    go_ret2
    exact ⟨rfl, rfl⟩
  · have e1 : decide (n < 1) = false := decide_eq_false d1
    by_cases d2 : 64 < n
    · rw [if_pos (.inr d2)]
      have e2 : decide (64 < n) = true := decide_eq_true d2
      go_enter Try.func7, Try.ntmps7
      go_wp2_with fail
      go_ret2
      exact ⟨rfl, rfl⟩
    · rw [if_neg (by omega)]
      have e2 : decide (64 < n) = false := decide_eq_false d2
      by_cases d3 : fl < 0
      · have e3 : decide (fl < 0) = true := decide_eq_true d3
        go_enter Try.func7, Try.ntmps7
        go_wp2_with fail
        go_ret2
        exact ⟨rfl, rfl⟩
      · have e3 : decide (fl < 0) = false := decide_eq_false d3
        have d4 : 4 < fl := by omega
        have e4 : decide (4 < fl) = true := decide_eq_true d4
        go_enter Try.func7, Try.ntmps7
        go_wp2_with fail
        go_ret2
        exact ⟨rfl, rfl⟩
set_option maxRecDepth 100000 in
set_option maxHeartbeats 1600000 in
theorem rnew15 (w : World) (n : Nat) (fl : Int) (h0 : 1 ≤ n) (h1 : n ≤ 64) (f0 : 0 ≤ fl) (f1 : fl ≤ 4) : Calls Try.prog 7 #[.int .i64 (n : Int), .int .i64 fl] w fun e w' => ∃ rb, e = .returned (.tuple #[.pointer (some ⟨rb, 0, none⟩), .int .i64 0]) ∧ ∃ tg, Rm tg w' rb n fl ⟨0, [], []⟩ (.slice none 0 0) (.slice none 0 0) [] ∧ (∀ b, tg b ≠ .out → w.heap.size ≤ b) ∧ Kept w w' := by
  have d1 : ¬ (n : Int) < 1 := by omega
  have d2 : ¬ 64 < (n : Int) := by omega
  have d3 : ¬ fl < 0 := by omega
  have d4 : ¬ 4 < fl := by omega
  have e1 : decide ((n : Int) < 1) = false := decide_eq_false d1
  have e2 : decide (64 < (n : Int)) = false := decide_eq_false d2
  have e3 : decide (fl < 0) = false := decide_eq_false d3
  have e4 : decide (4 < fl) = false := decide_eq_false d4
  go_enter Try.func7, Try.ntmps7
  go_wp2_with fail
  go_ret2
  refine ⟨w.heap.size, rfl, fun b => if b = w.heap.size then Ug.mach else Ug.out, ⟨heap_new w _, (by simp), ⟨rfl, .inl ⟨rfl, rfl⟩⟩, (fun b hb => by cases hb), ⟨rfl, .inl ⟨rfl, rfl⟩⟩, (fun b hb => by cases hb), rfl, (fun i x hx => by cases hx), fun b hb => ?_⟩, fun b hb => ?_, (Same.refl _ _).alloc _⟩
  · have : b = w.heap.size := Classical.byContradiction fun e => hb (if_neg e)
    rw [World.size_alloc]
    omega
  · have : b = w.heap.size := Classical.byContradiction fun e => hb (if_neg e)
    omega
/-- Both, just made. -/
theorem Bm.start {w0 w w' : World} {mb rb n : Nat} {fl : Int} {M : Mm} {R : Rr} {av ev : Value} {L : List Rt} {tg : Nat → Ug} (h : MkN w0 w mb M) (hr : Rm tg w' rb n fl R av ev L) (ht : ∀ b, tg b ≠ .out → w.heap.size ≤ b) (k : Kept w w') : Bm w0 w' mb rb n fl M R (fun _ => False) := by
  obtain ⟨F, h1, h2, h3⟩ := h
  refine ⟨F, tg, av, ev, L, h1.on k, hr, fun b hb => ?_, h2, fun b hb => Nat.le_trans h3.size (ht b hb), Same.trans' h3 k, fun _ e => e.elim⟩
  by_cases e : tg b = .out
  · exact e
  · have := ht b e
    have := h1.lt b hb
    omega
theorem inv_new {n : Nat} {fl : Int} {w : World} {mb : Nat} {F : Nat → Prop} (h : Mk F w mb (newM n fl)) : Rp n fl (newM n fl) ⟨0, [], []⟩ := ⟨Rl.new n fl, ⟨(fun _ h => by cases h), (fun _ h => by cases h)⟩, (by simp [newM]), rfl, h.1⟩
set_option maxRecDepth 100000 in
set_option maxHeartbeats 800000 in
theorem active_off {F : Nat → Prop} {w : World} {mb : Nat} {M : Mm} (h : Mk F w mb M) {i : Int} (hi : i < 0 ∨ (M.ses.length : Int) ≤ i) : Calls Try.prog 9 #[.pointer (some ⟨mb, 0, none⟩), .int .i64 i] w fun e w' => e = .returned (.bool false) ∧ w' = w := by
  obtain ⟨hv, tg, sb, vb, lv, P, L, hm, -⟩ := h
  obtain ⟨hmb, ⟨-, -, -, c3, -⟩, -⟩ := Mi.cells hm
  have hs1 := hv.s1
  clear hm hv
  generalize M.ses.length = n at *
  by_cases d1 : i < 0
  · have e1 : decide (0 ≤ i) = false := decide_eq_false (by omega)
    have e2 : ¬ 0 ≤ i := by omega
    go_enter Try.func9, Try.ntmps9
    go_wp2_with fail
    go_ret
    exact ⟨rfl, rfl⟩
  · have e1 : decide (0 ≤ i) = true := decide_eq_true (by omega)
    have e2 : 0 ≤ i := by omega
    have e3 : ¬ i < (n : Int) := by omega
    have e4 : decide (i < (n : Int)) = false := decide_eq_false e3
    go_enter Try.func9, Try.ntmps9
    go_wp2_with fail
    go_ret
    exact ⟨rfl, rfl⟩
/-- What both say of a session. -/
theorem Bm.active {w0 w : World} {mb rb n : Nat} {fl : Int} {M : Mm} {R : Rr} {G : Nat → Prop} (h : Bm w0 w mb rb n fl M R G) (p : Rp n fl M R) (i : Int) : ∃ (b : Bool) (x : Int), (decide (0 ≤ x) = b) ∧ (Calls Try.prog 9 #[.pointer (some ⟨mb, 0, none⟩), .int .i64 i] w fun e w' => e = .returned (.bool b) ∧ w' = w) ∧ (Calls Try.prog 10 #[.pointer (some ⟨rb, 0, none⟩), .int .i64 i] w fun e w' => e = .returned (.int .i64 x) ∧ w' = w) := by
  obtain ⟨F, tg, av, ev, L, h1, h2, -⟩ := h
  obtain ⟨a, cap, -, hrd⟩ := h2.rd
  have hA := ractive15 hrd p.sml.n i
  by_cases hi : i < 0 ∨ (M.ses.length : Int) ≤ i
  · have hn : rAct R.all i = none := rAct_none fun j r hr => by
      cases e : isA i r with
      | false => rfl
      | true =>
        simp only [isA, Bool.and_eq_true, beq_iff_eq] at e
        obtain ⟨j', a', g1, g2, -⟩ := p.l.own j r hr e.1
        have := e.2
        omega
    rw [hn] at hA
    exact ⟨false, -1, rfl, active_off h1 hi, hA⟩
  · obtain ⟨j, rfl⟩ : ∃ j : Nat, i = (j : Int) := ⟨i.toNat, by omega⟩
    have hs := p.l.actS j
    refine ⟨(M.at j).act.isSome, _, ?_, active15 h1 (by omega), hA⟩
    rw [← hs]
    cases rAct R.all (j : Int) with
    | none => rfl
    | some q => simp [ix]
theorem Bm.value {w0 w : World} {mb rb n : Nat} {fl : Int} {M : Mm} {R : Rr} {G : Nat → Prop} (h : Bm w0 w mb rb n fl M R G) (p : Rp n fl M R) (k : ByteArray) (hk : k.size ≤ maxLen) : (Calls Try.prog 11 #[.pointer (some ⟨mb, 0, none⟩), .string k] w fun e w' => e = .returned (.tuple #[.string (valM M k).v, .bool (valM M k).f]) ∧ Kept w w') ∧ ∀ W, Kept w W → (Calls Try.prog 12 #[.pointer (some ⟨rb, 0, none⟩), .string k] W fun e w' => e = .returned (.tuple #[.string (valM M k).v, .bool (valM M k).f]) ∧ Kept W w') := by
  obtain ⟨F, tg, av, ev, L, h1, h2, -⟩ := h
  refine ⟨value15 h1 k hk, fun W kW => ?_⟩
  obtain ⟨a, cap, -, hrd⟩ := (h2.on kW).rd
  have h9 := rvalue15 hrd p.sml k
  rw [p.l.val k] at h9
  exact h9
theorem Bm.logs {w0 w : World} {mb rb n : Nat} {fl : Int} {M : Mm} {R : Rr} {G : Nat → Prop} (h : Bm w0 w mb rb n fl M R G) (p : Rp n fl M R) : Calls Try.prog 14 #[.pointer (some ⟨mb, 0, none⟩)] w (LogP w M.log) ∧ ∀ W, Kept w W → Calls Try.prog 15 #[.pointer (some ⟨rb, 0, none⟩)] W (RlP W M.log) := by
  obtain ⟨F, tg, av, ev, L, h1, h2, -⟩ := h
  refine ⟨log15 h1, fun W kW => ?_⟩
  have h9 := rlog15 (h2.on kW) p.sml (fun i hi => ((p.l.fin i).1 hi).1)
  rw [← p.l.log] at h9
  exact h9
end Go.Proofs.Ytmghmacgljihcaa

namespace Go.Proofs.Ytmghmacgljihcaa
open Go.RowKit

set_option maxRecDepth 100000 in
set_option maxHeartbeats 6400000 in
theorem plays_law {w : World} {a : Option Addr} {l : List Stp} {cap : Nat} (hl : StepsAt w a l) (hs : SmallS l) (hn : l.length ≤ 2513169434918) (n0 fl : Int) :
    Calls Try.prog 3 #[.int .i64 n0, .int .i64 fl, .slice a l.length cap] w fun e w' => e = .returned (.bool true) ∧ Kept w w' := by
  have HAN : Hid _ := anchor15 w
  obtain ⟨n, en⟩ : ∃ n, n = l.length := ⟨_, rfl⟩
  by_cases hbad : (n0 < 1 ∨ 64 < n0) ∨ (fl < 0 ∨ 4 < fl)
  · have HNB : Hid (∀ W, Calls Try.prog 6 #[.int .i64 n0, .int .i64 fl] W fun e w' => e = .returned (.tuple #[.pointer none, .int .i64 (if n0 < 1 ∨ 64 < n0 then 150 else 158)]) ∧ w' = W) := fun W => newBad W n0 fl hbad
    have HRB : Hid (∀ W, Calls Try.prog 7 #[.int .i64 n0, .int .i64 fl] W fun e w' => e = .returned (.tuple #[.pointer none, .int .i64 (if n0 < 1 ∨ 64 < n0 then 150 else 158)]) ∧ w' = W) := fun W => rnewBad W n0 fl hbad
    obtain ⟨cd, ecd⟩ : ∃ cd : Int, cd = if n0 < 1 ∨ 64 < n0 then 150 else 158 := ⟨_, rfl⟩
    have hcd : cd ≠ 0 := by rw [ecd]; split <;> decide
    rw [← ecd] at HNB HRB
    rw [← en]
    have f1 : (cd != 0) = true := by simpa using hcd
    clear hl hs en hbad ecd hn
    go_enter Try.func3, Try.ntmps3
    go_wp2_with fail
    refine Calls.mono HAN.out ?_
    rintro e w0 ⟨rfl, k0⟩
    have K0 : Hid (Kept w w0) := k0
    clear k0 HAN
    go_wp2_with fail
    refine Calls.mono (HNB.out _) ?_
    rintro e w1 ⟨rfl, e1⟩
    subst w1
    go_wp2_with fail
    refine Calls.mono (HRB.out _) ?_
    rintro e w1 ⟨rfl, e1⟩
    subst w1
    go_wp2_with fail
    go_ret
    exact ⟨rfl, K0.out⟩
  · obtain ⟨N, eN⟩ : ∃ N : Nat, n0 = (N : Int) := ⟨n0.toNat, by omega⟩
    subst eN
    have hN0 : 1 ≤ N := by omega
    have hN1 : N ≤ 64 := by omega
    have hf0 : 0 ≤ fl := by omega
    have hf1 : fl ≤ 4 := by omega
    have HNW : Hid (∀ W, _) := fun W => newF W N fl hN0 hN1 hf0 hf1
    have HRN : Hid (∀ W, _) := fun W => rnew15 W N fl hN0 hN1 hf0 hf1
    have HL : Hid (StepsAt w a l) := hl
    have HSM : Hid (SmallS l) := hs
    have ENL : Hid (n = l.length) := en
    rw [← en] at hn ⊢
    clear hl hs en hbad hf0 hf1
    go_enter Try.func3, Try.ntmps3
    go_wp2_with fail
    refine Calls.mono HAN.out ?_
    rintro e w0 ⟨rfl, k0⟩
    have K0 : Hid (Kept w w0) := k0
    clear k0 HAN
    go_wp2_with fail
    refine Calls.mono (HNW.out _) ?_
    rintro e w1 ⟨mb, rfl, h1⟩
    have H1 : Hid (MkN w0 w1 mb (newM N fl)) := h1
    clear h1 HNW
    go_wp2_with fail
    refine Calls.mono (HRN.out _) ?_
    rintro e w2 ⟨rb, rfl, tg, h2, h3, h4⟩
    have B0 : Hid (Bm w w2 mb rb N fl (newM N fl) ⟨0, [], []⟩ (fun _ => False)) := Bm.start (MkN.behind K0.out H1.out) h2 h3 h4
    have P0 : Hid (Rp N fl (newM N fl) ⟨0, [], []⟩) := by
      obtain ⟨F, h9, -⟩ := H1.out
      exact inv_new h9
    clear h2 h3 h4 HRN H1 K0
    go_wp2_with fail
    go_loopw [48] (fun t wr => ∃ (j : Nat) (M : Mm) (R : Rr), t = .int .i64 j ∧ j ≤ n ∧ Bm w wr mb rb N fl M R (fun _ => False) ∧ Rp N fl M R) (fun t _ => n - (intOf t).toNat)
    case atStart => exact ⟨0, _, _, rfl, Nat.zero_le _, B0.out, P0.out⟩
    case round =>
      obtain ⟨j, M, R, rfl, hj, hB, hP⟩ := hrel
      rename World => WL
      have HB : Hid (Bm w WL mb rb N fl M R (fun _ => False)) := hB
      have HP : Hid (Rp N fl M R) := hP
      clear hB hP B0 P0
      by_cases hlt : j < n
      · have d1 : decide ((j : Int) < (n : Int)) = true := decide_eq_true (by omega)
        have hlt2 : (j : Int) < (n : Int) := by omega
        obtain ⟨s, hsj⟩ : ∃ s, l[j]? = some s := ⟨_, List.getElem?_eq_getElem (by rw [← show n = _ from ENL.out]; exact hlt)⟩
        obtain ⟨b, off, rfl, hb, c0, c1, c2, c3, c4⟩ := (StepsAt.on HL.out (Bm.kept HB.out)) j s hsj
        have hsm := HSM.out s (List.mem_of_getElem? hsj)
        have HDO : Hid (∀ W, Kept WL W → _) := fun W (k : Kept WL W) => dob15 (Bm.on HB.out k) HP.out s hsm.1 hsm.2
        have HNX : Hid (Rp N fl (doM M s).1 (rDo N fl R s).1) := (Rp.step HP.out s).1
        have hj1 : (j : Int) + 1 ≤ 9223372036854775807 := by omega
        clear hsj hsm
        generalize (doM M s).1 = M' at *
        generalize (rDo N fl R s).1 = R' at *
        obtain ⟨kd, se, gp, k, v⟩ := s
        try simp only at c0 c1 c2 c3 c4 HDO
        go_wp2_with fail
        refine Calls.mono (HDO.out _ (by (repeat (first | exact Same.refl _ _ | apply Same.alloc | apply Same.drew | apply Same.drewN)); done)) ?_
        rintro e w5 ⟨rfl, b5, -⟩
        have B5 : Hid _ := b5
        clear b5 HDO
        go_wp2_with fail
        go_roundw
        case rel => exact ⟨j + 1, M', R', by simp, hlt, B5.out, HNX.out⟩
        case measure => simp only [intOf]; omega
      · obtain rfl : n = j := by omega
        have d1 : decide ((n : Int) < (n : Int)) = false := decide_eq_false (by omega)
        go_wp2_with fail
        go_loopw [13] (fun t wr => ∃ i : Int, t = .int .i64 i ∧ -1 ≤ i ∧ i ≤ (N : Int) + 1 ∧ wr = WL) (fun t _ => ((N : Int) + 1 - intOf t).toNat)
        case atStart => exact ⟨-1, rfl, by omega, by omega, rfl⟩
        case round =>
          obtain ⟨i, rfl, hi0, hi1, ew⟩ := hrel
          subst ew
          by_cases hle : i ≤ (N : Int)
          · have d2 : decide (i ≤ (N : Int)) = true := decide_eq_true hle
            obtain ⟨ab, ax, hax, hac, hdc⟩ := Bm.active HB.out HP.out i
            have HAC : Hid _ := hac
            have HDC : Hid _ := hdc
            have hi2 : i + 1 ≤ 9223372036854775807 := by omega
            have hi3 : -9223372036854775808 ≤ i + 1 := by omega
            clear hac hdc
            go_wp2_with fail
            refine Calls.mono HAC.out ?_
            rintro e w5 ⟨rfl, e5⟩
            subst e5
            go_wp2_with fail
            refine Calls.mono HDC.out ?_
            rintro e w5 ⟨rfl, e5⟩
            subst e5
            subst hax
            clear HAC HDC
            go_wp2_with fail
            go_roundw
            case rel => exact ⟨i + 1, rfl, by omega, by omega, by first | trivial | rfl⟩
            case measure => simp only [intOf]; omega
          · have d2 : decide (i ≤ (N : Int)) = false := decide_eq_false hle
            go_wp2_with fail
            rename World => WM
            go_loopw [73] (fun t wr => ∃ j : Nat, t = .int .i64 j ∧ j ≤ n ∧ Kept WM wr) (fun t _ => n - (intOf t).toNat)
            case atStart => exact ⟨0, rfl, Nat.zero_le _, Same.refl _ _⟩
            case round =>
              obtain ⟨j, rfl, hj, kj⟩ := hrel
              rename World => WN
              have KJ : Hid (Kept WM WN) := kj
              clear kj
              by_cases hlt : j < n
              · have d3 : decide ((j : Int) < (n : Int)) = true := decide_eq_true (by omega)
                have hlt2 : (j : Int) < (n : Int) := by omega
                obtain ⟨s, hsj⟩ : ∃ s, l[j]? = some s := ⟨_, List.getElem?_eq_getElem (by rw [← show n = _ from ENL.out]; exact hlt)⟩
                obtain ⟨b, off, rfl, hb, c0, c1, c2, c3, c4⟩ := (StepsAt.on HL.out (Same.trans' (Bm.kept HB.out) KJ.out)) j s hsj
                have hsm := HSM.out s (List.mem_of_getElem? hsj)
                have HV1 : Hid (∀ W, Kept WM W → _) := fun W (k : Kept WM W) => (Bm.value (Bm.on HB.out k) HP.out s.key hsm.1).1
                have HV2 : Hid (∀ W, Kept WM W → _) := fun W (k : Kept WM W) => (Bm.value HB.out HP.out s.key hsm.1).2 W k
                have hj1 : (j : Int) + 1 ≤ 9223372036854775807 := by omega
                clear hsj hsm
                generalize valM M s.key = vm at *
                obtain ⟨vc, vw, vf, vv⟩ := vm
                obtain ⟨kd, se, gp, k, v⟩ := s
                try simp only at c0 c1 c2 c3 c4 HV1 HV2
                go_wp2_with fail
                refine Calls.mono (HV1.out _ (by (repeat (first | exact KJ.out | apply Same.alloc | apply Same.drew | apply Same.drewN)); done)) ?_
                rintro e w5 ⟨rfl, k5⟩
                have K5 : Hid (Kept WM w5) := Same.trans' (by (repeat (first | exact KJ.out | apply Same.alloc | apply Same.drew | apply Same.drewN)); done) k5
                have hbx : w5.cell? ⟨WN.heap.size, 3, none⟩ = some (.string k) := (k5.cell (p := ⟨WN.heap.size, 3, none⟩) (by rw [World.size_alloc]; exact Nat.lt_succ_self _) (fun e => e)).trans ((cell_of (heap_new WN _) 3).trans rfl)
                have hbs : WN.heap.size < w5.heap.size := Nat.lt_of_lt_of_le (by rw [World.size_alloc]; exact Nat.lt_succ_self _) k5.size
                clear k5 HV1 c0 c1 c2 c3 c4
                go_wp2_with fail
                refine Calls.mono (HV2.out _ K5.out) ?_
                rintro e w6 ⟨rfl, k6⟩
                have K6 : Hid (Kept WM w6) := Same.trans' K5.out k6
                clear k6 HV2 hbx hbs
                go_wp2_with fail
                go_roundw
                case rel => exact ⟨j + 1, by simp, hlt, K6.out⟩
                case measure => simp only [intOf]; omega
              · obtain rfl : n = j := by omega
                obtain ⟨hl1, hl2⟩ := Bm.logs (Bm.on HB.out KJ.out) HP.out
                have HL1 : Hid _ := hl1
                have HL2 : Hid _ := hl2
                have HO16 : Hid (∀ t ∈ M.log, t.ops.length ≤ 9223372036854775807) := fun t ht => by have := HP.out.i.lg t ht; omega
                have hln : M.log.length ≤ 4096 := by
                  have h1 := HP.out.i.cnt
                  have h2 := HP.out.i.b1
                  have h3 : (0 : Int) ≤ acts M.ses := by unfold acts; omega
                  omega
                have KW : Hid (Kept w WN) := Same.trans' (Bm.kept HB.out) KJ.out
                clear hl1 hl2
                go_wp2_with fail
                refine Calls.mono HL1.out ?_
                rintro e w7 ⟨v7, L7, rfl, o7, m7, p7, k7⟩
                obtain ⟨va, vc, rfl, -⟩ := row_shape o7
                have T7 : Hid (TxnsAt w7 va M.log) := by
                  have h9 := OwnT.txns o7 p7
                  rw [m7] at h9
                  exact h9
                have e7 : L7.length = M.log.length := by rw [← m7, List.length_map]
                rw [e7]
                have K7 : Hid (Kept WN w7) := k7
                have H8 : Hid _ := HL2.out w7 k7
                clear o7 p7 m7 e7 k7 HL1 HL2
                go_wp2_with fail
                refine Calls.mono H8.out ?_
                rintro e w8 ⟨v8, L8, rfl, o8, m8, p8, k8⟩
                obtain ⟨vb, vd, rfl, -⟩ := row_shape o8
                have T8 : Hid (TxnsAt w8 vb M.log) := by
                  have h9 := OwnT.txns o8 p8
                  rw [m8] at h9
                  exact h9
                have e8 : L8.length = M.log.length := by rw [← m8, List.length_map]
                rw [e8]
                have H9 : Hid _ := sameL15 w8 va vb vc vd M.log.length M.log (TxnsAt.on T7.out k8) T8.out rfl (by omega) HO16.out
                have K8 : Hid (Kept w w8) := Same.trans' (Same.trans' KW.out K7.out) k8
                clear o8 p8 m8 e8 k8 H8
                generalize M.log.length = ln at *
                go_wp2_with fail
                refine Calls.mono H9.out ?_
                rintro e w9 ⟨rfl, k9⟩
                have K9 : Hid (Kept w w9) := Same.trans' K8.out k9
                clear k9 H9
                go_wp2_with fail
                go_ret
                exact ⟨rfl, K9.out⟩
end Go.Proofs.Ytmghmacgljihcaa
