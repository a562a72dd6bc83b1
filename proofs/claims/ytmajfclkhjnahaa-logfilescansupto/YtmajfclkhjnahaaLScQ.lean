/- What is proved: plain facts on the two scanners at the head of the loop, and what each reading tells; no condition. -/
import Derived.Test.YtmajfclkhjnahaaLScS
import Derived.Test.YtmajfclkhjnahaaLOps
import Derived.Test.YtmajfclkhjnahaaLRh
import Derived.Test.YtmajfclkhjnahaaLAnch
import Derived.Deep.RegionHeld3
import Derived.Deep.DeepCutAuto
namespace Go.Proofs.Ytmajfclkhjnahaa
open Go.RowKit

/-- append as one step of a region that draws its order. -/
theorem step_app {P : Program} {ops : Array Oper} {o : Oper} {a : Act} {w : World} {K : Act → World → Prop} {Q : Exit → Act → World → Prop} {E : Prop} (hg : o.guard = none) (s x : Operand) (t : TypeId)
    (ho : o.op = .call { callee := .builtin .append, args := #[s, x], argTypes := #[t, t] }) (vs vx : Value) (hs : a.eval s = vs) (hx : a.eval x = vx) (R : Value → World → Prop)
    (hrun : ∀ ty, ∃ v' w', (Builtin.append_ #[t, t] ty #[vs, vx]).run P w = .ok v' w' ∧ R v' w') (h : ∀ v' w', R v' w' → K (a.put o.dst v') w') : if Region.wanted o (yielded ops a.tmps) = true then Oper.wp P o a w K Q else E := by
  have hw : Region.wanted o (yielded ops a.tmps) = true := by simp [Region.wanted, hg]
  rw [if_pos hw]
  obtain ⟨v', w', hr, hR⟩ := hrun o.type
  unfold Oper.wp
  simp only [execOp, ho, resolve, invoke, builtin, Sem.run_bind, Sem.run_pure, Result.andThen_ok, List.map_toArray, List.map_cons, List.map_nil, hs, hx, hr]
  exact h v' w' hR
theorem fed_next {l : List Op7} {j : Nat} {o : Op7} (h : l[j]? = some o) : fed7 (l.drop j) = o.d.length + fed7 (l.drop (j + 1)) := by
  obtain ⟨hj, e⟩ := List.getElem?_eq_some_iff.1 h
  rw [List.drop_eq_getElem_cons hj, e]
  simp [fed7]
theorem NxV.tx {base : Nat} {w : World} {o : Option TxM} {tv : Value} (h : NxV base w o tv) : TxA w (o.getD t0) tv := by
  unfold NxV at h
  cases o with
  | none =>
    simp only at h
    subst h
    exact ⟨none, 0, rfl, fun i x hx => by simp [t0] at hx⟩
  | some t =>
    simp only at h
    obtain ⟨a, c, rfl, o⟩ := h
    exact OwnO.txa o
theorem next_rt {d : List Int} {en : Bool} {s s' : Sc} {t : TxM} (hb : Byts d) (h : next7 d en s = (some t, s')) : Right t := by
  have hg : ∀ s : Sc, goOn d en s = (some t, s') → Right t := fun s h => by
    by_cases hf : s.ft = true
    · rw [go_foot hf] at h
      split at h <;> cases h
    · rw [go_entry (by simpa using hf)] at h
      exact (entry_one hb h).1
  unfold next7 at h
  by_cases h0 : s.er ≠ 0
  · rw [if_pos h0] at h
    cases h
  rw [if_neg h0] at h
  split at h
  · split at h
    · cases h
    · exact hg _ h
  · exact hg s h
theorem next_ops {d : List Int} {en : Bool} {s : Sc} (hb : Byts d) : ((next7 d en s).1.getD t0).ops.length ≤ 9223372036854775807 := by
  obtain ⟨o, s', h⟩ : ∃ o s', next7 d en s = (o, s') := ⟨_, _, rfl⟩
  rw [h]
  cases o with
  | none => simp [t0]
  | some t =>
    have := (next_rt hb h).2.1
    simp only [Option.getD_some]
    omega
/-- What stands at the head of the loop. -/
def Sh (w W : World) (sb rb : Nat) (l : List Op7) (j : Nat) : Prop := ∃ vs vd d en s, Sg w W sb rb vs vd d en s d en s ∧ d.length + fed7 (l.drop j) ≤ 1048576
theorem Sg.sh {w W W' : World} {sb rb : Nat} {vs vd : Value} {d : List Int} {en : Bool} {s : Sc} {l : List Op7} {j : Nat} (h : Sg w W sb rb vs vd d en s d en s) (hb : d.length + fed7 (l.drop j) ≤ 1048576) (k : Kept W W') : Sh w W' sb rb l j := ⟨vs, vd, d, en, s, h.on k, hb⟩
theorem Sg.tells {w W : World} {sb rb : Nat} {vs vd : Value} {d : List Int} {en : Bool} {s : Sc} (h : Sg w W sb rb vs vd d en s d en s) (hl : d.length ≤ 1048576) : Calls Try.prog 11 #[.pointer (some ⟨sb, 0, none⟩), .pointer (some ⟨rb, 0, none⟩)] W fun x w' => x = .returned (.bool true) ∧ Kept W w' := by
  obtain ⟨oa, c, -, hr⟩ := h.rs hl h.at_.byts
  exact tells7_any h.at_ hr
theorem Sg.rnext {w W : World} {sb rb : Nat} {vs vd : Value} {dA : List Int} {eA : Bool} {sA : Sc} {d : List Int} {en : Bool} {s : Sc} (h : Sg w W sb rb vs vd dA eA sA d en s) (hl : d.length ≤ 1048576) (hby : Byts d) (hft : s.er = 0 → s.ft = true → s.pl ≠ 0) : Calls Try.prog 9 #[.pointer (some ⟨rb, 0, none⟩)] W fun x w' => ∃ tv, x = .returned (.tuple #[tv, .bool (next7 d en s).1.isSome, .int .i64 (next7 d en s).2.er]) ∧ NxV W.heap.size w' (next7 d en s).1 tv ∧ Sg w w' sb rb vs vd dA eA sA d en (next7 d en s).2 ∧ Same (fun k => k = rb) W w' := by
  obtain ⟨oa, c, e, hr⟩ := h.rs hl hby
  subst e
  have hc : Calls Try.prog 9 #[.pointer (some ⟨rb, 0, none⟩)] W fun x w' => RsR W rb oa c d en (next7 d en s) x w' := by
    by_cases h0 : s.er = 0
    · refine rnext_any hr (fun hp => ?_)
      cases hf : s.ft with
      | false => rfl
      | true => exact absurd hp (hft h0 hf)
    · have e7 : next7 d en s = (none, s) := by
        unfold next7
        rw [if_pos h0]
      rw [e7]
      exact rnext_er hr h0
  refine Calls.mono hc ?_
  rintro x w' ⟨tv, rfl, n, r, k⟩
  exact ⟨tv, rfl, n, h.next r k, k⟩
def rs0 : Obj := .cells #[.slice none 0 0, .bool false, .int .i64 0, .int .i64 0, .bool false, .int .i64 0] 29
theorem Sg.start {w w1 w2 : World} {sb : Nat} (k1 : Kept w w1) (s2 : Sn w1.heap.size w2 sb (.slice none 0 0) 0 [] 0 0 false 0) (k2 : Kept w1 w2) (hsb : w1.heap.size ≤ sb) : Sg w (w2.alloc rs0) sb w2.heap.size (.slice none 0 0) (.slice none 0 0) [] false sc0 [] false sc0 := by
  have s3 := s2.on ((Same.refl _ w2).alloc rs0)
  have h1 := k1.size
  have h2 := k2.size
  have h3 := s2.lt
  refine ⟨at_start (Nat.zero_le _) Byts.nil ⟨s3.obj, Tl.nil _ _, s3.ne, s3.byts, s3.len, s3.cts⟩, Tl.nil _ _, heap_new w2 rs0, Nat.zero_le _, Nat.le_refl _, (k1.trans' k2).alloc _, by omega, by omega, by omega, fun k e => (by cases e), fun k e => (by cases e), fun k e => (by cases e)⟩
end Go.Proofs.Ytmajfclkhjnahaa
