/- What is proved: Alloc of one block, Free of one block, Left and New of a space as plain lists of used blocks tell them, and Drop; the space lies in memory. -/
import Derived.Test.YtpjkmficpedmcaaSRdr
import Derived.Test.YtpjkmficpedmcaaECnt
namespace Go.Proofs.Ytpjkmficpedmcaa
open Go.RowKit

/-- A space in memory, its blocks with the tag 2; u: which of its blocks are used. -/
def SpT (o : Nat → Nat) (w : World) (sp : Nat) (u : List Bool) : Prop :=
  ∃ L a hb c, Sp w sp u.length L a hb c ∧ o hb = 2 ∧ o sp = 2 ∧ ∀ b : Int, Mm b L ↔ 0 ≤ b ∧ u[b.toNat]? = some false
theorem SpT.on {S : Nat → Prop} {o o' : Nat → Nat} {w w' : World} {sp : Nat} {u : List Bool} (h : SpT o w sp u) (hs : Step S o w o' w') (h2 : ¬ S 2) : SpT o' w' sp u := by
  obtain ⟨L, a, hb, c, h, h3, h4, h5⟩ := h
  exact ⟨L, a, hb, c, h.kept hs.same (by rw [h4]; exact h2) (by rw [h3]; exact h2), (hs.tag _ h.ltb).trans h3, (hs.tag _ h.lt).trans h4, h5⟩
theorem SpT.lt {o : Nat → Nat} {w : World} {sp : Nat} {u : List Bool} (h : SpT o w sp u) : sp < w.heap.size ∧ o sp = 2 := by
  obtain ⟨L, a, hb, c, h, h3, h4, h5⟩ := h
  exact ⟨h.lt, h4⟩
theorem SpT.small {o : Nat → Nat} {w : World} {sp : Nat} {u : List Bool} (h : SpT o w sp u) : u.length ≤ 4096 := by
  obtain ⟨L, a, hb, c, h, _⟩ := h
  exact h.small
theorem SpT.upd {o : Nat → Nat} {w w' : World} {sp : Nat} {u u' : List Bool} {L' : List Ex} {hb : Nat} (hsp : sp < w.heap.size) (hhb : hb < w.heap.size) (h2 : o hb = 2) (h3 : o sp = 2) (hU : Upd w sp u.length hb L' w') (hl : u'.length = u.length) (hm : ∀ b : Int, Mm b L' ↔ 0 ≤ b ∧ u'[b.toNat]? = some false) :
    SpT (tagN w 2 o) w' sp u' ∧ Step (fun n => n = 2) o w (tagN w 2 o) w' := by
  obtain ⟨a', hb', c', q1, q2, q3⟩ := hU
  refine ⟨⟨L', a', hb', c', by rw [hl]; exact q1, ?_, (tagN_old hsp).trans h3, hm⟩, q3.mono fun k _ e => ?_, fun k hk => tagN_old hk⟩
  · rcases q2 with rfl | q2
    · exact (tagN_old hhb).trans h2
    · exact tagN_new q2
  · rcases e with rfl | rfl
    · exact h3
    · exact h2

def AlP (o : Nat → Nat) (w : World) (sp : Nat) (u : List Bool) (x : Ending) (w' : World) : Prop :=
  (low u = none ∧ x = .returned (.tuple #[exV ⟨0, 0⟩, .int .i64 42]) ∧ Kept w w') ∨
  ∃ i, low u = some i ∧ x = .returned (.tuple #[exV ⟨i, 1⟩, .int .i64 0]) ∧ ∃ o', SpT o' w' sp (u.set i true) ∧ Step (fun n => n = 2) o w o' w'
theorem al_any {o : Nat → Nat} {w : World} {sp : Nat} {u : List Bool} (h : SpT o w sp u) : Calls Try.prog 29 #[.pointer (some ⟨sp, 0, none⟩), .int .i64 1] w (AlP o w sp u) := by
  obtain ⟨L, a, hb, c, h, h3, h4, h5⟩ := h
  refine Calls.mono (alloc_any h 1) ?_
  rintro r w' (⟨q1, q2, q3⟩ | ⟨q1, q2, q3, q4⟩ | ⟨q1, i, g, L', q2, q3, q4, q5, q6, q7⟩)
  · omega
  · refine .inl ⟨low_none.2 fun b hb' => ?_, q3, q4⟩
    cases hu : u[b]? with
    | none => rw [List.getElem?_eq_none_iff] at hu; omega
    | some x =>
      cases x with
      | true => rfl
      | false =>
        obtain ⟨e, he, -⟩ := (h5 b).2 ⟨by omega, by simpa using hu⟩
        have := h.wf.mem he
        have := q2 e he
        omega
  · have hi : i = 0 := by
      cases i with
      | zero => rfl
      | succ i =>
        cases L with
        | nil => simp at q2
        | cons e r =>
          have := q3 e (by simp)
          have := h.wf.mem (e := e) (by simp)
          omega
    subst hi
    cases L with
    | nil => simp at q2
    | cons e r =>
      simp only [List.getElem?_cons_zero, Option.some.injEq] at q2
      subst q2
      obtain ⟨w1, w2, w3, w4⟩ := h.wf
      obtain ⟨n, hn⟩ := Int.eq_ofNat_of_zero_le w1
      have hlow : low u = some n := by
        refine low_some.2 ⟨?_, fun j hj => ?_⟩
        · have := ((h5 e.f).1 ⟨e, by simp, Int.le_refl _, by omega⟩).2
          rw [hn] at this
          simpa using this
        · have hlt : (n : Int) < u.length := by omega
          cases hu : u[j]? with
          | none => rw [List.getElem?_eq_none_iff] at hu; omega
          | some x =>
            cases x with
            | true => rfl
            | false =>
              have := h.wf.mm ((h5 j).2 ⟨by omega, by simpa using hu⟩)
              have hm := (h5 j).2 ⟨by omega, by simpa using hu⟩
              rcases (mm_cons _ _ _).1 hm with hm | hm
              · omega
              · have := w4.mm hm
                omega
      rw [hn] at q5 q7
      obtain ⟨r1, r2⟩ := SpT.upd (o := o) (u' := u.set n true) h.lt h.ltb h3 h4 q6 (by simp) fun b => by
        rw [q7 b, h5 b]
        constructor
        · rintro ⟨⟨b0, b1⟩, b2⟩
          refine ⟨b0, ?_⟩
          rw [List.getElem?_set_ne (by omega)]
          exact b1
        · rintro ⟨b0, b1⟩
          have hne : n ≠ b.toNat := fun e' => by
            rw [← e', List.getElem?_set_self (by omega)] at b1
            cases b1
          rw [List.getElem?_set_ne hne] at b1
          exact ⟨⟨b0, b1⟩, by omega⟩
      exact .inr ⟨n, hlow, q5, _, r1, r2⟩

def FrP (o : Nat → Nat) (w : World) (sp : Nat) (u : List Bool) (b : Int) (x : Ending) (w' : World) : Prop :=
  x = .returned (.int .i64 (free1 u b).1) ∧ ∃ o', SpT o' w' sp (free1 u b).2 ∧ Step (fun n => n = 2) o w o' w'
theorem fr_any {o : Nat → Nat} {w : World} {sp : Nat} {u : List Bool} (h : SpT o w sp u) (b : Int) (hb' : b ≤ 9223372036854775807) : Calls Try.prog 40 #[.pointer (some ⟨sp, 0, none⟩), .agg #[.int .i64 b, .int .i64 1]] w (FrP o w sp u b) := by
  have h0 := h
  obtain ⟨L, a, hb, c, h, h3, h4, h5⟩ := h
  have hn : ∀ b : Int, NoneF ⟨b, 1⟩ L ↔ ¬ Mm b L := fun b => ⟨fun hh => hh b (Int.le_refl _) (by show b < b + 1; omega), fun hh b' b1 b2 => by
    have : b' = b := by
      simp only at b1 b2
      omega
    rw [this]
    exact hh⟩
  refine Calls.mono (free_any h ⟨b, 1⟩ hb') ?_
  rintro r w' (⟨q1, q2, q3⟩ | ⟨q1, q2, q3, q4⟩ | ⟨q1, q2, q3, L', q4, q5⟩)
  · have hc : b < 0 ∨ (u.length : Int) ≤ b := by simp only at q1; omega
    unfold FrP free1
    rw [if_pos hc]
    exact ⟨q2, o, h0.on (Step.kept (S := fun n => n = 3) q3) (by decide), Step.kept q3⟩
  · have hc : ¬ (b < 0 ∨ (u.length : Int) ≤ b) := by simp only at q1; omega
    have hm : Mm b L := Classical.not_not.1 fun hh => q2 ((hn b).2 hh)
    have hu := ((h5 b).1 hm).2
    unfold FrP free1
    rw [if_neg hc, if_pos (by rw [List.getD_eq_getElem?_getD, hu]; rfl)]
    exact ⟨q3, o, h0.on (Step.kept (S := fun n => n = 3) q4) (by decide), Step.kept q4⟩
  · have hc : ¬ (b < 0 ∨ (u.length : Int) ≤ b) := by simp only at q1; omega
    have hm : ¬ Mm b L := (hn b).1 q2
    have hlt : b.toNat < u.length := by omega
    have hu : u[b.toNat]? = some true := by
      cases hx : u[b.toNat]? with
      | none => rw [List.getElem?_eq_none_iff] at hx; omega
      | some x =>
        cases x with
        | true => rfl
        | false => exact absurd ((h5 b).2 ⟨by omega, hx⟩) hm
    unfold FrP free1
    rw [if_neg hc, if_neg (by rw [List.getD_eq_getElem?_getD, hu]; simp)]
    obtain ⟨r1, r2⟩ := SpT.upd (o := o) (u' := u.set b.toNat false) h.lt h.ltb h3 h4 q4 (by simp) fun b' => by
      rw [q5 b', h5 b']
      constructor
      · rintro (⟨b0, b1⟩ | b1)
        · refine ⟨b0, ?_⟩
          by_cases e : b.toNat = b'.toNat
          · rw [← e, List.getElem?_set_self hlt]
          · rw [List.getElem?_set_ne e]; exact b1
        · have : b' = b := by simp only at b1; omega
          subst this
          exact ⟨by omega, List.getElem?_set_self hlt⟩
      · rintro ⟨b0, b1⟩
        by_cases e : b.toNat = b'.toNat
        · right
          simp only
          omega
        · rw [List.getElem?_set_ne e] at b1
          exact .inl ⟨b0, b1⟩
    exact ⟨q3, _, r1, r2⟩

/-- How many blocks are free. -/
def fcnt (u : List Bool) : Nat := u.countP (fun x => !x)
theorem cnt_free : ∀ (n : Nat) (u : List Bool) (P : Int → Bool), n ≤ u.length → (∀ b : Nat, b < n → (P b = true ↔ u[b]? = some false)) → cnt P n = ((u.take n).countP (fun x => !x) : Nat)
  | 0, u, P, _, _ => by simp [cnt]
  | n + 1, u, P, hn, h => by
    have ih := cnt_free n u P (by omega) fun b hb => h b (by omega)
    have hg : u[n]? = some u[n] := List.getElem?_eq_getElem (by omega)
    rw [List.take_add_one, hg, List.countP_append]
    have hb := h n (by omega)
    rw [hg] at hb
    simp only [cnt, ih]
    cases hx : u[n] with
    | true =>
      rw [hx] at hb
      have : P (n : Int) = false := by
        cases hp : P (n : Int) with
        | false => rfl
        | true => have := hb.1 hp; simp at this
      simp [this]
    | false =>
      rw [hx] at hb
      have : P (n : Int) = true := hb.2 rfl
      simp [this]
def NwP (o : Nat → Nat) (w : World) (N : Nat) (x : Ending) (w' : World) : Prop :=
  ∃ sp, x = .returned (.tuple #[.pointer (some ⟨sp, 0, none⟩), .int .i64 0]) ∧ SpT (tagN w 2 o) w' sp (List.replicate N false) ∧ Kept w w' ∧ w.heap.size ≤ sp
theorem nw_any (o : Nat → Nat) (N : Nat) (hN : N ≤ 4096) (w : World) : Calls Try.prog 6 #[.int .i64 (N : Int)] w (NwP o w N) := by
  refine Calls.mono (enew_yes N hN w) ?_
  rintro x w' ⟨p, L, a, hb, c, h1, h2, h3, h4, h5, h6⟩
  refine ⟨p, h1, ⟨L, a, hb, c, by simpa using h2, tagN_new h5, tagN_new h4, fun b => ?_⟩, h6, h4⟩
  rw [h3 b]
  constructor
  · rintro ⟨b0, b1⟩
    refine ⟨b0, ?_⟩
    rw [List.getElem?_replicate, if_pos (by omega)]
  · rintro ⟨b0, b1⟩
    refine ⟨b0, ?_⟩
    rw [List.getElem?_replicate] at b1
    split at b1
    · omega
    · cases b1

def fileV (a : Option Addr) (n c : Nat) (s : Int) : Value := .agg #[.slice a n c, .int .i64 s]
def DropP (o : Nat → Nat) (w : World) (sp : Nat) (u : List Bool) (l : List Int) (x : Ending) (w' : World) : Prop :=
  x = .returned (.int .i64 (drops l u).1) ∧ ∃ o', SpT o' w' sp (drops l u).2 ∧ Step (fun n => n = 2) o w o' w'
/-- While blocks are given back. -/
def DropL (o : Nat → Nat) (w : World) (sp : Nat) (u : List Bool) (l : List Int) (e i : Value) (wr : World) : Prop :=
  ∃ (j : Nat) (ow : Nat → Nat), j ≤ l.length ∧ i = .int .i64 j ∧ e = .int .i64 (drops (l.take j) u).1 ∧ SpT ow wr sp (drops (l.take j) u).2 ∧ Step (fun n => n = 2) o w ow wr
theorem drops_take {l : List Int} {j : Nat} {b : Int} (h : l[j]? = some b) (u : List Bool) : drops (l.take (j + 1)) u = (if (drops (l.take j) u).1 = 0 then (free1 (drops (l.take j) u).2 b).1 else (drops (l.take j) u).1, (free1 (drops (l.take j) u).2 b).2) := by
  rw [List.take_add_one, h]
  show drops (l.take j ++ [b]) u = _
  rw [drops_app]
  simp only [drops]
  by_cases h0 : (drops (l.take j) u).1 = 0
  · rw [if_pos h0, if_pos h0]
    by_cases h1 : (free1 (drops (l.take j) u).2 b).1 = 0
    · rw [if_pos h1, h1]
    · rw [if_neg h1]
  · rw [if_neg h0, if_neg h0]

set_option maxRecDepth 100000 in
set_option maxHeartbeats 1600000 in
theorem drop_any {o : Nat → Nat} {w : World} {sp : Nat} {u : List Bool} (h : SpT o w sp u) (a : Option Addr) (c : Nat) (s : Int) (l : List Int) (hl : NumsAt w a l) (ht : ∀ k, InB a l.length k → o k ≠ 2) (hlen : l.length ≤ 4611686018427387903) (hb : ∀ b ∈ l, b ≤ 9223372036854775807) :
    Calls Try.prog 34 #[.pointer (some ⟨sp, 0, none⟩), fileV a l.length c s] w (DropP o w sp u l) := by
  unfold fileV
  have st0 : Step (fun n => n = 2) o w o (w.alloc (.cells #[.slice a l.length c, .int .i64 s] 39)) := Step.kept ((Same.refl _ w).alloc _)
  have HST : Hid (DropL o w sp u l (.int .i64 0) (.int .i64 0) (w.alloc (.cells #[.slice a l.length c, .int .i64 s] 39))) := ⟨0, o, Nat.zero_le _, rfl, rfl, h.on (Step.kept (S := fun n => n = 3) ((Same.refl _ w).alloc _)) (by decide), st0⟩
  obtain ⟨n, en⟩ : ∃ n, n = l.length := ⟨_, rfl⟩
  have HN : Hid _ := en
  have HL : Hid _ := And.intro hl (And.intro ht hb)
  rw [← en] at hlen HST ⊢
  clear h hl ht hb en st0
  go_enter Try.func34, Try.ntmps34
  go_wp2_with fail
  go_loopw [5, 12] (fun e i wr => DropL o w sp u l e i wr) (fun _ i _ => n - (intOf i).toNat)
  case atStart => exact HST.out
  case round =>
    obtain ⟨j, ow, hj, rfl, rfl, h1, h2⟩ := hrel
    obtain ⟨hl, ht, hb⟩ := HL.out
    rw [← HN.out] at hj
    by_cases hjn : j < n
    · have hjn2 : (j : Int) < (n : Int) := by omega
      obtain ⟨b, hg⟩ : ∃ b, l[j]? = some b := ⟨_, List.getElem?_eq_getElem (by rw [← HN.out]; exact hjn)⟩
      obtain ⟨nb, off, ea, hnb, hcell⟩ := hl j b hg
      have hib : InB a l.length nb := ⟨by rw [← HN.out]; omega, off, ea⟩
      have hc : wr.cell? ⟨nb, off + j, none⟩ = some (.int .i64 b) := (h2.same.cell (p := ⟨nb, off + j, none⟩) hnb (ht nb hib)).trans hcell
      have hlb : nb < wr.heap.size := Nat.lt_of_lt_of_le hnb h2.same.size
      have HF : Hid _ := fr_any h1 b (hb b (List.mem_of_getElem? hg))
      have HG : Hid _ := And.intro hg h2
      obtain ⟨e0, ee0⟩ : ∃ e0, e0 = (drops (l.take j) u).1 := ⟨_, rfl⟩
      have HE0 : Hid _ := ee0
      rw [← ee0]
      obtain ⟨u1, eu1⟩ : ∃ u1, u1 = (drops (l.take j) u).2 := ⟨_, rfl⟩
      have HU1 : Hid _ := eu1
      rw [← eu1] at HF
      subst ea
      clear hl ht hb h1 h2 hg hib hcell ee0 eu1
      by_cases h0 : e0 = 0
      · have d0 : (e0 == 0) = true := by simpa using h0
        go_wp2_with fail
        refine Calls.mono HF.out ?_
        rintro x w1 ⟨rfl, o1, q1, q2⟩
        have HQ : Hid _ := And.intro q1 q2
        clear q1 q2
        go_wp2_with fail
        go_roundw
        case rel =>
          obtain ⟨hg, h2⟩ := HG.out
          obtain ⟨q1, q2⟩ := HQ.out
          have hd := drops_take hg u
          rw [← HE0.out, ← HU1.out, if_pos h0] at hd
          exact ⟨j + 1, o1, by rw [← HN.out]; exact hjn, by rw [Int.natCast_add]; rfl, by rw [hd], by rw [hd]; exact q1, h2.trans q2⟩
        case measure => simp only [intOf]; omega
      · have d0 : (e0 == 0) = false := by simpa using h0
        go_wp2_with fail
        refine Calls.mono HF.out ?_
        rintro x w1 ⟨rfl, o1, q1, q2⟩
        have HQ : Hid _ := And.intro q1 q2
        clear q1 q2
        go_wp2_with fail
        go_roundw
        case rel =>
          obtain ⟨hg, h2⟩ := HG.out
          obtain ⟨q1, q2⟩ := HQ.out
          have hd := drops_take hg u
          rw [← HE0.out, ← HU1.out, if_neg h0] at hd
          exact ⟨j + 1, o1, by rw [← HN.out]; exact hjn, by rw [Int.natCast_add]; rfl, by rw [hd], by rw [hd]; exact q1, h2.trans q2⟩
        case measure => simp only [intOf]; omega
    · have ej : j = l.length := by have := HN.out; omega
      have HQ : Hid _ := And.intro h1 h2
      clear hl ht hb h1 h2
      go_wp2_with fail
      go_ret
      obtain ⟨h1, h2⟩ := HQ.out
      rw [ej, List.take_length] at h1 ⊢
      exact ⟨rfl, ow, h1, h2⟩
end Go.Proofs.Ytpjkmficpedmcaa
