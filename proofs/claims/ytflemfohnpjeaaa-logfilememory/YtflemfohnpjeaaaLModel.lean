/- What is proved: plain facts on a log: a reading of it as the document has it (place, count, foot, fault), what is written is read back, what is read is its one form; no condition. -/
import Derived.Test.YtflemfohnpjeaaaRModel
namespace Go.Proofs.Ytflemfohnpjeaaa
open Go.RowKit

/-- Where a reading stands. -/
structure Sc where
  pl : Nat
  ct : Nat
  ft : Bool
  er : Int
/-- An item at place p can't be read: it is waited for, or told. -/
def Sc.stop (s : Sc) (en : Bool) (p : Nat) (e : Int) : Sc := if e = 51 ∧ en = false then s else { s with pl := p, er := e }
def mg : List Int → List Int → Nat → Option (Nat × Int)
  | [], _, _ => none
  | _ :: _, [], p => some (p, 51)
  | x :: xs, y :: ys, p => if y = x then mg xs ys (p + 1) else some (p, 70)
def head4 : List Int := [80, 82, 79, 1]
def foot (d : List Int) (en : Bool) (s : Sc) : Sc :=
  let q := num 8 (d.drop (s.pl + 1))
  if q.2.2 ≠ 0 then s.stop en (s.pl + 1) q.2.2
  else if 4096 < q.1 then { s with pl := s.pl + 1, er := 53 }
  else if q.1 ≠ s.ct then { s with pl := s.pl + 1, er := 72 }
  else if s.pl + 1 + q.2.1 < d.length then { s with pl := s.pl + 1 + q.2.1, ft := true, er := 61 }
  else { s with pl := s.pl + 1 + q.2.1, ft := true }
def entry (d : List Int) (en : Bool) (s : Sc) : Option TxM × Sc :=
  let q := num 8 (d.drop s.pl)
  if q.2.2 ≠ 0 then (none, s.stop en s.pl q.2.2)
  else if 512 < q.1 then (none, { s with er := 53 })
  else if q.1 = 0 then (none, foot d en s)
  else if 4096 ≤ s.ct then (none, { s with er := 71 })
  else if d.length < s.pl + q.2.1 + q.1 then (none, s.stop en s.pl 51)
  else match decode ((d.drop (s.pl + q.2.1)).take q.1) with
    | .error (p, e) => (none, { s with pl := s.pl + q.2.1 + p, er := e })
    | .ok t => (some t, { s with pl := s.pl + q.2.1 + q.1, ct := s.ct + 1 })
def goOn (d : List Int) (en : Bool) (s : Sc) : Option TxM × Sc :=
  if s.ft then (if s.pl < d.length then (none, { s with er := 61 }) else (none, s)) else entry d en s
/-- What a Next answers (a transaction or none; the fault is the state's), and what it leaves. -/
def next7 (d : List Int) (en : Bool) (s : Sc) : Option TxM × Sc :=
  if s.er ≠ 0 then (none, s)
  else if s.pl = 0 then (match mg head4 d 0 with
    | some (p, e) => (none, s.stop en p e)
    | none => goOn d en { s with pl := 4 })
  else goOn d en s
def sc0 : Sc := ⟨0, 0, false, 0⟩
/-- All transactions from a state on, with the end said. -/
def all7 (d : List Int) : Nat → Sc → Except (Nat × Int) (List TxM)
  | 0, _ => .ok []
  | k + 1, s => match next7 d true s with
    | (some t, s') => (match all7 d k s' with
      | .error e => .error e
      | .ok l => .ok (t :: l))
    | (none, s') => if s'.er = 0 then .ok [] else .error (s'.pl, s'.er)
def dec7 (d : List Int) : Except (Nat × Int) (List TxM) := all7 d 4097 sc0
def ents : List TxM → List Int
  | [] => []
  | t :: l => form (body t).length ++ (body t ++ ents l)
def log7 (l : List TxM) : List Int := head4 ++ (ents l ++ 0 :: form l.length)

theorem mg_head (r : List Int) : mg head4 (head4 ++ r) 0 = none := by simp [mg, head4]
theorem mg_none {d : List Int} (h : mg head4 d 0 = none) : d = head4 ++ d.drop 4 := by
  match d, h with
  | [], h => simp [mg, head4] at h
  | [a], h =>
    simp only [mg, head4] at h
    split at h <;> simp at h
  | [a, b], h =>
    simp only [mg, head4] at h
    repeat (split at h <;> try simp at h)
  | [a, b, c], h =>
    simp only [mg, head4] at h
    repeat (split at h <;> try simp at h)
  | a :: b :: c :: e :: r, h =>
    simp only [mg, head4] at h
    split at h
    · split at h
      · split at h
        · split at h
          · simp_all [head4]
          · simp at h
        · simp at h
      · simp at h
    · simp at h
theorem mg_some {a d : List Int} {p z : Nat} {e : Int} (h : mg a d p = some (z, e)) : (e = 51 ∨ e = 70) ∧ p ≤ z ∧ z ≤ p + d.length := by
  induction a generalizing d p with
  | nil => cases h
  | cons x xs ih =>
    cases d with
    | nil =>
      simp only [mg, Option.some.injEq, Prod.mk.injEq] at h
      obtain ⟨rfl, rfl⟩ := h
      exact ⟨.inl rfl, Nat.le_refl _, by simp⟩
    | cons y ys =>
      simp only [mg] at h
      by_cases c : y = x
      · rw [if_pos c] at h
        have := ih h
        simp only [List.length_cons]
        omega
      · rw [if_neg c] at h
        simp only [Option.some.injEq, Prod.mk.injEq] at h
        obtain ⟨rfl, rfl⟩ := h
        exact ⟨.inr rfl, Nat.le_refl _, by simp⟩
/-- An entry that is there whole is read. -/
theorem entry_body {d : List Int} {en : Bool} {s : Sc} {t : TxM} {r : List Int} (ht : Right t) (hc : s.ct < 4096) (hd : d.drop s.pl = form (body t).length ++ (body t ++ r)) :
    entry d en s = (some t, { s with pl := s.pl + ((form (body t).length).length + (body t).length), ct := s.ct + 1 }) := by
  obtain ⟨l1, l2⟩ := body_len ht
  have hq : num 8 (d.drop s.pl) = ((body t).length, (form (body t).length).length, 0) := by rw [hd]; exact num_form _ (by decide) (by omega) (.inl rfl)
  have hl : (d.drop s.pl).length = (form (body t).length).length + ((body t).length + r.length) := by rw [hd]; simp
  rw [List.length_drop] at hl
  have hp := form_pos (body t).length
  have hdr : (d.drop (s.pl + (form (body t).length).length)).take (body t).length = body t := by
    rw [← List.drop_drop, hd, drop_self_append, List.take_left']
    rfl
  unfold entry
  simp only [hq]
  rw [if_neg (by simp), if_neg (by omega), if_neg (by omega), if_neg (by omega), if_neg (by omega), hdr, dec_body ht]
  simp only [Nat.add_assoc]
theorem foot_ok {d : List Int} {en : Bool} {s : Sc} (hc : s.ct ≤ 4096) (hd : d.drop s.pl = 0 :: form s.ct) :
    entry d en s = (none, { s with pl := d.length, ft := true }) := by
  have hq : num 8 (d.drop s.pl) = (0, 1, 0) := by rw [hd]; have := num_form (k := 8) (n := 0) (form s.ct) (by decide) (by decide) (.inl rfl); simpa [form_small] using this
  have hl : (d.drop s.pl).length = 1 + (form s.ct).length := by rw [hd]; simp; omega
  rw [List.length_drop] at hl
  have hd2 : d.drop (s.pl + 1) = form s.ct := by rw [← List.drop_drop, hd]; rfl
  have hq2 : num 8 (d.drop (s.pl + 1)) = (s.ct, (form s.ct).length, 0) := by
    rw [hd2]
    have := num_form (k := 8) (n := s.ct) [] (by decide) (by omega) (.inl rfl)
    simpa using this
  unfold entry
  simp only [hq]
  rw [if_neg (by simp), if_neg (by omega), if_pos trivial]
  unfold foot
  simp only [hq2]
  rw [if_neg (by simp), if_neg (by omega), if_neg (by simp), if_neg (by omega)]
  have : s.pl + 1 + (form s.ct).length = d.length := by omega
  rw [this]
theorem next_go {d : List Int} {en : Bool} {s : Sc} (h1 : s.er = 0) (h2 : s.pl ≠ 0) : next7 d en s = goOn d en s := by
  unfold next7
  rw [if_neg (by simpa using h1), if_neg h2]
theorem go_entry {d : List Int} {en : Bool} {s : Sc} (h : s.ft = false) : goOn d en s = entry d en s := by
  unfold goOn
  rw [h]
  rfl
theorem all_back {d : List Int} : ∀ {l : List TxM} {k : Nat} {s : Sc}, (∀ t ∈ l, Right t) → s.ct + l.length ≤ 4096 → l.length < k → s.er = 0 → s.pl ≠ 0 → s.ft = false → d.drop s.pl = ents l ++ 0 :: form (s.ct + l.length) → all7 d k s = .ok l := by
  intro l
  induction l with
  | nil =>
    intro k s _ hc hk h1 h2 h3 hd
    cases k with
    | zero => omega
    | succ k =>
      simp only [ents, List.nil_append, List.length_nil, Nat.add_zero] at hd hc
      unfold all7
      rw [next_go h1 h2, go_entry h3, foot_ok hc hd]
      simp [h1]
  | cons t l ih =>
    intro k s hr hc hk h1 h2 h3 hd
    cases k with
    | zero => simp at hk
    | succ k =>
      simp only [List.length_cons] at hc hk
      have hd' : d.drop s.pl = form (body t).length ++ (body t ++ (ents l ++ 0 :: form (s.ct + (l.length + 1)))) := by
        rw [hd]
        simp [ents]
      unfold all7
      rw [next_go h1 h2, go_entry h3, entry_body (hr t (by simp)) (by omega) hd']
      simp only
      have hi := ih (k := k) (s := ⟨s.pl + ((form (body t).length).length + (body t).length), s.ct + 1, s.ft, s.er⟩) (fun x hx => hr x (by simp [hx])) (by show s.ct + 1 + l.length ≤ 4096; omega) (by omega) h1 (by show s.pl + ((form (body t).length).length + (body t).length) ≠ 0; omega) h3 ?_
      · rw [hi]
      show d.drop (s.pl + ((form (body t).length).length + (body t).length)) = ents l ++ 0 :: form (s.ct + 1 + l.length)
      rw [← List.drop_drop, hd', ← List.append_assoc, show (form (body t).length).length + (body t).length = (form (body t).length ++ body t).length by simp, drop_self_append]
      congr 3
      omega
theorem next_start {d : List Int} {en : Bool} (h : mg head4 d 0 = none) : next7 d en sc0 = next7 d en ⟨4, 0, false, 0⟩ := by
  rw [next_go (s := ⟨4, 0, false, 0⟩) rfl (by decide)]
  unfold next7
  rw [if_neg (by simp [sc0]), if_pos (show sc0.pl = 0 from rfl), h]
  rfl
theorem all_start {d : List Int} {k : Nat} (h : mg head4 d 0 = none) : all7 d (k + 1) sc0 = all7 d (k + 1) ⟨4, 0, false, 0⟩ := by
  unfold all7
  rw [next_start h]
/-- What is written is read back. -/
theorem dec7_log {l : List TxM} (hr : ∀ t ∈ l, Right t) (hl : l.length ≤ 4096) : dec7 (log7 l) = .ok l := by
  unfold dec7
  rw [all_start (by rw [log7]; exact mg_head _)]
  exact all_back hr (by simp; omega) (by omega) rfl (by simp) rfl (by simp [log7, head4])
/-- An entry that was read. -/
theorem entry_one {d : List Int} {en : Bool} {s s' : Sc} {t : TxM} (hb : Byts d) (h : entry d en s = (some t, s')) : Right t ∧ s.ct < 4096 ∧ d.drop s.pl = form (body t).length ++ (body t ++ d.drop s'.pl) ∧ s' = ⟨s.pl + ((form (body t).length).length + (body t).length), s.ct + 1, s.ft, s.er⟩ := by
  unfold entry at h
  have h1 := num_one (k := 8) (l := d.drop s.pl) (Nat.le_refl _) (hb.drop _)
  revert h h1
  generalize hq : num 8 (d.drop s.pl) = q
  obtain ⟨n, z, e⟩ := q
  intro h h1
  simp only at h h1
  by_cases c1 : e ≠ 0
  · rw [if_pos c1] at h
    cases h
  rw [if_neg c1] at h
  obtain ⟨f1, f2, f3, -⟩ := h1 (by omega)
  by_cases c2 : 512 < n
  · rw [if_pos c2] at h
    cases h
  rw [if_neg c2] at h
  by_cases c3 : n = 0
  · rw [if_pos c3] at h
    cases h
  rw [if_neg c3] at h
  by_cases c4 : 4096 ≤ s.ct
  · rw [if_pos c4] at h
    cases h
  rw [if_neg c4] at h
  by_cases c5 : d.length < s.pl + z + n
  · rw [if_pos c5] at h
    cases h
  rw [if_neg c5] at h
  cases hd : decode ((d.drop (s.pl + z)).take n) with
  | error pe =>
    rw [hd] at h
    cases h
  | ok t' =>
    rw [hd] at h
    simp only [Prod.mk.injEq, Option.some.injEq] at h
    obtain ⟨rfl, rfl⟩ := h
    obtain ⟨r1, r2⟩ := dec_ok ((hb.drop _).take _) hd
    have hn : (body t').length = n := by rw [r2, List.length_take, List.length_drop]; omega
    have hz : (form n).length = z := by rw [f1, List.length_take]; omega
    refine ⟨r1, by omega, ?_, by rw [hn, hz, ← Nat.add_assoc]⟩
    rw [hn, r2, f1]
    show d.drop s.pl = _ ++ (_ ++ d.drop (s.pl + z + n))
    rw [← List.drop_drop (i := n), List.take_append_drop, ← List.drop_drop, List.take_append_drop]
/-- The foot that was read, with nothing behind it. -/
theorem entry_foot {d : List Int} {s s' : Sc} (hb : Byts d) (h0 : s.er = 0) (h : entry d true s = (none, s')) (he : s'.er = 0) : s.ct ≤ 4096 ∧ d.drop s.pl = 0 :: form s.ct ∧ s' = ⟨d.length, s.ct, true, 0⟩ := by
  unfold entry at h
  have h1 := num_one (k := 8) (l := d.drop s.pl) (Nat.le_refl _) (hb.drop _)
  revert h h1
  generalize hq : num 8 (d.drop s.pl) = q
  obtain ⟨n, z, e⟩ := q
  intro h h1
  simp only at h h1
  by_cases c1 : e ≠ 0
  · rw [if_pos c1] at h
    simp only [Prod.mk.injEq, true_and] at h
    subst h
    simp only [Sc.stop, Bool.true_eq_false, and_false, if_false] at he
    exact absurd he c1
  rw [if_neg c1] at h
  obtain ⟨f1, f2, f3, -⟩ := h1 (by omega)
  by_cases c2 : 512 < n
  · rw [if_pos c2] at h
    simp only [Prod.mk.injEq, true_and] at h
    subst h
    simp at he
  rw [if_neg c2] at h
  by_cases c3 : n = 0
  · rw [if_pos c3] at h
    simp only [Prod.mk.injEq, true_and] at h
    subst h
    subst c3
    have hz : z = 1 := by
      have : (form 0).length = z := by rw [f1, List.length_take]; omega
      rw [← this, form_small (by decide)]
      rfl
    subst hz
    have hd0 : d.drop s.pl = 0 :: d.drop (s.pl + 1) := by
      have : d.drop s.pl = (d.drop s.pl).take 1 ++ (d.drop s.pl).drop 1 := (List.take_append_drop _ _).symm
      rw [← f1, form_small (by decide), List.drop_drop] at this
      exact this
    unfold foot at he ⊢
    have g1 := num_one (k := 8) (l := d.drop (s.pl + 1)) (Nat.le_refl _) (hb.drop _)
    revert he g1
    generalize hq2 : num 8 (d.drop (s.pl + 1)) = q
    obtain ⟨n, z, e⟩ := q
    intro he g1
    simp only at he g1 ⊢
    by_cases b1 : e ≠ 0
    · rw [if_pos b1] at he
      simp only [Sc.stop, Bool.true_eq_false, and_false, if_false] at he
      exact absurd he b1
    rw [if_neg b1] at he ⊢
    obtain ⟨k1, k2, k3, -⟩ := g1 (by omega)
    by_cases b2 : 4096 < n
    · rw [if_pos b2] at he
      simp at he
    rw [if_neg b2] at he ⊢
    by_cases b3 : n ≠ s.ct
    · rw [if_pos b3] at he
      simp at he
    rw [if_neg b3] at he ⊢
    obtain rfl : n = s.ct := by omega
    by_cases b4 : s.pl + 1 + z < d.length
    · rw [if_pos b4] at he
      simp at he
    rw [if_neg b4] at he ⊢
    rw [List.length_drop] at k2 f2
    have hlen : s.pl + 1 + z = d.length := by omega
    refine ⟨by omega, ?_, by rw [hlen, h0]⟩
    rw [hd0, k1, List.take_of_length_le (by rw [List.length_drop]; omega)]
  rw [if_neg c3] at h
  by_cases c4 : 4096 ≤ s.ct
  · rw [if_pos c4] at h
    simp only [Prod.mk.injEq, true_and] at h
    subst h
    simp at he
  rw [if_neg c4] at h
  by_cases c5 : d.length < s.pl + z + n
  · rw [if_pos c5] at h
    simp only [Prod.mk.injEq, true_and] at h
    subst h
    simp [Sc.stop] at he
  rw [if_neg c5] at h
  cases hd : decode ((d.drop (s.pl + z)).take n) with
  | error pe =>
    obtain ⟨p, e2⟩ := pe
    rw [hd] at h
    simp only [Prod.mk.injEq, true_and] at h
    subst h
    simp only at he
    have := (dec_err ((hb.drop _).take _) hd).2.1
    omega
  | ok t' =>
    rw [hd] at h
    cases h
theorem all_one {d : List Int} (hb : Byts d) : ∀ {k : Nat} {s : Sc} {l : List TxM}, 4097 ≤ s.ct + k → s.ct ≤ 4096 → s.er = 0 → s.pl ≠ 0 → s.ft = false → all7 d k s = .ok l → (∀ t ∈ l, Right t) ∧ s.ct + l.length ≤ 4096 ∧ d.drop s.pl = ents l ++ 0 :: form (s.ct + l.length) := by
  intro k
  induction k with
  | zero => intro s l hk hc; omega
  | succ k ih =>
    intro s l hk hc h1 h2 h3 h
    unfold all7 at h
    rw [next_go h1 h2, go_entry h3] at h
    cases he : entry d true s with
    | mk o s' =>
      rw [he] at h
      cases o with
      | none =>
        simp only at h
        by_cases c : s'.er = 0
        · rw [if_pos c] at h
          cases h
          obtain ⟨e1, e2, -⟩ := entry_foot hb h1 he c
          exact ⟨fun t ht => (by cases ht), by simpa using e1, by simpa [ents] using e2⟩
        · rw [if_neg c] at h
          cases h
      | some t =>
        simp only at h
        obtain ⟨e1, e2, e3, e4⟩ := entry_one hb he
        cases ha : all7 d k s' with
        | error e =>
          rw [ha] at h
          cases h
        | ok l' =>
          rw [ha] at h
          cases h
          have hs : s'.ct = s.ct + 1 ∧ s'.er = s.er ∧ s'.ft = s.ft ∧ s'.pl ≠ 0 := by rw [e4]; exact ⟨rfl, rfl, rfl, by show s.pl + _ ≠ 0; omega⟩
          obtain ⟨i1, i2, i3⟩ := ih (s := s') (by omega) (by omega) (by rw [hs.2.1]; exact h1) hs.2.2.2 (by rw [hs.2.2.1]; exact h3) ha
          refine ⟨fun x hx => ?_, by simp only [List.length_cons]; omega, ?_⟩
          · rcases List.mem_cons.1 hx with rfl | hx
            · exact e1
            · exact i1 x hx
          · rw [e3, i3, hs.1]
            simp only [ents, List.length_cons, List.append_assoc]
            rw [show s.ct + 1 + l'.length = s.ct + (l'.length + 1) by omega]
/-- What is read is its one form. -/
theorem dec7_one {d : List Int} (hb : Byts d) {l : List TxM} (h : dec7 d = .ok l) : (∀ t ∈ l, Right t) ∧ l.length ≤ 4096 ∧ log7 l = d := by
  unfold dec7 at h
  cases hm : mg head4 d 0 with
  | some pe =>
    obtain ⟨p, e⟩ := pe
    have hpe := mg_some hm
    unfold all7 next7 at h
    rw [if_neg (by simp [sc0]), if_pos (show sc0.pl = 0 from rfl), hm] at h
    simp only [Sc.stop, Bool.true_eq_false, and_false, if_false] at h
    rw [if_neg (by omega)] at h
    cases h
  | none =>
    rw [all_start hm] at h
    obtain ⟨h1, h2, h3⟩ := all_one hb (by decide) (by decide) rfl (by decide) rfl h
    simp only [Nat.zero_add] at h2 h3
    refine ⟨h1, h2, ?_⟩
    rw [log7, ← h3]
    exact (mg_none hm).symm
end Go.Proofs.Ytflemfohnpjeaaa
