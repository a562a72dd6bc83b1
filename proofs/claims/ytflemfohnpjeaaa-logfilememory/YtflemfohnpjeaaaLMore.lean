/- What is proved: plain facts on a log that is read in pieces: what is told stays told whatever follows, what is waited for is read when more has come; a log cut short, a log with a tail; no condition. -/
import Derived.Test.YtflemfohnpjeaaaLModel
namespace Go.Proofs.Ytflemfohnpjeaaa
open Go.RowKit

theorem num_more {k : Nat} {r : List Int} (h : (num k r).2.2 ≠ 51) (x : List Int) : num k (r ++ x) = num k r := by
  induction k generalizing r with
  | zero => simp only [num]
  | succ k ih =>
    cases r with
    | nil => simp [num] at h
    | cons y r =>
      simp only [num, List.cons_append] at h ⊢
      by_cases c : 128 ≤ y
      · rw [if_pos c] at h
        rw [if_pos c, if_pos c]
        have h2 : (num k r).2.2 ≠ 51 := by
          by_cases c2 : (num k r).2.2 = 0
          · omega
          · rw [if_neg c2] at h
            exact h
        rw [ih h2]
      · rw [if_neg c, if_neg c]
theorem drop_more {d : List Int} {p : Nat} (h : p ≤ d.length) (x : List Int) : (d ++ x).drop p = d.drop p ++ x := List.drop_append_of_le_length h
/-- The three ways of an entry: waited for; told or read for good; the foot with nothing behind it yet. -/
theorem entry_kinds {d : List Int} {s : Sc} (hb : Byts d) (h0 : s.er = 0) (hp : s.pl ≤ d.length) :
    (∃ p, p ≤ d.length ∧ entry d false s = (none, s) ∧ entry d true s = (none, { s with pl := p, er := 51 })) ∨
    (∃ R : Option TxM × Sc, (R.1 ≠ none ∨ R.2.er ≠ 0) ∧ (R.1 ≠ none → R.2.er = 0 ∧ R.2.ft = s.ft ∧ R.2.pl ≠ 0) ∧ R.2.pl ≤ d.length ∧ ∀ x en, entry (d ++ x) en s = R) ∨
    (∀ x en, entry (d ++ x) en s = (none, ⟨d.length, s.ct, true, if x = [] then 0 else 61⟩)) := by
  have h1 := num_one (k := 8) (l := d.drop s.pl) (Nat.le_refl _) (hb.drop _)
  have hm := num_more (k := 8) (r := d.drop s.pl)
  revert h1 hm
  generalize hq : num 8 (d.drop s.pl) = q
  obtain ⟨n, z, e⟩ := q
  intro h1 hm
  simp only at h1 hm
  by_cases c0 : e = 51
  · subst c0
    refine .inl ⟨s.pl, hp, ?_, ?_⟩
    · unfold entry
      simp only [hq]
      rw [if_pos (by decide)]
      simp [Sc.stop]
    · unfold entry
      simp only [hq]
      rw [if_pos (by decide)]
      simp [Sc.stop]
  have hqx : ∀ x, num 8 ((d ++ x).drop s.pl) = (n, z, e) := fun x => by rw [drop_more hp, hm c0]
  by_cases c1 : e ≠ 0
  · refine .inr (.inl ⟨(none, { s with er := e }), .inr c1, fun h => absurd rfl h, hp, fun x en => ?_⟩)
    unfold entry
    simp only [hqx]
    rw [if_pos c1]
    simp [Sc.stop, c0]
  obtain ⟨f1, f2, f3, -⟩ := h1 (by omega)
  rw [List.length_drop] at f2
  by_cases c2 : 512 < n
  · refine .inr (.inl ⟨(none, { s with er := 53 }), .inr (by simp), fun h => absurd rfl h, hp, fun x en => ?_⟩)
    unfold entry
    simp only [hqx]
    rw [if_neg c1, if_pos c2]
  by_cases c3 : n = 0
  · have hx : ∀ x en, entry (d ++ x) en s = (none, foot (d ++ x) en s) := fun x en => by
      unfold entry
      simp only [hqx]
      rw [if_neg c1, if_neg c2, if_pos c3]
    have hd : ∀ en, entry d en s = (none, foot d en s) := fun en => by have := hx [] en; rwa [List.append_nil] at this
    have g1 := num_one (k := 8) (l := d.drop (s.pl + 1)) (Nat.le_refl _) (hb.drop _)
    have gm := num_more (k := 8) (r := d.drop (s.pl + 1))
    revert g1 gm
    generalize hq2 : num 8 (d.drop (s.pl + 1)) = q
    obtain ⟨m, y, e2⟩ := q
    intro g1 gm
    simp only at g1 gm
    by_cases b0 : e2 = 51
    · subst b0
      refine .inl ⟨s.pl + 1, by omega, ?_, ?_⟩
      · rw [hd]
        unfold foot
        simp only [hq2]
        rw [if_pos (by decide)]
        simp [Sc.stop]
      · rw [hd]
        unfold foot
        simp only [hq2]
        rw [if_pos (by decide)]
        simp [Sc.stop]
    have gqx : ∀ x, num 8 ((d ++ x).drop (s.pl + 1)) = (m, y, e2) := fun x => by rw [drop_more (by omega), gm b0]
    by_cases b1 : e2 ≠ 0
    · refine .inr (.inl ⟨(none, { s with pl := s.pl + 1, er := e2 }), .inr b1, fun h => absurd rfl h, by show s.pl + 1 ≤ _; omega, fun x en => ?_⟩)
      rw [hx]
      unfold foot
      simp only [gqx]
      rw [if_pos b1]
      simp [Sc.stop, b0]
    obtain ⟨k1, k2, k3, -⟩ := g1 (by omega)
    rw [List.length_drop] at k2
    by_cases b2 : 4096 < m
    · refine .inr (.inl ⟨(none, { s with pl := s.pl + 1, er := 53 }), .inr (by simp), fun h => absurd rfl h, by show s.pl + 1 ≤ _; omega, fun x en => ?_⟩)
      rw [hx]
      unfold foot
      simp only [gqx]
      rw [if_neg b1, if_pos b2]
    by_cases b3 : m ≠ s.ct
    · refine .inr (.inl ⟨(none, { s with pl := s.pl + 1, er := 72 }), .inr (by simp), fun h => absurd rfl h, by show s.pl + 1 ≤ _; omega, fun x en => ?_⟩)
      rw [hx]
      unfold foot
      simp only [gqx]
      rw [if_neg b1, if_neg b2, if_pos b3]
    by_cases b4 : s.pl + 1 + y < d.length
    · refine .inr (.inl ⟨(none, { s with pl := s.pl + 1 + y, ft := true, er := 61 }), .inr (by simp), fun h => absurd rfl h, by show s.pl + 1 + y ≤ _; omega, fun x en => ?_⟩)
      rw [hx]
      unfold foot
      simp only [gqx]
      rw [if_neg b1, if_neg b2, if_neg b3, if_pos (by rw [List.length_append]; omega)]
    · refine .inr (.inr fun x en => ?_)
      have hl : s.pl + 1 + y = d.length := by omega
      rw [hx]
      unfold foot
      simp only [gqx]
      rw [if_neg b1, if_neg b2, if_neg b3, hl]
      by_cases hx0 : x = []
      · subst hx0
        simp [h0]
      · have : 0 < x.length := List.length_pos_iff.2 hx0
        rw [if_pos (by rw [List.length_append]; omega), if_neg hx0]
  by_cases c4 : 4096 ≤ s.ct
  · refine .inr (.inl ⟨(none, { s with er := 71 }), .inr (by simp), fun h => absurd rfl h, hp, fun x en => ?_⟩)
    unfold entry
    simp only [hqx]
    rw [if_neg c1, if_neg c2, if_neg c3, if_pos c4]
  by_cases c5 : d.length < s.pl + z + n
  · refine .inl ⟨s.pl, hp, ?_, ?_⟩
    · unfold entry
      simp only [hq]
      rw [if_neg c1, if_neg c2, if_neg c3, if_neg c4, if_pos c5]
      simp [Sc.stop]
    · unfold entry
      simp only [hq]
      rw [if_neg c1, if_neg c2, if_neg c3, if_neg c4, if_pos c5]
      simp [Sc.stop]
  have hdx : ∀ x, ((d ++ x).drop (s.pl + z)).take n = (d.drop (s.pl + z)).take n := fun x => by
    rw [drop_more (by omega), List.take_append_of_le_length (by rw [List.length_drop]; omega)]
  cases hd : decode ((d.drop (s.pl + z)).take n) with
  | error pe =>
    obtain ⟨p, e2⟩ := pe
    obtain ⟨j1, j2, -⟩ := dec_err ((hb.drop _).take _) hd
    rw [List.length_take, List.length_drop] at j1
    refine .inr (.inl ⟨(none, { s with pl := s.pl + z + p, er := e2 }), .inr (by show e2 ≠ 0; omega), fun h => absurd rfl h, by show s.pl + z + p ≤ _; omega, fun x en => ?_⟩)
    unfold entry
    simp only [hqx]
    rw [if_neg c1, if_neg c2, if_neg c3, if_neg c4, if_neg (by rw [List.length_append]; omega), hdx, hd]
  | ok t =>
    refine .inr (.inl ⟨(some t, { s with pl := s.pl + z + n, ct := s.ct + 1 }), .inl (by simp), fun _ => ⟨h0, rfl, by show s.pl + z + n ≠ 0; omega⟩, by show s.pl + z + n ≤ _; omega, fun x en => ?_⟩)
    unfold entry
    simp only [hqx]
    rw [if_neg c1, if_neg c2, if_neg c3, if_neg c4, if_neg (by rw [List.length_append]; omega), hdx, hd]
/-- A fault that is no end stays whatever follows. -/
theorem all_ext {d : List Int} (hb : Byts d) : ∀ {k : Nat} {s : Sc} {p : Nat} {e : Int}, s.er = 0 → s.pl ≠ 0 → s.ft = false → s.pl ≤ d.length → all7 d k s = .error (p, e) → p ≤ d.length ∧ (e = 51 ∨ ∀ x, all7 (d ++ x) k s = .error (p, e)) := by
  intro k
  induction k with
  | zero => intro s p e _ _ _ _ h; cases h
  | succ k ih =>
    intro s p e h1 h2 h3 h4 h
    unfold all7 at h
    rw [next_go h1 h2, go_entry h3] at h
    rcases entry_kinds hb h1 h4 with ⟨q, hq, -, he⟩ | ⟨R, hr, hr2, hr3, he⟩ | he
    · rw [he] at h
      simp only at h
      rw [if_neg (by decide)] at h
      cases h
      exact ⟨hq, .inl rfl⟩
    · have hd := he [] true
      rw [List.append_nil] at hd
      rw [hd] at h
      obtain ⟨o, s'⟩ := R
      cases o with
      | none =>
        simp only at h hr hr3
        have hne : s'.er ≠ 0 := by
          rcases hr with h | h
          · exact absurd rfl h
          · exact h
        rw [if_neg hne] at h
        cases h
        refine ⟨hr3, .inr fun x => ?_⟩
        rw [all7, next_go h1 h2, go_entry h3, he x true]
        simp only
        rw [if_neg hne]
      | some t =>
        obtain ⟨i1, i2, i3⟩ := hr2 (by simp)
        simp only at h i1 i2 i3 hr3
        cases ha : all7 d k s' with
        | ok l =>
          rw [ha] at h
          cases h
        | error pe =>
          rw [ha] at h
          simp only [Except.error.injEq] at h
          subst h
          obtain ⟨a1, a2⟩ := ih i1 i3 (by rw [i2]; exact h3) hr3 ha
          refine ⟨a1, a2.imp id fun a2 x => ?_⟩
          rw [all7, next_go h1 h2, go_entry h3, he x true]
          simp only
          rw [a2 x]
    · have hd := he [] true
      rw [List.append_nil] at hd
      rw [hd] at h
      simp at h
theorem all_tail {d : List Int} (hb : Byts d) {x : List Int} (hx : x ≠ []) : ∀ {k : Nat} {s : Sc} {l : List TxM}, 4097 ≤ s.ct + k → s.ct ≤ 4096 → s.er = 0 → s.pl ≠ 0 → s.ft = false → s.pl ≤ d.length → all7 d k s = .ok l → all7 (d ++ x) k s = .error (d.length, 61) := by
  intro k
  induction k with
  | zero => intro s l hk hc; omega
  | succ k ih =>
    intro s l hk hc h1 h2 h3 h4 h
    unfold all7 at h
    rw [next_go h1 h2, go_entry h3] at h
    rw [all7, next_go h1 h2, go_entry h3]
    rcases entry_kinds hb h1 h4 with ⟨q, hq, -, he⟩ | ⟨R, hr, hr2, hr3, he⟩ | he
    · rw [he] at h
      simp only at h
      rw [if_neg (by decide)] at h
      cases h
    · have hd := he [] true
      rw [List.append_nil] at hd
      rw [he x true]
      obtain ⟨o, s'⟩ := R
      cases o with
      | none =>
        rw [hd] at h
        simp only at h hr
        rw [if_neg (by rcases hr with h | h; exact absurd rfl h; exact h)] at h
        cases h
      | some t =>
        obtain ⟨i1, i2, i3⟩ := hr2 (by simp)
        obtain ⟨-, o2, -, o4⟩ := entry_one hb hd
        rw [hd] at h
        simp only at h i1 i2 i3 hr3 ⊢
        cases ha : all7 d k s' with
        | error e =>
          rw [ha] at h
          cases h
        | ok l' =>
          have hct : s'.ct = s.ct + 1 := by rw [o4]
          rw [ih (by omega) (by omega) i1 i3 (by rw [i2]; exact h3) hr3 ha]
    · rw [he x true]
      simp only
      rw [if_neg hx, if_neg (by decide)]
theorem mg_more {a d : List Int} {p : Nat} (x : List Int) : (mg a d p = none → mg a (d ++ x) p = none) ∧ (∀ z, mg a d p = some (z, 70) → mg a (d ++ x) p = some (z, 70)) := by
  induction a generalizing d p with
  | nil => exact ⟨fun _ => rfl, fun z h => by cases h⟩
  | cons y ys ih =>
    cases d with
    | nil => exact ⟨fun h => (by simp [mg] at h), fun z h => (by simp [mg] at h)⟩
    | cons b r =>
      simp only [mg, List.cons_append]
      by_cases c : b = y
      · rw [if_pos c, if_pos c]
        exact ih
      · rw [if_neg c, if_neg c]
        exact ⟨fun h => (by cases h), fun z h => h⟩
theorem dec7_start {d : List Int} : (∃ p e, mg head4 d 0 = some (p, e) ∧ (e = 51 ∨ e = 70) ∧ p ≤ d.length ∧ dec7 d = .error (p, e)) ∨ (mg head4 d 0 = none ∧ 4 ≤ d.length ∧ dec7 d = all7 d 4097 ⟨4, 0, false, 0⟩) := by
  cases hm : mg head4 d 0 with
  | some pe =>
    obtain ⟨p, e⟩ := pe
    have hpe := mg_some hm
    refine .inl ⟨p, e, rfl, hpe.1, by omega, ?_⟩
    unfold dec7 all7 next7
    rw [if_neg (by simp [sc0]), if_pos (show sc0.pl = 0 from rfl), hm]
    simp only [Sc.stop, Bool.true_eq_false, and_false, if_false]
    rw [if_neg (by omega)]
  | none =>
    refine .inr ⟨rfl, ?_, all_start hm⟩
    have := congrArg List.length (mg_none hm)
    simp [head4] at this
    omega
/-- A fault that is no end stays whatever follows. -/
theorem dec7_ext {d : List Int} (hb : Byts d) {p : Nat} {e : Int} (h : dec7 d = .error (p, e)) : p ≤ d.length ∧ (e = 51 ∨ ∀ x, dec7 (d ++ x) = .error (p, e)) := by
  rcases dec7_start (d := d) with ⟨p', e', hm, he, hp, h2⟩ | ⟨hm, hl, h2⟩
  · rw [h2] at h
    cases h
    refine ⟨hp, he.imp id fun he x => ?_⟩
    subst he
    rcases dec7_start (d := d ++ x) with ⟨p', e', hm', he', hp', h2'⟩ | ⟨hm', -⟩
    · rw [(mg_more x).2 _ hm] at hm'
      cases hm'
      exact h2'
    · rw [(mg_more x).2 _ hm] at hm'
      cases hm'
  · rw [h2] at h
    obtain ⟨a1, a2⟩ := all_ext hb rfl (by decide) rfl hl h
    refine ⟨a1, a2.imp id fun a2 x => ?_⟩
    unfold dec7
    rw [all_start ((mg_more x).1 hm)]
    exact a2 x
theorem dec7_tail {d : List Int} (hb : Byts d) {l : List TxM} (h : dec7 d = .ok l) {x : List Int} (hx : x ≠ []) : dec7 (d ++ x) = .error (d.length, 61) := by
  rcases dec7_start (d := d) with ⟨p', e', hm, he, hp, h2⟩ | ⟨hm, hl, h2⟩
  · rw [h2] at h
    cases h
  · rw [h2] at h
    unfold dec7
    rw [all_start ((mg_more x).1 hm)]
    exact all_tail hb hx (by decide) (by decide) rfl (by decide) rfl hl h
/-- A log cut short. -/
theorem dec7_cut {d : List Int} (hb : Byts d) {l : List TxM} (h : dec7 d = .ok l) {c : Nat} (hc : c < d.length) : ∃ p, p ≤ c ∧ dec7 (d.take c) = .error (p, 51) := by
  have hs : d = d.take c ++ d.drop c := (List.take_append_drop _ _).symm
  have hx : d.drop c ≠ [] := fun e => by have := congrArg List.length e; rw [List.length_drop] at this; simp at this; omega
  cases hd : dec7 (d.take c) with
  | ok l' =>
    have := dec7_tail (hb.take c) hd hx
    rw [← hs, h] at this
    cases this
  | error pe =>
    obtain ⟨p, e⟩ := pe
    obtain ⟨a1, a2⟩ := dec7_ext (hb.take c) hd
    rcases a2 with rfl | a2
    · exact ⟨p, by rw [List.length_take] at a1; omega, rfl⟩
    · have := a2 (d.drop c)
      rw [← hs, h] at this
      cases this
theorem entry_place {d : List Int} {en : Bool} {s s' : Sc} {o : Option TxM} (hp : s.pl ≠ 0) (h : entry d en s = (o, s')) : s'.pl ≠ 0 := by
  have hst : ∀ (s : Sc) (p : Nat) (e : Int), s.pl ≠ 0 → p ≠ 0 → (s.stop en p e).pl ≠ 0 := fun s p e h1 h2 => by
    unfold Sc.stop
    split
    · exact h1
    · exact h2
  unfold entry at h
  simp only at h
  repeat' split at h
  all_goals cases h
  any_goals exact hp
  any_goals exact hst s s.pl _ hp hp
  any_goals (show _ + _ ≠ 0; omega)
  unfold foot
  simp only
  repeat' split
  any_goals exact hst s _ _ hp (by omega)
  all_goals (show _ + _ ≠ 0; omega)
theorem go_foot {d : List Int} {en : Bool} {s : Sc} (h : s.ft = true) : goOn d en s = if s.pl < d.length then (none, { s with er := 61 }) else (none, s) := by
  unfold goOn
  rw [if_pos h]
/-- A reading ahead of the end: what it answers stays; what it waits for is read when more has come. -/
theorem go_more {d : List Int} {s s' : Sc} {o : Option TxM} (hb : Byts d) (h0 : s.er = 0) (hp : s.pl ≤ d.length) (hp0 : s.pl ≠ 0) (h : goOn d false s = (o, s')) :
    s'.pl ≤ d.length ∧ s'.pl ≠ 0 ∧ (o ≠ none → s'.er = 0) ∧ ((o ≠ none ∨ s'.er ≠ 0) → ∀ x en, goOn (d ++ x) en s = (o, s')) ∧ (o = none → s'.er = 0 → ∀ x en, goOn (d ++ x) en s = goOn (d ++ x) en s') := by
  by_cases hf : s.ft = true
  · rw [go_foot hf] at h
    by_cases c : s.pl < d.length
    · rw [if_pos c] at h
      cases h
      refine ⟨hp, hp0, fun h => absurd rfl h, fun _ x en => ?_, fun _ h => by simp at h⟩
      rw [go_foot hf, if_pos (by rw [List.length_append]; omega)]
    · rw [if_neg c] at h
      cases h
      exact ⟨hp, hp0, fun h => absurd rfl h, fun h => by simp [h0] at h, fun _ _ x en => rfl⟩
  · have hf : s.ft = false := by simpa using hf
    rw [go_entry hf] at h
    rcases entry_kinds hb h0 hp with ⟨q, hq, he, -⟩ | ⟨R, hr, hr2, hr3, he⟩ | he
    · rw [he] at h
      cases h
      exact ⟨hp, hp0, fun h => absurd rfl h, fun h => by simp [h0] at h, fun _ _ x en => rfl⟩
    · have hd := he [] false
      rw [List.append_nil, h] at hd
      subst hd
      refine ⟨hr3, ?_, fun h => (hr2 h).1, fun _ x en => by rw [go_entry hf]; exact he x en, fun e1 e2 => ?_⟩
      · exact entry_place hp0 h
      · rcases hr with hr | hr
        · exact absurd e1 hr
        · exact absurd e2 hr
    · have hd := he [] false
      rw [List.append_nil, h, if_pos rfl] at hd
      cases hd
      refine ⟨Nat.le_refl _, by show d.length ≠ 0; omega, fun h => absurd rfl h, fun h => by simp at h, fun _ _ x en => ?_⟩
      rw [go_entry hf, he x en, go_foot rfl]
      by_cases hx : x = []
      · subst hx
        rw [if_pos rfl, if_neg (by simp)]
      · have : 0 < x.length := List.length_pos_iff.2 hx
        rw [if_neg hx, if_pos (by show d.length < (d ++ x).length; rw [List.length_append]; omega)]
/-- A Next ahead of the end: what it answers stays; what it waits for is read when more has come. -/
theorem next_more {d : List Int} {s s' : Sc} {o : Option TxM} (hb : Byts d) (hp : s.pl ≤ d.length) (h : next7 d false s = (o, s')) :
    s'.pl ≤ d.length ∧ ((o ≠ none ∨ s'.er ≠ 0) → ∀ x en, next7 (d ++ x) en s = (o, s')) ∧ (o = none → s'.er = 0 → ∀ x en, next7 (d ++ x) en s = next7 (d ++ x) en s') := by
  by_cases h0 : s.er = 0
  · by_cases hp0 : s.pl = 0
    · unfold next7 at h
      rw [if_neg (by simpa using h0), if_pos hp0] at h
      cases hm : mg head4 d 0 with
      | some pe =>
        obtain ⟨p, e⟩ := pe
        have hpe := mg_some hm
        rw [hm] at h
        simp only at h
        rcases hpe.1 with rfl | rfl
        · simp only [Sc.stop, and_self, if_true] at h
          cases h
          exact ⟨hp, fun h => by simp [h0] at h, fun _ _ x en => rfl⟩
        · simp only [Sc.stop] at h
          rw [if_neg (by simp)] at h
          cases h
          refine ⟨by show p ≤ d.length; omega, fun _ x en => ?_, fun _ h => by simp at h⟩
          unfold next7
          rw [if_neg (by simpa using h0), if_pos hp0, (mg_more x).2 _ hm]
          simp [Sc.stop]
      | none =>
        rw [hm] at h
        simp only at h
        have hl : 4 ≤ d.length := by
          have := congrArg List.length (mg_none hm)
          simp [head4] at this
          omega
        have hst : ∀ x en, next7 (d ++ x) en s = goOn (d ++ x) en { s with pl := 4 } := fun x en => by
          unfold next7
          rw [if_neg (by simpa using h0), if_pos hp0, (mg_more x).1 hm]
        obtain ⟨a1, a2, a3, a4, a5⟩ := go_more (s := { s with pl := 4 }) hb h0 hl (by show 4 ≠ 0; decide) h
        refine ⟨a1, fun c x en => (hst x en).trans (a4 c x en), fun c1 c2 x en => ?_⟩
        rw [hst x en, a5 c1 c2 x en, next_go c2 a2]
    · rw [next_go h0 hp0] at h
      obtain ⟨a1, a2, a3, a4, a5⟩ := go_more hb h0 hp hp0 h
      refine ⟨a1, fun c x en => (next_go h0 hp0).trans (a4 c x en), fun c1 c2 x en => ?_⟩
      rw [next_go h0 hp0, a5 c1 c2 x en, next_go c2 a2]
  · have hx : ∀ d en, next7 d en s = (none, s) := fun d en => by
      unfold next7
      rw [if_pos h0]
    rw [hx] at h
    cases h
    exact ⟨hp, fun _ x en => hx _ _, fun _ c => absurd c h0⟩
end Go.Proofs.Ytflemfohnpjeaaa
