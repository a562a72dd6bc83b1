/- What is proved: plain facts on a log that is fed in pieces: what was read so far, and what the whole's reading is from there on; no condition. -/
import Derived.Test.YtflemfohnpjeaaaLMore
namespace Go.Proofs.Ytflemfohnpjeaaa
open Go.RowKit

def mapL (g : List TxM) : Except (Nat × Int) (List TxM) → Except (Nat × Int) (List TxM)
  | .error e => .error e
  | .ok l => .ok (g ++ l)
theorem mapL_mapL (g h : List TxM) (r : Except (Nat × Int) (List TxM)) : mapL g (mapL h r) = mapL (g ++ h) r := by
  cases r with
  | error e => rfl
  | ok l => simp [mapL]
theorem all7_some {d : List Int} {k : Nat} {s s' : Sc} {t : TxM} (h : next7 d true s = (some t, s')) : all7 d (k + 1) s = mapL [t] (all7 d k s') := by
  rw [all7, h]
  simp only
  cases all7 d k s' with
  | error e => rfl
  | ok l => rfl
theorem all7_none {d : List Int} {k : Nat} {s s' : Sc} (h : next7 d true s = (none, s')) : all7 d (k + 1) s = if s'.er = 0 then .ok [] else .error (s'.pl, s'.er) := by
  rw [all7, h]
theorem stop_ct (s : Sc) (en : Bool) (p : Nat) (e : Int) : (s.stop en p e).ct = s.ct := by
  unfold Sc.stop
  split <;> rfl
theorem foot_ct (d : List Int) (en : Bool) (s : Sc) : (foot d en s).ct = s.ct := by
  unfold foot
  simp only
  repeat' split
  all_goals first | exact stop_ct .. | rfl
theorem entry_none_ct {d : List Int} {en : Bool} {s s' : Sc} (h : entry d en s = (none, s')) : s'.ct = s.ct := by
  unfold entry at h
  simp only at h
  repeat' split at h
  all_goals cases h
  all_goals first | exact stop_ct .. | exact foot_ct .. | rfl
theorem next_cts {d : List Int} {en : Bool} {s s' : Sc} {o : Option TxM} (hb : Byts d) (h : next7 d en s = (o, s')) : (o = none → s'.ct = s.ct) ∧ (o ≠ none → s'.ct = s.ct + 1 ∧ s.ct < 4096) := by
  have hg : ∀ s : Sc, goOn d en s = (o, s') → (o = none → s'.ct = s.ct) ∧ (o ≠ none → s'.ct = s.ct + 1 ∧ s.ct < 4096) := fun s h => by
    by_cases hf : s.ft = true
    · rw [go_foot hf] at h
      split at h
      · cases h
        exact ⟨fun _ => rfl, fun c => absurd rfl c⟩
      · cases h
        exact ⟨fun _ => rfl, fun c => absurd rfl c⟩
    · rw [go_entry (by simpa using hf)] at h
      cases o with
      | none => exact ⟨fun _ => entry_none_ct h, fun c => absurd rfl c⟩
      | some t =>
        obtain ⟨-, a, -, b⟩ := entry_one hb h
        refine ⟨fun c => (by cases c), fun _ => ⟨?_, a⟩⟩
        rw [b]
  unfold next7 at h
  split at h
  · cases h
    exact ⟨fun _ => rfl, fun c => absurd rfl c⟩
  · split at h
    · split at h
      · cases h
        exact ⟨fun _ => stop_ct .., fun c => absurd rfl c⟩
      · exact hg { s with pl := 4 } h
    · exact hg s h
/-- The bytes d were fed, the transactions g were read of them, the reading stands at s. -/
def Fed (d : List Int) (g : List TxM) (s : Sc) : Prop := s.ct = g.length ∧ s.ct ≤ 4096 ∧ s.pl ≤ d.length ∧ ∀ x k, all7 (d ++ x) (g.length + k) sc0 = mapL g (all7 (d ++ x) k s)
theorem Fed.start : Fed [] [] sc0 := ⟨rfl, by decide, Nat.le_refl _, fun x k => by
  rw [List.length_nil, Nat.zero_add]
  cases all7 ([] ++ x) k sc0 with
  | error e => rfl
  | ok l => rfl⟩
theorem Fed.feed {d : List Int} {g : List TxM} {s : Sc} (h : Fed d g s) (y : List Int) : Fed (d ++ y) g s := ⟨h.1, h.2.1, by rw [List.length_append]; exact Nat.le_trans h.2.2.1 (Nat.le_add_right _ _), fun x k => by rw [List.append_assoc]; exact h.2.2.2 (y ++ x) k⟩
theorem Fed.some {d : List Int} {g : List TxM} {s s' : Sc} {t : TxM} (hb : Byts d) (h : Fed d g s) (hn : next7 d false s = (some t, s')) : Fed d (g ++ [t]) s' := by
  obtain ⟨h1, h2, h3, h4⟩ := h
  obtain ⟨a1, a2, -⟩ := next_more hb h3 hn
  obtain ⟨c1, c2⟩ := (next_cts hb hn).2 (by simp)
  refine ⟨by rw [List.length_append]; simp only [List.length_singleton]; omega, by omega, a1, fun x k => ?_⟩
  rw [List.length_append, List.length_singleton, Nat.add_assoc, h4, Nat.add_comm 1 k, all7_some (a2 (.inl (by simp)) x true), mapL_mapL]
theorem Fed.wait {d : List Int} {g : List TxM} {s s' : Sc} (hb : Byts d) (h : Fed d g s) (hn : next7 d false s = (none, s')) (he : s'.er = 0) : Fed d g s' := by
  obtain ⟨h1, h2, h3, h4⟩ := h
  obtain ⟨a1, -, a3⟩ := next_more hb h3 hn
  have c := (next_cts hb hn).1 rfl
  refine ⟨by omega, by omega, a1, fun x k => ?_⟩
  rw [h4]
  cases k with
  | zero => rfl
  | succ k =>
    rw [all7, all7, a3 rfl he x true]
/-- A fault ahead of the end is what the whole's reading tells, whatever follows. -/
theorem Fed.told {d : List Int} {g : List TxM} {s s' : Sc} (hb : Byts d) (h : Fed d g s) (hn : next7 d false s = (none, s')) (he : s'.er ≠ 0) (x : List Int) : dec7 (d ++ x) = .error (s'.pl, s'.er) := by
  obtain ⟨h1, h2, h3, h4⟩ := h
  obtain ⟨a1, a2, -⟩ := next_more hb h3 hn
  unfold dec7
  have e : 4097 = g.length + ((4096 - g.length) + 1) := by omega
  rw [e, h4, all7_none (a2 (.inr he) x true), if_neg he]
  rfl
/-- The end is said: what is told then is what the whole's reading tells. -/
theorem Fed.ended {d : List Int} {g : List TxM} {s s' : Sc} (h : Fed d g s) (hn : next7 d true s = (none, s')) : dec7 d = if s'.er = 0 then .ok g else .error (s'.pl, s'.er) := by
  obtain ⟨h1, h2, h3, h4⟩ := h
  unfold dec7
  have e : 4097 = g.length + ((4096 - g.length) + 1) := by omega
  have h5 := h4 [] ((4096 - g.length) + 1)
  rw [List.append_nil] at h5
  rw [e, h5, all7_none hn]
  split
  · simp [mapL]
  · rfl
theorem entry_en {d : List Int} {s s' : Sc} {t : TxM} (hb : Byts d) (h0 : s.er = 0) (hp : s.pl ≤ d.length) (h : entry d true s = (some t, s')) : entry d false s = (some t, s') := by
  rcases entry_kinds hb h0 hp with ⟨q, -, -, he⟩ | ⟨R, -, -, -, he⟩ | he
  · rw [he] at h
    cases h
  · have h1 := he [] true
    have h2 := he [] false
    rw [List.append_nil] at h1 h2
    rw [h2, ← h1, h]
  · have h1 := he [] true
    rw [List.append_nil, h] at h1
    cases h1
/-- A transaction is answered with the end said as without. -/
theorem next_en {d : List Int} {s s' : Sc} {t : TxM} (hb : Byts d) (hp : s.pl ≤ d.length) (h : next7 d true s = (some t, s')) : next7 d false s = (some t, s') := by
  have hg : ∀ s : Sc, s.er = 0 → s.pl ≤ d.length → goOn d true s = (some t, s') → goOn d false s = (some t, s') := fun s h0 hp h => by
    by_cases hf : s.ft = true
    · rw [go_foot hf] at h
      split at h <;> cases h
    · rw [go_entry (by simpa using hf)] at h ⊢
      exact entry_en hb h0 hp h
  unfold next7 at h ⊢
  by_cases h0 : s.er ≠ 0
  · rw [if_pos h0] at h
    cases h
  rw [if_neg h0] at h ⊢
  have h0 : s.er = 0 := by simpa using h0
  by_cases hp0 : s.pl = 0
  · rw [if_pos hp0] at h ⊢
    cases hm : mg head4 d 0 with
    | some pe =>
      rw [hm] at h
      cases h
    | none =>
      rw [hm] at h
      have := congrArg List.length (mg_none hm)
      simp [head4] at this
      exact hg { s with pl := 4 } h0 (by show 4 ≤ d.length; omega) h
  · rw [if_neg hp0] at h ⊢
    exact hg s h0 hp h
theorem byts_ents (l : List TxM) : Byts (ents l) := by
  induction l with
  | nil => exact Byts.nil
  | cons t l ih => exact (byts_form _).append ((byts_body t).append ih)
theorem byts_log (l : List TxM) : Byts (log7 l) := by
  refine Byts.append (fun x hx => ?_) ((byts_ents l).append (Byts.cons (by decide) (byts_form _)))
  simp only [head4, List.mem_cons, List.not_mem_nil, or_false] at hx
  omega
theorem form_two {n : Nat} (h : n < 16384) : (form n).length ≤ 2 := form_le (by decide) (by omega)
theorem ents_len {l : List TxM} (h : ∀ t ∈ l, Right t) : (ents l).length ≤ 466 * l.length ∧ 9 * l.length ≤ (ents l).length := by
  induction l with
  | nil => exact ⟨Nat.le_refl _, Nat.le_refl _⟩
  | cons t l ih =>
    obtain ⟨i1, i2⟩ := ih fun x hx => h x (by simp [hx])
    obtain ⟨b1, b2⟩ := body_len (h t (by simp))
    have f := form_two (n := (body t).length) (by omega)
    have f2 := form_pos (body t).length
    simp only [ents, List.length_append, List.length_cons]
    omega
theorem log_len {l : List TxM} (h : ∀ t ∈ l, Right t) (hl : l.length ≤ 4096) : (log7 l).length ≤ 1908743 ∧ 6 ≤ (log7 l).length := by
  obtain ⟨i1, i2⟩ := ents_len h
  have f := form_two (n := l.length) (by omega)
  have f2 := form_pos l.length
  simp only [log7, head4, List.length_append, List.length_cons, List.length_nil]
  omega
/-- One transaction too many. -/
theorem all_over {d : List Int} {n : Nat} {r : List Int} (h1 : 1 ≤ n) (h2 : n ≤ 512) : ∀ {l : List TxM} {k : Nat} {s : Sc}, (∀ t ∈ l, Right t) → s.ct + l.length = 4096 → l.length < k → s.er = 0 → s.pl ≠ 0 → s.ft = false → d.drop s.pl = ents l ++ (form n ++ r) → all7 d k s = .error (s.pl + (ents l).length, 71) := by
  intro l
  induction l with
  | nil =>
    intro k s _ hc hk h3 h4 h5 hd
    cases k with
    | zero => omega
    | succ k =>
      simp only [ents, List.nil_append, List.length_nil, Nat.add_zero] at hd hc ⊢
      have hq : num 8 (d.drop s.pl) = (n, (form n).length, 0) := by rw [hd]; exact num_form _ (by decide) (by omega) (.inl rfl)
      rw [all7, next_go h3 h4, go_entry h5]
      unfold entry
      simp only [hq]
      rw [if_neg (by simp), if_neg (by omega), if_neg (by omega), if_pos (by omega)]
      simp
  | cons t l ih =>
    intro k s hr hc hk h3 h4 h5 hd
    cases k with
    | zero => simp at hk
    | succ k =>
      simp only [List.length_cons] at hc hk
      have hd' : d.drop s.pl = form (body t).length ++ (body t ++ (ents l ++ (form n ++ r))) := by
        rw [hd]
        simp [ents]
      rw [all7, next_go h3 h4, go_entry h5, entry_body (hr t (by simp)) (by omega) hd']
      simp only
      have hi := ih (k := k) (s := ⟨s.pl + ((form (body t).length).length + (body t).length), s.ct + 1, s.ft, s.er⟩) (fun x hx => hr x (by simp [hx])) (by show s.ct + 1 + l.length = 4096; omega) (by omega) h3 (by show s.pl + ((form (body t).length).length + (body t).length) ≠ 0; omega) h5 ?_
      · rw [hi]
        simp only [ents, List.length_append, Nat.add_assoc]
      show d.drop (s.pl + ((form (body t).length).length + (body t).length)) = ents l ++ (form n ++ r)
      rw [← List.drop_drop, hd', ← List.append_assoc, show (form (body t).length).length + (body t).length = (form (body t).length ++ body t).length by simp, drop_self_append]
theorem dec7_over {n : Nat} {r : List Int} (h1 : 1 ≤ n) (h2 : n ≤ 512) {l : List TxM} (hr : ∀ t ∈ l, Right t) (hl : l.length = 4096) : dec7 (head4 ++ (ents l ++ (form n ++ r))) = .error (4 + (ents l).length, 71) := by
  unfold dec7
  rw [all_start (mg_head _)]
  exact all_over (r := r) h1 h2 hr (by simpa using hl) (by omega) rfl (by decide) rfl (by simp [head4])
end Go.Proofs.Ytflemfohnpjeaaa
