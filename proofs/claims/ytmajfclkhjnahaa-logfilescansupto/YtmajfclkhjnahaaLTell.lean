/- What is proved: a scanner's Count and Finished; what a reading that ended stands at; no condition. -/
import Derived.Test.YtmajfclkhjnahaaLDecode
namespace Go.Proofs.Ytmajfclkhjnahaa
open Go.RowKit

section
variable {base : Nat} {w : World} {sb : Nat} {v : Value} {part : Int} {r : List Int} {rd ct : Nat} {en : Bool} {er : Int}
set_option maxRecDepth 100000 in
theorem scount_any (h : Sn base w sb v part r rd ct en er) : Calls Try.prog 22 #[.pointer (some ⟨sb, 0, none⟩)] w fun e w' => e = .returned (.int .i64 (ct : Int)) ∧ w' = w := by
  obtain ⟨-, -, -, c3, -, -⟩ := h.cells
  clear h
  go_enter Try.func22, Try.ntmps22
  go_wp2
  go_ret
  exact ⟨rfl, rfl⟩
set_option maxRecDepth 100000 in
theorem sfin_any (h : Sn base w sb v part r rd ct en er) : Calls Try.prog 23 #[.pointer (some ⟨sb, 0, none⟩)] w fun e w' => e = .returned (.bool (decide (part = 2 ∧ en = true ∧ r.length = 0))) ∧ w' = w := by
  obtain ⟨a, c, rfl, -⟩ := h.row.bytes
  obtain ⟨c0, c1, -, -, c4, -⟩ := h.cells
  have hlt := h.lt
  obtain ⟨n, en'⟩ : ∃ n, n = r.length := ⟨_, rfl⟩
  rw [← en'] at c1 ⊢
  clear h en'
  by_cases hp : part = 2
  · subst hp
    cases en with
    | true =>
      by_cases hn : n = 0
      · subst hn
        go_enter Try.func23, Try.ntmps23
        go_wp2_with fail
        go_ret
        exact ⟨rfl, rfl⟩
      · have hn' : ((n : Int) == 0) = false := by simpa using fun c => hn (by omega)
        have e : decide ((2 : Int) = 2 ∧ true = true ∧ n = 0) = false := decide_eq_false (fun c => hn c.2.2)
        rw [e]
        clear e hn
        go_enter Try.func23, Try.ntmps23
        go_wp2_with fail
        go_ret
        exact ⟨rfl, rfl⟩
    | false =>
      go_enter Try.func23, Try.ntmps23
      go_wp2_with fail
      go_ret
      exact ⟨by simp, rfl⟩
  · have hp' : (part == 2) = false := by simpa using hp
    have e : decide (part = 2 ∧ en = true ∧ n = 0) = false := decide_eq_false (fun c => hp c.1)
    rw [e]
    clear e hp
    go_enter Try.func23, Try.ntmps23
    go_wp2_with fail
    go_ret
    exact ⟨rfl, rfl⟩
end
/-- The end was said and nothing is told: the whole was read. -/
theorem next_end {d : List Int} {s s' : Sc} (hb : Byts d) (hp : s.pl ≤ d.length) (h : next7 d true s = (none, s')) (he : s'.er = 0) : s'.ft = true ∧ s'.pl = d.length ∧ s'.ct = s.ct := by
  have hg : ∀ s : Sc, s.er = 0 → s.pl ≤ d.length → goOn d true s = (none, s') → s'.ft = true ∧ s'.pl = d.length ∧ s'.ct = s.ct := fun s h0 hp h => by
    by_cases hf : s.ft = true
    · rw [go_foot hf] at h
      split at h
      · cases h
        cases he
      · cases h
        exact ⟨hf, by omega, rfl⟩
    · rw [go_entry (by simpa using hf)] at h
      obtain ⟨-, -, e⟩ := entry_foot hb h0 h he
      rw [e]
      exact ⟨rfl, rfl, rfl⟩
  unfold next7 at h
  by_cases h0 : s.er ≠ 0
  · rw [if_pos h0] at h
    cases h
    exact absurd he h0
  rw [if_neg h0] at h
  have h0 : s.er = 0 := by simpa using h0
  split at h
  · split at h
    · rename_i heq
      have hm := mg_some heq
      cases h
      exfalso
      revert he
      simp only [Sc.stop, Bool.true_eq_false, and_false, if_false]
      omega
    · rename_i heq
      have h4 : 4 ≤ d.length := by
        have := congrArg List.length (mg_none heq)
        simp [head4] at this
        omega
      exact hg { s with pl := 4 } h0 h4 h
  · exact hg s h0 hp h
/-- No more transactions than bytes. -/
theorem next_ctp {d : List Int} {en : Bool} {s s' : Sc} {o : Option TxM} (hb : Byts d) (hp : s.pl ≤ d.length) (hc : s.ct ≤ s.pl) (h : next7 d en s = (o, s')) (ho : o ≠ none ∨ s'.er = 0) : s'.ct ≤ s'.pl := by
  have he : ∀ s : Sc, s.er = 0 → s.ct ≤ s.pl → s.pl ≤ d.length → entry d en s = (o, s') → s'.ct ≤ s'.pl := fun s h0 hc hp h => by
    cases o with
    | some t =>
      obtain ⟨-, -, -, e⟩ := entry_one hb h
      rw [e]
      have := form_pos (body t).length
      show s.ct + 1 ≤ s.pl + _
      omega
    | none =>
      have h1 := entry_none_ct h
      rw [h1]
      have he : s'.er = 0 := ho.resolve_left (fun c => c rfl)
      rcases entry_kinds hb h0 hp with ⟨q, -, hq1, hq2⟩ | ⟨R, hR1, -, -, hR⟩ | hq
      · cases en with
        | false =>
          rw [hq1] at h
          cases h
          exact hc
        | true =>
          rw [hq2] at h
          cases h
          cases he
      · have h2 := hR [] en
        rw [List.append_nil, h] at h2
        subst h2
        rcases hR1 with c | c
        · exact absurd rfl c
        · exact absurd he c
      · have h2 := hq [] en
        rw [List.append_nil, h] at h2
        cases h2
        exact Nat.le_trans hc hp
  have hg : ∀ s : Sc, s.er = 0 → s.ct ≤ s.pl → s.pl ≤ d.length → goOn d en s = (o, s') → s'.ct ≤ s'.pl := fun s h0 hc hp h => by
    by_cases hf : s.ft = true
    · rw [go_foot hf] at h
      split at h <;> cases h <;> exact hc
    · rw [go_entry (by simpa using hf)] at h
      exact he s h0 hc hp h
  unfold next7 at h
  by_cases h0 : s.er ≠ 0
  · rw [if_pos h0] at h
    cases h
    exact hc
  rw [if_neg h0] at h
  have h0 : s.er = 0 := by simpa using h0
  split at h
  · rename_i hp0
    split at h
    · cases h
      rw [stop_ct]
      omega
    · rename_i heq
      have h4 : 4 ≤ d.length := by
        have := congrArg List.length (mg_none heq)
        simp [head4] at this
        omega
      exact hg { s with pl := 4 } h0 (by show s.ct ≤ 4; omega) h4 h
  · exact hg s h0 hc hp h
/-- What is read to its end is read so without the end said. -/
theorem next_en0 {d : List Int} {s s' : Sc} (hb : Byts d) (hp : s.pl ≤ d.length) (h : next7 d true s = (none, s')) (he : s'.er = 0) : next7 d false s = (none, s') := by
  have hg : ∀ s : Sc, s.er = 0 → s.pl ≤ d.length → goOn d true s = (none, s') → goOn d false s = (none, s') := fun s h0 hp h => by
    by_cases hf : s.ft = true
    · rw [go_foot hf] at h ⊢
      exact h
    · rw [go_entry (by simpa using hf)] at h ⊢
      rcases entry_kinds hb h0 hp with ⟨q, -, hq1, hq2⟩ | ⟨R, hR1, -, -, hR⟩ | hq
      · rw [hq2] at h
        cases h
        cases he
      · have h1 := hR [] true
        have h2 := hR [] false
        rw [List.append_nil] at h1 h2
        rw [h2, ← h1, h]
      · have h1 := hq [] true
        have h2 := hq [] false
        rw [List.append_nil] at h1 h2
        rw [h2, ← h1, h]
  unfold next7 at h ⊢
  by_cases h0 : s.er ≠ 0
  · rw [if_pos h0] at h ⊢
    exact h
  rw [if_neg h0] at h ⊢
  have h0 : s.er = 0 := by simpa using h0
  by_cases hp0 : s.pl = 0
  · rw [if_pos hp0] at h ⊢
    cases hm : mg head4 d 0 with
    | some pe =>
      obtain ⟨p, e⟩ := pe
      rw [hm] at h
      have := (mg_some hm).1
      simp only [Sc.stop, Bool.true_eq_false, and_false, if_false] at h
      cases h
      exfalso
      revert he
      show ¬ e = 0
      omega
    | none =>
      rw [hm] at h
      have h4 : 4 ≤ d.length := by
        have := congrArg List.length (mg_none hm)
        simp [head4] at this
        omega
      exact hg { s with pl := 4 } h0 h4 h
  · rw [if_neg hp0] at h ⊢
    exact hg s h0 hp h
end Go.Proofs.Ytmajfclkhjnahaa
