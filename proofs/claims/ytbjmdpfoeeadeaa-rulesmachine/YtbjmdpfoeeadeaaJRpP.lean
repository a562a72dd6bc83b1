/- What is proved: plain facts on a log's session rows in their order: what is told of each against the one ahead of it, and how many of them repeat; no condition. -/
import Derived.Test.YtbjmdpfoeeadeaaJRow
namespace Go.Proofs.Ytbjmdpfoeeadeaa.Sw
open Go.RowKit

def tz : TxM := ⟨0, 0, 0, 0, 0, 0, 0, []⟩
/-- The session rows of a log. -/
def sesL (T : List TxM) : List Rw.RwM := (List.range T.length).map fun (i : Nat) => sesR (i : Int) (T.getD i tz)
def SS (T : List TxM) : List Rw.RwM := Rw.srt (Rw.bef 2) (sesL T)
theorem sesL_len (T : List TxM) : (sesL T).length = T.length := by simp [sesL]
theorem SS_len (T : List TxM) : (SS T).length = T.length := by unfold SS; rw [Rw.srt_len, sesL_len]
theorem sesL_get {T : List TxM} {i : Nat} {t : TxM} (h : T[i]? = some t) : (sesL T)[i]? = some (sesR i t) := by
  obtain ⟨hi, e⟩ := List.getElem?_eq_some_iff.1 h
  unfold sesL
  rw [List.getElem?_map, List.getElem?_range hi]
  simp [List.getD, h]
theorem mem_ses {T : List TxM} {r : Rw.RwM} (h : r ∈ sesL T) : ∃ (i : Nat) (t : TxM), T[i]? = some t ∧ r = sesR i t := by
  unfold sesL at h
  obtain ⟨i, hi, e⟩ := List.mem_map.1 h
  rw [List.mem_range] at hi
  refine ⟨i, T[i], List.getElem?_eq_getElem hi, ?_⟩
  rw [← e]
  simp [List.getD, List.getElem?_eq_getElem hi]
theorem mem_SS {T : List TxM} {r : Rw.RwM} (h : r ∈ SS T) : ∃ (i : Nat) (t : TxM), T[i]? = some t ∧ r = sesR i t := mem_ses ((Rw.srt_perm _ _).mem_iff.1 h)
theorem bef_total {a b : Rw.RwM} (h : Rw.bef 2 b a = false) (hi : a.index ≠ b.index) : Rw.bef 2 a b = true := by
  rw [Rw.bef_iff]
  refine ⟨.inr rfl, ?_⟩
  have hn : ¬ Rw.bef 2 b a = true := by rw [h]; decide
  rw [Rw.bef_iff] at hn
  have hn2 : ¬ (b.time < a.time ∨ (b.time = a.time ∧ (b.seq < a.seq ∨ (b.seq = a.seq ∧ b.index < a.index)))) := fun e => hn ⟨.inr rfl, by
    rcases e with e | ⟨e1, e | ⟨e2, e3⟩⟩
    · exact .inl e
    · exact .inr ⟨e1, .inr (.inl ⟨rfl, e⟩)⟩
    · exact .inr ⟨e1, .inr (.inr ⟨.inr ⟨rfl, e2⟩, e3⟩)⟩⟩
  by_cases h1 : a.time < b.time
  · exact .inl h1
  by_cases h2 : a.time = b.time
  · refine .inr ⟨h2, ?_⟩
    by_cases h3 : a.seq < b.seq
    · exact .inr (.inl ⟨rfl, h3⟩)
    · refine .inr (.inr ⟨.inr ⟨rfl, ?_⟩, ?_⟩)
      · by_cases h4 : a.seq = b.seq
        · exact h4
        · exact absurd (.inr ⟨h2.symm, .inl (by omega)⟩) hn2
      · by_cases h4 : a.seq = b.seq
        · by_cases h5 : b.index < a.index
          · exact absurd (.inr ⟨h2.symm, .inr ⟨h4.symm, h5⟩⟩) hn2
          · omega
        · exact absurd (.inr ⟨h2.symm, .inl (by omega)⟩) hn2
  · exact absurd (.inl (by omega)) hn2
theorem ses_index (T : List TxM) : (sesL T).Pairwise fun a b => a.index ≠ b.index := by
  unfold sesL
  rw [List.pairwise_map]
  refine List.Pairwise.imp ?_ List.pairwise_lt_range
  intro a b h e
  have : (a : Int) = (b : Int) := e
  omega
/-- Each row comes behind all ahead of it. -/
theorem SS_strict (T : List TxM) : (SS T).Pairwise fun a b => Rw.bef 2 a b = true := by
  have h1 := Rw.srt_pw (Rw.bef_swo 2) (sesL T)
  have h2 : (SS T).Pairwise fun a b => a.index ≠ b.index := ((Rw.srt_perm (Rw.bef 2) (sesL T)).pairwise_iff (fun h e => h e.symm)).2 (ses_index T)
  exact (h1.and h2).imp fun h => bef_total h.1 h.2
theorem pw_get {α : Type} {R : α → α → Prop} {l : List α} (h : l.Pairwise R) {i j : Nat} {a b : α} (ha : l[i]? = some a) (hb : l[j]? = some b) (hij : i < j) : R a b := by
  obtain ⟨hi, e1⟩ := List.getElem?_eq_some_iff.1 ha
  obtain ⟨hj, e2⟩ := List.getElem?_eq_some_iff.1 hb
  rw [← e1, ← e2]
  exact List.pairwise_iff_getElem.1 h i j hi hj hij
theorem bef2 {a b : Rw.RwM} (h : Rw.bef 2 a b = true) : a.time < b.time ∨ (a.time = b.time ∧ (a.seq < b.seq ∨ (a.seq = b.seq ∧ a.index < b.index))) := by
  obtain ⟨-, h⟩ := (Rw.bef_iff 2 a b).1 h
  rcases h with h | ⟨h1, h | h | ⟨h2, h3⟩⟩
  · exact .inl h
  · exact absurd h.1 (by decide)
  · exact .inr ⟨h1, .inl h.2⟩
  · rcases h2 with h2 | h2
    · exact absurd h2.1 (by decide)
    · exact .inr ⟨h1, .inr ⟨h2.2, h3⟩⟩
/-- What is told of the first rows. -/
def adj (S : List Rw.RwM) : Nat → List Vl
  | 0 => []
  | j + 1 => adj S j ++ (if j = 0 then [] else fol (S.getD (j - 1) Rw.r0) (S.getD j Rw.r0))
theorem adj_len (S : List Rw.RwM) (j : Nat) : (adj S j).length ≤ j := by
  induction j with
  | zero => exact Nat.le_refl _
  | succ j ih =>
    have := fol_len (S.getD (j - 1) Rw.r0) (S.getD j Rw.r0)
    simp only [adj, List.length_append]
    split
    · simp; omega
    · omega
theorem adj_next {S : List Rw.RwM} {j : Nat} {p r : Rw.RwM} (hj : 1 ≤ j) (hp : S[j - 1]? = some p) (hr : S[j]? = some r) : adj S (j + 1) = adj S j ++ fol p r := by
  rw [adj, if_neg (by omega)]
  simp [List.getD, hp, hr]
theorem adj_one (S : List Rw.RwM) : adj S 1 = [] := rfl
/-- A row whose session and number another has at a smaller place. -/
def PB (S : List Rw.RwM) (r : Rw.RwM) : Bool := S.any fun x => x.time == r.time && x.seq == r.seq && decide (x.index < r.index)
theorem PB_iff {S : List Rw.RwM} {r : Rw.RwM} : PB S r = true ↔ ∃ x ∈ S, x.time = r.time ∧ x.seq = r.seq ∧ x.index < r.index := by
  simp [PB, List.any_eq_true, and_assoc]
def k9 (v : Vl) : Bool := v.kd == 9
theorem fol_nine (a r : Rw.RwM) : (fol a r).countP k9 = if r.time = a.time ∧ r.seq = a.seq then 1 else 0 := by
  unfold fol
  by_cases h1 : r.time = a.time
  · rw [if_neg (by simpa using h1)]
    by_cases h2 : r.seq = a.seq
    · rw [if_pos h2, if_pos ⟨h1, h2⟩]; rfl
    · have hn : ¬ (r.time = a.time ∧ r.seq = a.seq) := fun e => h2 e.2
      rw [if_neg h2, if_neg hn]
      by_cases h3 : r.frm < a.til
      · rw [if_pos h3]; rfl
      · rw [if_neg h3]; rfl
  · rw [if_pos h1, if_neg (fun e => h1 e.1)]; rfl
theorem adj_nine {S : List Rw.RwM} (hs : S.Pairwise fun a b => Rw.bef 2 a b = true) {j : Nat} (hj : j ≤ S.length) : (adj S j).countP k9 = (S.take j).countP (PB S) := by
  induction j with
  | zero => rfl
  | succ j ih =>
    have hr : S[j]? = some S[j] := List.getElem?_eq_getElem (by omega)
    have et : S.take (j + 1) = S.take j ++ [S[j]] := List.take_succ_eq_append_getElem (by omega)
    rw [et, List.countP_append, ← ih (by omega)]
    cases j with
    | zero =>
      have hn : PB S S[0] = false := by
        rw [← Bool.not_eq_true, PB_iff]
        rintro ⟨x, hx, e1, e2, e3⟩
        obtain ⟨m, hm, e⟩ := List.getElem_of_mem hx
        by_cases h0 : m = 0
        · subst h0
          rw [e] at e3
          omega
        · have := bef2 (pw_get hs (i := 0) (j := m) hr (by rw [List.getElem?_eq_getElem hm, e]) (by omega))
          omega
      rw [adj_one]
      simp [hn, adj]
    | succ j =>
      have hp : S[j]? = some S[j] := List.getElem?_eq_getElem (by omega)
      rw [adj_next (p := S[j]) (by omega) (by rw [Nat.add_sub_cancel]; exact hp) hr, List.countP_append, fol_nine]
      congr 1
      have hb := bef2 (pw_get hs hp hr (by omega))
      by_cases h : S[j + 1].time = S[j].time ∧ S[j + 1].seq = S[j].seq
      · have : PB S S[j + 1] = true := PB_iff.2 ⟨S[j], List.getElem_mem _, h.1.symm, h.2.symm, by omega⟩
        rw [if_pos h]
        simp [this]
      · have : PB S S[j + 1] = false := by
          rw [← Bool.not_eq_true, PB_iff]
          rintro ⟨x, hx, e1, e2, e3⟩
          obtain ⟨m, hm, e⟩ := List.getElem_of_mem hx
          have hx' : S[m]? = some x := by rw [List.getElem?_eq_getElem hm, e]
          by_cases h1 : m < j
          · have hb2 := bef2 (pw_get hs hx' hp h1)
            omega
          · by_cases h2 : m = j
            · subst h2
              rw [e] at h
              omega
            · by_cases h3 : m = j + 1
              · subst h3
                rw [e] at e3
                omega
              · have hb2 := bef2 (pw_get hs hr hx' (by omega))
                omega
        rw [if_neg h]
        simp [this]
theorem nines (T : List TxM) : (adj (SS T) T.length).countP k9 = (sesL T).countP (PB (sesL T)) := by
  rw [adj_nine (SS_strict T) (by rw [SS_len]; exact Nat.le_refl _), List.take_of_length_le (by rw [SS_len]; exact Nat.le_refl _)]
  have hp : ∀ r, PB (SS T) r = PB (sesL T) r := fun r => by
    rw [Bool.eq_iff_iff, PB_iff, PB_iff]
    exact ⟨fun ⟨x, hx, h⟩ => ⟨x, (Rw.srt_perm _ _).mem_iff.1 hx, h⟩, fun ⟨x, hx, h⟩ => ⟨x, (Rw.srt_perm _ _).mem_iff.2 hx, h⟩⟩
  rw [show PB (SS T) = PB (sesL T) from funext hp]
  exact (Rw.srt_perm (Rw.bef 2) (sesL T)).countP_eq _
/-- One of the first m has the same session and number. -/
def hitB (T : List TxM) (t : TxM) (m : Nat) : Bool := (T.take m).any fun x => x.f0 == t.f0 && x.f1 == t.f1
theorem hit_zero (T : List TxM) (t : TxM) : hitB T t 0 = false := rfl
theorem hit_next {T : List TxM} {t x : TxM} {m : Nat} (h : T[m]? = some x) : hitB T t (m + 1) = (hitB T t m || (x.f0 == t.f0 && x.f1 == t.f1)) := by
  obtain ⟨hm, e⟩ := List.getElem?_eq_some_iff.1 h
  unfold hitB
  rw [List.take_succ_eq_append_getElem hm, List.any_append, e]
  simp
def wnt (T : List TxM) (j : Nat) : Nat := ((sesL T).take j).countP (PB (sesL T))
theorem wnt_all (T : List TxM) : wnt T T.length = (adj (SS T) T.length).countP k9 := by
  rw [nines]
  unfold wnt
  rw [List.take_of_length_le (by rw [sesL_len]; exact Nat.le_refl _)]
theorem hit_PB (T : List TxM) (j : Nat) (t : TxM) : PB (sesL T) (sesR j t) = hitB T t j := by
  rw [Bool.eq_iff_iff, PB_iff]
  unfold hitB
  rw [List.any_eq_true]
  constructor
  · rintro ⟨x, hx, e1, e2, e3⟩
    obtain ⟨i, t', hi, rfl⟩ := mem_ses hx
    have e3' : (i : Int) < (j : Int) := e3
    refine ⟨t', List.mem_of_getElem? (i := i) (by rw [List.getElem?_take_of_lt (by omega)]; exact hi), ?_⟩
    have e1' : t'.f0 = t.f0 := e1
    have e2' : t'.f1 = t.f1 := e2
    simp [e1', e2']
  · rintro ⟨x, hx, e⟩
    obtain ⟨i, hi, ex⟩ := List.getElem_of_mem hx
    rw [List.length_take] at hi
    simp only [Bool.and_eq_true, beq_iff_eq] at e
    have hi' : T[i]? = some x := by
      rw [List.getElem_take] at ex
      rw [List.getElem?_eq_getElem (by omega), ex]
    exact ⟨sesR i x, List.mem_of_getElem? (sesL_get hi'), e.1, e.2, by show (i : Int) < (j : Int); omega⟩
theorem wnt_next {T : List TxM} {j : Nat} {t : TxM} (h : T[j]? = some t) : wnt T (j + 1) = wnt T j + (if hitB T t j = true then 1 else 0) := by
  obtain ⟨hj, e⟩ := List.getElem?_eq_some_iff.1 (sesL_get h)
  unfold wnt
  rw [List.take_succ_eq_append_getElem hj, List.countP_append, e, ← hit_PB T j t]
  congr 1
  by_cases hp : PB (sesL T) (sesR j t) = true
  · simp [hp]
  · simp [hp]
theorem wnt_le (T : List TxM) (j : Nat) : wnt T j ≤ j := by
  unfold wnt
  refine Nat.le_trans List.countP_le_length ?_
  rw [List.length_take]
  omega
/-- What a told violation says. -/
theorem told {T : List TxM} {j : Nat} (hj : j ≤ T.length) {v : Vl} (h : v ∈ adj (SS T) j) : ∃ (i k : Nat) (t x : TxM), T[i]? = some t ∧ T[k]? = some x ∧ v.tx = i ∧ v.wi = k ∧ t.f0 = x.f0 ∧ v.tt = t.f2 ∧ v.fr = x.f3 := by
  induction j with
  | zero => simp [adj] at h
  | succ j ih =>
    simp only [adj, List.mem_append] at h
    rcases h with h | h
    · exact ih (by omega) h
    · split at h
      · simp at h
      · rename_i h0
        have hl := SS_len T
        obtain ⟨i, t, hi, er⟩ := mem_SS (T := T) (r := (SS T)[j]'(by omega)) (List.getElem_mem _)
        obtain ⟨k, x, hk, ep⟩ := mem_SS (T := T) (r := (SS T)[j - 1]'(by omega)) (List.getElem_mem _)
        have e1 : (SS T).getD j Rw.r0 = sesR i t := by rw [← er]; simp [List.getD, List.getElem?_eq_getElem (show j < (SS T).length by omega)]
        have e2 : (SS T).getD (j - 1) Rw.r0 = sesR k x := by rw [← ep]; simp [List.getD, List.getElem?_eq_getElem (show j - 1 < (SS T).length by omega)]
        rw [e1, e2] at h
        have hs : t.f0 = x.f0 ∧ ∃ kd, v = fv kd (sesR k x) (sesR i t) := by
          unfold fol at h
          split at h
          · simp at h
          · rename_i h1
            have h1' : t.f0 = x.f0 := by simpa [sesR] using h1
            split at h
            · exact ⟨h1', 9, by simpa using h⟩
            · split at h
              · exact ⟨h1', 10, by simpa using h⟩
              · simp at h
        obtain ⟨hs, kd, rfl⟩ := hs
        exact ⟨i, k, t, x, hi, hk, rfl, rfl, hs, rfl, rfl⟩
/-- The walk takes each of them. -/
theorem row_right {T : List TxM} (hr : ∀ t ∈ T, Right t) (hn : T.length ≤ 4096) {r : Rw.RwM} (h : r ∈ SS T) : Rw.rightR r ∧ r.kind = 3 := by
  obtain ⟨i, t, hi, rfl⟩ := mem_SS h
  have := (List.getElem?_eq_some_iff.1 hi).1
  refine ⟨rows_right (i := i) (t := t) ⟨by omega, by omega⟩ (hr t (List.mem_of_getElem? hi)) ?_, rfl⟩
  unfold rwsR
  exact List.mem_cons_self
/-- The row that a walk knows behind j rows. -/
def knw (S : List Rw.RwM) (j : Nat) : Rw.RwM := if j = 0 then q0R else lsR (S.getD (j - 1) Rw.r0)
theorem cod_zero {T : List TxM} (hr : ∀ t ∈ T, Right t) (hn : T.length ≤ 4096) {j : Nat} {r : Rw.RwM} (h : (SS T)[j]? = some r) : codW (knw (SS T) j) r = 0 := by
  obtain ⟨h1, h2⟩ := row_right hr hn (List.mem_of_getElem? h)
  have hb : Rw.comp 2 (knw (SS T) j) r = -1 := by
    unfold knw
    split
    · have ht := h1.2.1.1
      exact of_decide_eq_true ((Rw.bef_iff 2 q0R r).2 ⟨.inr rfl, .inl (by show (-1 : Int) < r.time; omega)⟩)
    · rename_i h0
      have hj := (List.getElem?_eq_some_iff.1 h).1
      have hp : (SS T)[j - 1]? = some ((SS T)[j - 1]'(by omega)) := List.getElem?_eq_getElem _
      have := pw_get (SS_strict T) hp h (by omega)
      rw [comp_ls]
      simp only [List.getD, hp, Option.getD_some]
      exact of_decide_eq_true this
  unfold codW
  rw [if_neg (by simpa using h1), if_neg (by simpa using h2), hb, if_neg (by decide)]
theorem knw_next {S : List Rw.RwM} {j : Nat} {r : Rw.RwM} (h : S[j]? = some r) : knw S (j + 1) = lsR r := by
  unfold knw
  rw [if_neg (by omega)]
  simp [List.getD, h]
theorem adj_walk {T : List TxM} (hr : ∀ t ∈ T, Right t) (hn : T.length ≤ 4096) {j : Nat} {r : Rw.RwM} (h : (SS T)[j]? = some r) : adj (SS T) (j + 1) = adj (SS T) j ++ fol (knw (SS T) j) r := by
  by_cases h0 : j = 0
  · subst h0
    have : fol (knw (SS T) 0) r = [] := by
      obtain ⟨h1, -⟩ := row_right hr hn (List.mem_of_getElem? h)
      have ht := h1.2.1.1
      unfold knw fol
      rw [if_pos rfl, if_pos (by show ¬ r.time = -1; omega)]
    rw [this]
    rfl
  · have hj := (List.getElem?_eq_some_iff.1 h).1
    rw [adj_next (by omega) (List.getElem?_eq_getElem (by omega)) h]
    congr 1
    unfold knw
    rw [if_neg h0, fol_ls]
    simp [List.getD, List.getElem?_eq_getElem (show j - 1 < (SS T).length by omega)]
end Go.Proofs.Ytbjmdpfoeeadeaa.Sw
