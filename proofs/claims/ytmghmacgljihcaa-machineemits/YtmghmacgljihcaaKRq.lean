/- What is proved: plain facts on the document's machine: what it reads, lets pass and refuses is what the program's does, and each step keeps both alike; no condition. -/
import Derived.Test.YtmghmacgljihcaaKRp
namespace Go.Proofs.Ytmghmacgljihcaa

/-- The versions that a commit of now lays. -/
theorem oc_ch {A : List En} {c n : Int} {l : List OpM} (hA : ∀ e ∈ A, e.x.c < c) (hl : ∀ o ∈ l, 0 < o.key.size ∧ o.key.size ≤ 8 ∧ (o.kind ≠ 1 → o.value.size ≤ 16 ∧ (o.found = true ∨ o.value.size = 0))) (hc : 0 ≤ c ∧ c ≤ 1099511627776) (hn : 0 ≤ n ∧ n < 4096) (m : Nat) (hm : m ≤ l.length) :
    ∀ k, ch (insts A c n (oc l m)) k = ch A k ++ match lastW l k with
      | none => []
      | some i => if i < m then [⟨c, n, (l.getD i z0).found, (l.getD i z0).value⟩] else [] := by
  induction m with
  | zero =>
    intro k
    show ch A k = _
    cases lastW l k <;> simp
  | succ m ih =>
    have ih := ih (by omega)
    intro k
    have hml : m < l.length := by omega
    rw [oc]
    by_cases hlw : lastW l (l.getD m z0).key = some m
    · rw [if_pos hlw, insts_snoc]
      have hmem : l.getD m z0 ∈ l := by rw [List.getD_eq_getElem?_getD, List.getElem?_eq_getElem hml]; simp
      obtain ⟨h1, h2, h3⟩ := hl _ hmem
      have hw := (lw_some hlw).2.1
      have hk1 : (l.getD m z0).kind ≠ 1 := by
        unfold isW at hw
        intro e
        rw [e] at hw
        simp at hw
      obtain ⟨h4, h5⟩ := h3 hk1
      have hch := ih (l.getD m z0).key
      rw [hlw] at hch
      simp only [Nat.lt_irrefl, if_false, List.append_nil] at hch
      have hst : stale (ch (insts A c n (oc l m)) (l.getD m z0).key) ⟨c, n, (l.getD m z0).found, (l.getD m z0).value⟩ = false := by
        rw [hch]
        unfold stale
        rw [List.any_eq_false]
        intro y hy
        obtain ⟨e, he, -, rfl⟩ := mem_ch.1 hy
        have := hA e he
        rw [(gt_iff _ _).2 (.inl this)]
        decide
      have hin : inst (insts A c n (oc l m)) (l.getD m z0).key ⟨c, n, (l.getD m z0).found, (l.getD m z0).value⟩ = insts A c n (oc l m) ++ [⟨(l.getD m z0).key, ⟨c, n, (l.getD m z0).found, (l.getD m z0).value⟩⟩] := by
        have hrk : rightK (l.getD m z0).key = true := by unfold rightK; exact decide_eq_true ⟨h1, h2⟩
        have hrv : rightV ⟨c, n, (l.getD m z0).found, (l.getD m z0).value⟩ = true := by unfold rightV; exact decide_eq_true ⟨hc.1, hc.2, hn.1, hn.2, h4, h5⟩
        have hcode : code (insts A c n (oc l m)) (l.getD m z0).key ⟨c, n, (l.getD m z0).found, (l.getD m z0).value⟩ = 0 := by
          unfold code
          rw [if_neg (by rw [hrk]; decide), if_neg (by rw [hrv]; decide), if_neg (by rw [hst]; decide)]
        unfold Ytmghmacgljihcaa.inst
        rw [if_pos hcode]
      rw [hin, ch_append, ih k]
      by_cases hkk : (l.getD m z0).key.toList = k.toList
      · have hlk : lastW l k = some m := by
          have : lastW l k = lastW l (l.getD m z0).key := by
            have e : isW k = isW (l.getD m z0).key := by funext o; unfold isW; rw [hkk]
            have e2 : ∀ q, lw l k q = lw l (l.getD m z0).key q := fun q => by
              induction q with
              | zero => rfl
              | succ q ihq => rw [lw, lw, e, ihq]
            exact e2 _
          rw [this, hlw]
        rw [ch_one_same hkk, hlk]
        simp
      · rw [ch_one_other hkk, List.append_nil]
        congr 1
        cases hlk : lastW l k with
        | none => rfl
        | some i =>
          have hne : i ≠ m := fun e => by
            subst e
            have := (lw_some hlk).2.1
            unfold isW at this
            simp only [Bool.and_eq_true, beq_iff_eq] at this
            exact hkk this.1
          simp only
          by_cases him : i < m
          · rw [if_pos him, if_pos (by omega)]
          · rw [if_neg him, if_neg (by omega)]
    · rw [if_neg hlw, List.append_nil, ih k]
      congr 1
      cases hlk : lastW l k with
      | none => rfl
      | some i =>
        have hne : i ≠ m := fun e => by
          subst e
          have hw := (lw_some hlk).2.1
          unfold isW at hw
          simp only [Bool.and_eq_true, beq_iff_eq] at hw
          apply hlw
          have e : isW (l.getD i z0).key = isW k := by funext o; unfold isW; rw [hw.1]
          have e2 : ∀ q, lw l (l.getD i z0).key q = lw l k q := fun q => by
            induction q with
            | zero => rfl
            | succ q ihq => rw [lw, lw, e, ihq]
          show lw l (l.getD i z0).key l.length = some i
          rw [e2]
          exact hlk
        simp only
        by_cases him : i < m
        · rw [if_pos him, if_pos (by omega)]
        · rw [if_neg him, if_neg (by omega)]
theorem drt_spec {S : List Sn} (k : ByteArray) (hp : ∀ (j : Nat) (a : Ac), (S.getD j sn0).act = some a → a.ts.length = a.t.ops.length ∧ ∀ x ∈ a.ts, 0 < x) (n : Nat) :
    (drt S k n = (z0, 0) ∧ ∀ (j : Nat) (a : Ac), j < n → (S.getD j sn0).act = some a → lastW a.t.ops k = none) ∨
    ∃ (j : Nat) (a : Ac) (o : Nat), j < n ∧ (S.getD j sn0).act = some a ∧ lastW a.t.ops k = some o ∧ drt S k n = (a.t.ops.getD o z0, a.ts.getD o 0) ∧ ∀ (j' : Nat) (a' : Ac) (o' : Nat), j' < n → (S.getD j' sn0).act = some a' → lastW a'.t.ops k = some o' → a'.ts.getD o' 0 ≤ a.ts.getD o 0 := by
  induction n with
  | zero => exact .inl ⟨rfl, fun j a hj => by omega⟩
  | succ n ih =>
    have hcase : ∀ {P : Nat → Prop}, (∀ j, j < n → P j) → P n → ∀ j, j < n + 1 → P j := fun h1 h2 j hj => by
      rcases Nat.lt_or_eq_of_le (Nat.le_of_lt_succ hj) with h | rfl
      · exact h1 j h
      · exact h2
    rw [drt]
    cases ea : (S.getD n sn0).act with
    | none =>
      simp only
      rcases ih with ⟨h1, h2⟩ | ⟨j, a, o, h1, h2, h3, h4, h5⟩
      · exact .inl ⟨h1, fun j a hj => hcase (P := fun j => (S.getD j sn0).act = some a → lastW a.t.ops k = none) (fun j hj => h2 j a hj) (fun h => by rw [ea] at h; cases h) j hj⟩
      · exact .inr ⟨j, a, o, by omega, h2, h3, h4, fun j' a' o' hj' => hcase (P := fun j' => (S.getD j' sn0).act = some a' → lastW a'.t.ops k = some o' → a'.ts.getD o' 0 ≤ a.ts.getD o 0) (fun j' hj' => h5 j' a' o' hj') (fun h => by rw [ea] at h; cases h) j' hj'⟩
    | some an =>
      simp only
      cases el : lastW an.t.ops k with
      | none =>
        simp only
        rcases ih with ⟨h1, h2⟩ | ⟨j, a, o, h1, h2, h3, h4, h5⟩
        · exact .inl ⟨h1, fun j a hj => hcase (P := fun j => (S.getD j sn0).act = some a → lastW a.t.ops k = none) (fun j hj => h2 j a hj) (fun h => by rw [ea] at h; cases h; exact el) j hj⟩
        · exact .inr ⟨j, a, o, by omega, h2, h3, h4, fun j' a' o' hj' => hcase (P := fun j' => (S.getD j' sn0).act = some a' → lastW a'.t.ops k = some o' → a'.ts.getD o' 0 ≤ a.ts.getD o 0) (fun j' hj' => h5 j' a' o' hj') (fun h hl => by rw [ea] at h; cases h; rw [el] at hl; cases hl) j' hj'⟩
      | some on =>
        simp only
        have hpos : 0 < an.ts.getD on 0 := by
          obtain ⟨p1, p2⟩ := hp n an ea
          have hlt := lastW_lt el
          rw [List.getD_eq_getElem?_getD, List.getElem?_eq_getElem (by omega)]
          exact p2 _ (List.getElem_mem _)
        rcases ih with ⟨h1, h2⟩ | ⟨j, a, o, h1, h2, h3, h4, h5⟩
        · rw [h1, if_pos hpos]
          refine .inr ⟨n, an, on, by omega, ea, el, rfl, fun j' a' o' hj' => hcase (P := fun j' => (S.getD j' sn0).act = some a' → lastW a'.t.ops k = some o' → a'.ts.getD o' 0 ≤ an.ts.getD on 0) (fun j' hj' h hl => by rw [h2 j' a' hj' h] at hl; cases hl) (fun h hl => by rw [ea] at h; cases h; rw [el] at hl; cases hl; exact Int.le_refl _) j' hj'⟩
        · rw [h4]
          simp only
          by_cases hlt : a.ts.getD o 0 < an.ts.getD on 0
          · rw [if_pos hlt]
            exact .inr ⟨n, an, on, by omega, ea, el, rfl, fun j' a' o' hj' => hcase (P := fun j' => (S.getD j' sn0).act = some a' → lastW a'.t.ops k = some o' → a'.ts.getD o' 0 ≤ an.ts.getD on 0) (fun j' hj' h hl => by have := h5 j' a' o' hj' h hl; omega) (fun h hl => by rw [ea] at h; cases h; rw [el] at hl; cases hl; exact Int.le_refl _) j' hj'⟩
          · rw [if_neg hlt]
            exact .inr ⟨j, a, o, by omega, h2, h3, rfl, fun j' a' o' hj' => hcase (P := fun j' => (S.getD j' sn0).act = some a' → lastW a'.t.ops k = some o' → a'.ts.getD o' 0 ≤ a.ts.getD o 0) (fun j' hj' => h5 j' a' o' hj') (fun h hl => by rw [ea] at h; cases h; rw [el] at hl; cases hl; omega) j' hj'⟩
theorem rDirt_spec {l : List Rn} (i : Nat) (k : ByteArray) (hp : ∀ (q o : Nat), (gR l q).st = 0 → lastW (gR l q).t.ops k = some o → 0 < (gR l q).ts.getD o 0) (n : Nat) :
    (rDirt l i k n = (none, -1) ∧ ∀ q, q < n → q ≠ i → (gR l q).st = 0 → lastW (gR l q).t.ops k = none) ∨
    ∃ (b o : Nat), b < n ∧ b ≠ i ∧ (gR l b).st = 0 ∧ lastW (gR l b).t.ops k = some o ∧ rDirt l i k n = (some b, (gR l b).ts.getD o 0) ∧ ∀ (q o' : Nat), q < n → q ≠ i → (gR l q).st = 0 → lastW (gR l q).t.ops k = some o' → (gR l q).ts.getD o' 0 ≤ (gR l b).ts.getD o 0 := by
  induction n with
  | zero => exact .inl ⟨rfl, fun j hj => by omega⟩
  | succ n ih =>
    have hcase : ∀ {P : Nat → Prop}, (∀ j, j < n → P j) → P n → ∀ j, j < n + 1 → P j := fun h1 h2 j hj => by
      rcases Nat.lt_or_eq_of_le (Nat.le_of_lt_succ hj) with h | rfl
      · exact h1 j h
      · exact h2
    rw [rDirt]
    cases el : lastW (gR l n).t.ops k with
    | none =>
      simp only
      rcases ih with ⟨h1, h2⟩ | ⟨b, o, h1, h2, h3, h4, h5, h6⟩
      · exact .inl ⟨h1, hcase h2 fun _ _ => el⟩
      · exact .inr ⟨b, o, by omega, h2, h3, h4, h5, fun q o' hq => hcase (P := fun q => q ≠ i → (gR l q).st = 0 → lastW (gR l q).t.ops k = some o' → (gR l q).ts.getD o' 0 ≤ (gR l b).ts.getD o 0) (fun q hq => h6 q o' hq) (fun _ _ hl => by rw [el] at hl; cases hl) q hq⟩
    | some on =>
      simp only
      by_cases hn : n ≠ i ∧ (gR l n).st = 0
      · have hpos := hp n on hn.2 el
        rcases ih with ⟨h1, h2⟩ | ⟨b, o, h1, h2, h3, h4, h5, h6⟩
        · rw [h1, if_pos ⟨hn.1, hn.2, by simp only; omega⟩]
          exact .inr ⟨n, on, by omega, hn.1, hn.2, el, rfl, fun q o' hq => hcase (P := fun q => q ≠ i → (gR l q).st = 0 → lastW (gR l q).t.ops k = some o' → (gR l q).ts.getD o' 0 ≤ (gR l n).ts.getD on 0) (fun q hq a1 a2 hl => by rw [h2 q hq a1 a2] at hl; cases hl) (fun _ _ hl => by rw [el] at hl; cases hl; exact Int.le_refl _) q hq⟩
        · rw [h5]
          simp only
          by_cases hlt : (gR l b).ts.getD o 0 < (gR l n).ts.getD on 0
          · rw [if_pos ⟨hn.1, hn.2, hlt⟩]
            exact .inr ⟨n, on, by omega, hn.1, hn.2, el, rfl, fun q o' hq => hcase (P := fun q => q ≠ i → (gR l q).st = 0 → lastW (gR l q).t.ops k = some o' → (gR l q).ts.getD o' 0 ≤ (gR l n).ts.getD on 0) (fun q hq a1 a2 hl => by have := h6 q o' hq a1 a2 hl; omega) (fun _ _ hl => by rw [el] at hl; cases hl; exact Int.le_refl _) q hq⟩
          · rw [if_neg (fun h9 => hlt h9.2.2)]
            exact .inr ⟨b, o, by omega, h2, h3, h4, rfl, fun q o' hq => hcase (P := fun q => q ≠ i → (gR l q).st = 0 → lastW (gR l q).t.ops k = some o' → (gR l q).ts.getD o' 0 ≤ (gR l b).ts.getD o 0) (fun q hq => h6 q o' hq) (fun _ _ hl => by rw [el] at hl; cases hl; omega) q hq⟩
      · rw [if_neg (fun h9 => hn ⟨h9.1, h9.2.1⟩)]
        rcases ih with ⟨h1, h2⟩ | ⟨b, o, h1, h2, h3, h4, h5, h6⟩
        · exact .inl ⟨h1, hcase h2 fun a1 a2 => absurd ⟨a1, a2⟩ hn⟩
        · exact .inr ⟨b, o, by omega, h2, h3, h4, h5, fun q o' hq => hcase (P := fun q => q ≠ i → (gR l q).st = 0 → lastW (gR l q).t.ops k = some o' → (gR l q).ts.getD o' 0 ≤ (gR l b).ts.getD o 0) (fun q hq => h6 q o' hq) (fun a1 a2 => absurd ⟨a1, a2⟩ hn) q hq⟩
theorem getD_mem {l : List Int} {o : Nat} (h : o < l.length) : l.getD o 0 ∈ l := by
  rw [List.getD_eq_getElem?_getD, List.getElem?_eq_getElem h]
  exact List.getElem_mem _
/-- What the document's machine holds of an active transaction. -/
theorem Rl.runs {M : Mm} {R : Rr} (h : Rl M R) (hi : Inv M) {q : Nat} (hq : q < R.all.length) (hs : (gR R.all q).st = 0) : ∃ (j : Nat) (a : Ac), j < M.ses.length ∧ (M.at j).act = some a ∧ gR R.all q = ⟨a.t, 0, a.ts⟩ ∧ AcI M.clock a := by
  obtain ⟨j, a, h1, -, h3, h4⟩ := h.own q _ (gR_at hq) hs
  exact ⟨j, a, h1, h3, h4, hi.ac j a h3⟩
theorem gR_out {l : List Rn} {q : Nat} (h : l.length ≤ q) : gR l q = rn0 := by
  unfold gR
  rw [List.getD_eq_getElem?_getD, List.getElem?_eq_none h]
  rfl
theorem lt_of_lastW {l : List Rn} {q : Nat} {k : ByteArray} {o : Nat} (h : lastW (gR l q).t.ops k = some o) : q < l.length := by
  refine Classical.byContradiction fun hn => ?_
  rw [gR_out (by omega)] at h
  have := lastW_lt h
  simp [rn0, t0] at this
theorem Rl.dirt {M : Mm} {R : Rr} (h : Rl M R) (hi : Inv M) {i : Nat} {a : Ac} (ha : R.all[i]? = some ⟨a.t, 0, a.ts⟩) (k : ByteArray) (hl : lastW a.t.ops k = none) :
    ((rDirt R.all i k R.all.length).1 = none ∧ ¬ 0 < (drt M.ses k M.ses.length).2) ∨ ∃ b, (rDirt R.all i k R.all.length).1 = some b ∧ 0 < (drt M.ses k M.ses.length).2 ∧ rHeld R.all (some b) k = ((drt M.ses k M.ses.length).1.found, (drt M.ses k M.ses.length).1.value) := by
  have s1 := drt_spec (S := M.ses) k (fun j a ha => ⟨(hi.ac j a ha).ts, fun x hx => ((hi.ac j a ha).pos x hx).1⟩) M.ses.length
  have s2 := rDirt_spec (l := R.all) i k (fun q o hs hlo => by
    obtain ⟨j, a', -, h2, h3, h4⟩ := h.runs hi (lt_of_lastW hlo) hs
    rw [h3] at hlo ⊢
    exact (h4.pos _ (getD_mem (by rw [h4.ts]; exact lastW_lt hlo))).1) R.all.length
  rcases s1 with ⟨a1, a2⟩ | ⟨j, a', o, b1, b2, b3, b4, b5⟩
  · rcases s2 with ⟨c1, c2⟩ | ⟨b, o, d1, d2, d3, d4, d5, d6⟩
    · exact .inl ⟨by rw [c1], by rw [a1]; decide⟩
    · obtain ⟨j, a', e1, e2, e3, e4⟩ := h.runs hi d1 d3
      have := a2 j a' e1 e2
      rw [e3, this] at d4
      cases d4
  · obtain ⟨i', f1, f2⟩ := h.act j a' b2
    have hlen : i' < R.all.length := (List.getElem?_eq_some_iff.1 f1).1
    have hg : gR R.all i' = ⟨a'.t, 0, a'.ts⟩ := gR_of f1
    have hne : i' ≠ i := fun e => by
      subst e
      rw [ha] at f1
      simp only [Option.some.injEq, Rn.mk.injEq] at f1
      rw [← f1.1, hl] at b3
      cases b3
    have hp := hi.ac j a' b2
    have hpos : 0 < a'.ts.getD o 0 := (hp.pos _ (getD_mem (by rw [hp.ts]; exact lastW_lt b3))).1
    rcases s2 with ⟨c1, c2⟩ | ⟨b, o2, d1, d2, d3, d4, d5, d6⟩
    · have := c2 i' hlen hne (by rw [hg])
      rw [hg, b3] at this
      cases this
    · obtain ⟨j2, a2, e1, e2, e3, e4⟩ := h.runs hi d1 d3
      have m1 := d6 i' o hlen hne (by rw [hg]) (by rw [hg]; exact b3)
      rw [hg, e3] at m1
      rw [e3] at d4
      have m2 := b5 j2 a2 o2 e1 e2 d4
      have heq : a2.ts.getD o2 0 = a'.ts.getD o 0 := by simp only at m1; omega
      have hbi : b = i' := by
        refine Classical.byContradiction fun hbi => ?_
        refine h.tms b i' _ _ (by rw [gR_at d1, e3]) f1 rfl rfl hbi (a2.ts.getD o2 0) (getD_mem (by rw [e4.ts]; exact lastW_lt d4)) ?_
        rw [heq]
        exact getD_mem (by rw [hp.ts]; exact lastW_lt b3)
      subst hbi
      rw [hg] at e3
      simp only [Rn.mk.injEq] at e3
      refine .inr ⟨b, by rw [d5], by rw [b4]; exact hpos, ?_⟩
      rw [b4]
      simp only [rHeld, hg, opL, b3]
theorem Rl.read {M : Mm} {R : Rr} (h : Rl M R) (hi : Inv M) {i : Nat} {a : Ac} (ha : R.all[i]? = some ⟨a.t, 0, a.ts⟩) (k : ByteArray) : rRead M.flaw M.clock R.all i k = seeM M a.t k := by
  have hg : gR R.all i = ⟨a.t, 0, a.ts⟩ := gR_of ha
  unfold rRead seeM
  rw [hg]
  cases el : lastW a.t.ops k with
  | some o =>
    rw [if_pos (show (some o).isSome = true from rfl)]
    simp only [rHeld, hg, opL, el]
  | none =>
    rw [if_neg (by simp)]
    simp only
    have hcom : rHeld R.all (if M.flaw = 3 then (rSee R.all k (if M.flaw = 2 then M.clock else a.t.f2)).bind fun b => rSee R.all k ((gR R.all b).t.f3 - 1) else rSee R.all k (if M.flaw = 2 then M.clock else a.t.f2)) k = ((comM M.flaw M.clock M.A k a.t.f2).f, (comM M.flaw M.clock M.A k a.t.f2).v) := by
      unfold comM
      rcases h.see k (if M.flaw = 2 then M.clock else a.t.f2) with ⟨h1, h2⟩ | ⟨b, w, h1, h2, h3⟩
      · rw [h1, h2]
        simp only [Option.bind_none, ite_self]
        rfl
      · rw [h1, h3]
        simp only [Option.bind_some]
        by_cases hf : M.flaw = 3
        · rw [if_pos hf, if_pos hf]
          rcases h.see k ((gR R.all b).t.f3 - 1) with ⟨g1, g2⟩ | ⟨b', w', g1, g2, g3⟩
          · rw [g1, g2]
            rfl
          · rw [g1, g3]
            rfl
        · rw [if_neg hf, if_neg hf]
    generalize (if M.flaw = 3 then (rSee R.all k (if M.flaw = 2 then M.clock else a.t.f2)).bind fun b => rSee R.all k ((gR R.all b).t.f3 - 1) else rSee R.all k (if M.flaw = 2 then M.clock else a.t.f2)) = V at hcom ⊢
    rcases h.dirt hi ha k el with ⟨d1, d2⟩ | ⟨b, d1, d2, d3⟩
    · rw [if_neg (fun h9 => by rw [d1] at h9; exact absurd h9.2 (by simp)), if_neg (fun h9 => d2 h9.2)]
      exact hcom
    · by_cases hf : M.flaw = 4
      · rw [if_pos ⟨hf, by rw [d1]; rfl⟩, if_pos ⟨hf, d2⟩, d1, d3]
      · rw [if_neg (fun h9 => hf h9.1), if_neg (fun h9 => hf h9.1)]
        exact hcom
theorem lastW_congr {k k' : ByteArray} (h : k.toList = k'.toList) (l : List OpM) : lastW l k = lastW l k' := by
  have e : isW k = isW k' := by funext o; unfold isW; rw [h]
  have e2 : ∀ q, lw l k q = lw l k' q := fun q => by
    induction q with
    | zero => rfl
    | succ q ihq => rw [lw, lw, e, ihq]
  exact e2 _
theorem af_iff (l : List Vn) (t : Int) : (afM l t).isSome = true ↔ ∃ y ∈ l, t < y.c := by
  unfold afM cnt
  have e0 : ∀ n : Nat, (l[n]?).isSome = true ↔ n < l.length := fun n => by
    by_cases hn : n < l.length
    · rw [List.getElem?_eq_getElem hn]; simp [hn]
    · rw [List.getElem?_eq_none (by omega)]; simp [hn]
  rw [e0]
  constructor
  · intro h
    refine Classical.byContradiction fun hn => ?_
    have : l.countP (fun y => decide (y.c ≤ t)) = l.length := List.countP_eq_length.2 fun y hy => by
      have := mt (fun h9 => (⟨y, hy, h9⟩ : ∃ y ∈ l, t < y.c)) hn
      simp only [decide_eq_true_eq]
      omega
    omega
  · rintro ⟨y, hy, hc⟩
    have h1 := List.countP_le_length (p := fun y : Vn => decide (y.c ≤ t)) (l := l)
    refine Nat.lt_of_le_of_ne h1 fun e => ?_
    have := List.countP_eq_length.1 e y hy
    simp only [decide_eq_true_eq] at this
    omega
/-- The latest version of all. -/
theorem Rl.latest {M : Mm} {R : Rr} (h : Rl M R) (hv : ∀ e ∈ M.A, e.x.c ≤ M.clock) (k : ByteArray) (start : Int) : aft R.all (rSee R.all k M.clock) start = (afM (ch M.A k) start).isSome := by
  have hle : ∀ y ∈ ch M.A k, y.c ≤ M.clock := fun y hy => by
    obtain ⟨e, h1, -, rfl⟩ := mem_ch.1 hy
    exact hv e h1
  rcases h.see k M.clock with ⟨h1, h2⟩ | ⟨b, w, h1, h2, h3⟩
  · rw [h1]
    simp only [aft]
    cases e : (afM (ch M.A k) start).isSome with
    | false => rfl
    | true =>
      obtain ⟨y, hy, -⟩ := (af_iff _ _).1 e
      have hc := hle y hy
      obtain ⟨i, hi⟩ := List.getElem?_of_mem hy
      have := ((h.good k).cnt_iff M.clock hi).2 hc
      unfold atM at h2
      rw [if_neg (by omega), List.getElem?_eq_none_iff] at h2
      have h4 := cnt_le (ch M.A k) M.clock
      have h5 := (List.getElem?_eq_some_iff.1 hi).1
      omega
  · rw [h1]
    simp only [aft]
    obtain ⟨m1, m2, m3⟩ := (h.good k).at_mem h3
    by_cases hs : start < (gR R.all b).t.f3
    · rw [decide_eq_true hs, eq_comm, af_iff]
      exact ⟨_, m1, hs⟩
    · rw [decide_eq_false hs]
      cases e : (afM (ch M.A k) start).isSome with
      | false => rfl
      | true =>
        obtain ⟨y, hy, hc⟩ := (af_iff _ _).1 e
        have h5 := m3 y hy (hle y hy)
        have h6 : ¬ ((gR R.all b).t.f3 < y.c) := fun h9 => by rw [(gt_iff _ _).2 (.inl h9)] at h5; cases h5
        omega
theorem Rl.pass {M : Mm} {R : Rr} (h : Rl M R) (hv : ∀ e ∈ M.A, e.x.c ≤ M.clock) (a : Ac) : rPass M.flaw M.clock R.all a.t = !lost M a := by
  unfold rPass lost
  have hany : a.t.ops.any (late1 R.all M.clock a.t.f2) = over M.A a.t.f2 (outc a.t.ops) := by
    rw [Bool.eq_iff_iff]
    unfold over
    rw [List.any_eq_true, List.any_eq_true]
    constructor
    · rintro ⟨o, h1, h2⟩
      unfold late1 at h2
      rw [Bool.and_eq_true] at h2
      rw [h.latest hv] at h2
      have hk : o.kind ≠ 1 := by simpa using h2.1
      obtain ⟨p, hp⟩ := List.getElem?_of_mem h1
      have hpl := (List.getElem?_eq_some_iff.1 hp).1
      have hgd : a.t.ops.getD p z0 = o := by rw [List.getD_eq_getElem?_getD, hp]; rfl
      cases el : lastW a.t.ops o.key with
      | none =>
        have := lw_none.1 el p hpl
        rw [hgd, isW_self rfl hk] at this
        cases this
      | some q =>
        have hw := (lw_some el).2.1
        have hkey : (a.t.ops.getD q z0).key.toList = o.key.toList := by
          unfold isW at hw
          simp only [Bool.and_eq_true, beq_iff_eq] at hw
          exact hw.1
        refine ⟨a.t.ops.getD q z0, (oc_in _).2 ⟨q, lastW_lt el, by rw [lastW_congr hkey]; exact el, rfl⟩, ?_⟩
        rw [ch_congr hkey]
        exact h2.2
    · rintro ⟨o, h1, h2⟩
      obtain ⟨p, hp, hl, rfl⟩ := (oc_in _).1 h1
      have hw := (lw_some hl).2.1
      have hk : (a.t.ops.getD p z0).kind ≠ 1 := fun e => by
        unfold isW at hw
        rw [e] at hw
        simp at hw
      refine ⟨a.t.ops.getD p z0, by rw [List.getD_eq_getElem?_getD, List.getElem?_eq_getElem hp]; exact List.getElem_mem _, ?_⟩
      unfold late1
      rw [h.latest hv, h2, Bool.and_true]
      simpa using hk
  rw [hany]
  cases hf : M.flaw == 1 <;> simp
end Go.Proofs.Ytmghmacgljihcaa
