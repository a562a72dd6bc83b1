/- What is proved: operate lays one operation more into a session's active transaction, with its time; the machine lies in memory, the transaction has at most 16 operations. -/
import Derived.Test.YtmghmacgljihcaaKBeg
import Derived.Deep.RegionLaw
namespace Go.Proofs.Ytmghmacgljihcaa
open Go.RowKit

/-- An active transaction on its way: all that has turned since w is its own. -/
structure Op1 (tg : Nat → Tg) (w wx : World) (i g : Nat) (t : TxM) (ops : List OpM) (ts : List Int) (ov tv : Value) : Prop where
  obj : TxB wx g t ov tv
  own : OwnO 0 wx ov ops
  loc : ∀ b, ov.ownBlock = some b → tg b = .ops i ∨ w.heap.size ≤ b
  tms : OwnI 0 wx tv ts
  tt : ∀ b, tv.ownBlock = some b → tg b = .tms i ∨ w.heap.size ≤ b
  same : Same (fun b => tg b = .tx i ∨ tg b = .ops i ∨ tg b = .tms i) w wx
  tgx : tg g = .tx i
theorem Op1.start {tg : Nat → Tg} {w : World} {i g : Nat} {a : Ac} {ov tv : Value} (h : TxAt tg w i g a ov tv) : Op1 tg w w i g a.t a.t.ops a.ts ov tv :=
  ⟨h.obj, h.ops, fun b hb => .inl (h.tp b hb), h.tms, fun b hb => .inl (h.tt b hb), Same.refl _ _, h.tgx⟩
theorem Op1.on {tg : Nat → Tg} {w wx wy : World} {i g : Nat} {t : TxM} {ops : List OpM} {ts : List Int} {ov tv : Value} (h : Op1 tg w wx i g t ops ts ov tv) (k : Kept wx wy) : Op1 tg w wy i g t ops ts ov tv :=
  ⟨h.obj.on k, h.own.on k, h.loc, row_kept h.tms k fun _ _ e => e, h.tt, h.same.trans k fun _ _ e => e.elim, h.tgx⟩
theorem types_ne {w : World} {b : Nat} {c c' : Array Value} {t t' : TypeId} (h : w.heap[b]? = some (.cells c t (0, 0))) (h' : w.heap[b]? = some (.cells c' t' (0, 0))) (hn : t ≠ t') : False := by
  rw [h] at h'
  cases h'
  exact hn rfl
theorem TxB.put7 {w : World} {g : Nat} {t : TxM} {ov tv : Value} (h : TxB w g t ov tv) (v : Value) : TxB (w.setCell ⟨g, 7, none⟩ v) g t v tv := by simpa [TxB] using setCell_at h 7 v
theorem TxB.put8 {w : World} {g : Nat} {t : TxM} {ov tv : Value} (h : TxB w g t ov tv) (v : Value) : TxB (w.setCell ⟨g, 8, none⟩ v) g t ov v := by simpa [TxB] using setCell_at h 8 v
theorem Op1.ops {tg : Nat → Tg} {w wx W' w4 : World} {i g : Nat} {t : TxM} {ops ops' : List OpM} {ts : List Int} {ov tv v4 : Value} (h : Op1 tg w wx i g t ops ts ov tv) (k : Kept wx W') (ho : OwnO 0 w4 v4 ops') (hs : Same (fun b => ov.ownBlock = some b) W' w4) (hl : ∀ b, v4.ownBlock = some b → ov.ownBlock = some b ∨ W'.heap.size ≤ b) :
    (w4.cell? ⟨g, 7, none⟩ = some ov ∧ w4.frozen? ⟨g, 7, none⟩ = false ∧ g < w4.heap.size ∧ ∃ a n c, v4 = .slice a n c) ∧ Op1 tg w (w4.setCell ⟨g, 7, none⟩ v4) i g t ops' ts v4 tv := by
  have h1 := h.on k
  have hg : ∀ b, ov.ownBlock = some b → ¬ g = b := fun b hb e => by
    subst e
    obtain ⟨-, cur, hc⟩ := row_block h1.own hb
    exact types_ne h1.obj hc (by decide)
  have h4 : TxB w4 g t ov tv := (hs.block g (lt_of_heap h1.obj) (fun e => hg g e rfl)).trans h1.obj
  obtain ⟨hgl, ⟨-, -, -, -, -, -, -, c7, -⟩, fz⟩ := TxB.cells h4
  obtain ⟨a4, c4, e4, -⟩ := OwnO.ops ho
  have hset : Same (fun b => b = g) w4 (w4.setCell ⟨g, 7, none⟩ v4) := Same.setCell (S := fun b => b = g) (Same.refl _ w4) ⟨g, 7, none⟩ (.inr rfl) v4
  refine ⟨⟨c7, fz 7, hgl, a4, _, c4, e4⟩, h4.put7 v4, row_kept ho hset fun b hb e => ?_, fun b hb => ?_, ?_, h.tt, ?_, h.tgx⟩
  · subst e
    obtain ⟨-, cur, hc⟩ := row_block ho hb
    exact types_ne h4 hc (by decide)
  · rcases hl b hb with h9 | h9
    · exact h.loc b h9
    · exact .inr (Nat.le_trans h1.same.size h9)
  · refine row_kept (row_kept h1.tms hs fun b hb e => ?_) hset fun b hb e => ?_
    · obtain ⟨-, cur, hc⟩ := row_block h1.tms hb
      obtain ⟨-, cur', hc'⟩ := row_block h1.own e
      exact types_ne hc hc' (by decide)
    · subst e
      obtain ⟨-, cur, hc⟩ := row_block h1.tms hb
      exact types_ne h1.obj hc (by decide)
  · refine (h1.same.trans hs fun b hb e => ?_).trans hset fun b hb e => by rw [e]; exact .inl h.tgx
    rcases h.loc b e with h9 | h9
    · exact .inr (.inl h9)
    · omega
theorem Op1.times {tg : Nat → Tg} {w wx W' w4 : World} {i g : Nat} {t : TxM} {ops : List OpM} {ts ts' : List Int} {ov tv v4 : Value} (h : Op1 tg w wx i g t ops ts ov tv) (k : Kept wx W') (ho : OwnI 0 w4 v4 ts') (hs : Same (fun b => tv.ownBlock = some b) W' w4) (hl : ∀ b, v4.ownBlock = some b → tv.ownBlock = some b ∨ W'.heap.size ≤ b) :
    (w4.cell? ⟨g, 8, none⟩ = some tv ∧ w4.frozen? ⟨g, 8, none⟩ = false ∧ g < w4.heap.size ∧ ∃ a n c, v4 = .slice a n c) ∧ Op1 tg w (w4.setCell ⟨g, 8, none⟩ v4) i g t ops ts' ov v4 := by
  have h1 := h.on k
  have hg : ∀ b, tv.ownBlock = some b → ¬ g = b := fun b hb e => by
    subst e
    obtain ⟨-, cur, hc⟩ := row_block h1.tms hb
    exact types_ne h1.obj hc (by decide)
  have h4 : TxB w4 g t ov tv := (hs.block g (lt_of_heap h1.obj) (fun e => hg g e rfl)).trans h1.obj
  obtain ⟨hgl, ⟨-, -, -, -, -, -, -, -, c8⟩, fz⟩ := TxB.cells h4
  obtain ⟨a4, c4, e4, -⟩ := row_shape ho
  have hset : Same (fun b => b = g) w4 (w4.setCell ⟨g, 8, none⟩ v4) := Same.setCell (S := fun b => b = g) (Same.refl _ w4) ⟨g, 8, none⟩ (.inr rfl) v4
  refine ⟨⟨c8, fz 8, hgl, a4, _, c4, e4⟩, h4.put8 v4, ?_, h.loc, row_kept ho hset fun b hb e => ?_, fun b hb => ?_, ?_, h.tgx⟩
  · refine row_kept (row_kept h1.own hs fun b hb e => ?_) hset fun b hb e => ?_
    · obtain ⟨-, cur, hc⟩ := row_block h1.own hb
      obtain ⟨-, cur', hc'⟩ := row_block h1.tms e
      exact types_ne hc hc' (by decide)
    · subst e
      obtain ⟨-, cur, hc⟩ := row_block h1.own hb
      exact types_ne h1.obj hc (by decide)
  · subst e
    obtain ⟨-, cur, hc⟩ := row_block ho hb
    exact types_ne h4 hc (by decide)
  · rcases hl b hb with h9 | h9
    · exact h.tt b h9
    · exact .inr (Nat.le_trans h1.same.size h9)
  · refine (h1.same.trans hs fun b hb e => ?_).trans hset fun b hb e => by rw [e]; exact .inl h.tgx
    rcases h.tt b e with h9 | h9
    · exact .inr (.inr h9)
    · omega
/-- All else of the machine has stayed. -/
theorem Op1.rest {tg : Nat → Tg} {w wx : World} {mb sb vb : Nat} {lv : Value} {P : Nat → Option Nat} {L : List (TxM × Value)} {M : Mm} (hm : Mi tg w mb sb vb lv P L M) {i g : Nat} {t : TxM} {ops : List OpM} {ts : List Int} {ov tv : Value} (h : Op1 tg w wx i g t ops ts ov tv) :
    wx.heap[mb]? = w.heap[mb]? ∧ wx.heap[sb]? = w.heap[sb]? ∧ St (fun b => tg b = .sto) wx vb M.A ∧ OwnT 0 wx lv L ∧ (∀ x ∈ L, OwnO 0 wx x.2 x.1.ops) ∧ ∀ j a, j ≠ i → ∀ g ov tv, TxAt tg w j g a ov tv → TxAt tg wx j g a ov tv := by
  have hno : ∀ b T, tg b = T → T ≠ .tx i → T ≠ .ops i → T ≠ .tms i → ¬ (tg b = .tx i ∨ tg b = .ops i ∨ tg b = .tms i) := fun b T hT h1 h2 h3 hb => by
    rw [hT] at hb
    rcases hb with hb | hb | hb
    · exact h1 hb
    · exact h2 hb
    · exact h3 hb
  refine ⟨h.same.block mb (lt_of_heap hm.obj) (hno _ _ hm.tm (fun e => by cases e) (fun e => by cases e) (fun e => by cases e)), ?_, hm.st.off h.same fun b hb => hno b _ hb (fun e => by cases e) (fun e => by cases e) (fun e => by cases e), row_kept hm.lg h.same fun b hb => hno b _ (hm.tl b hb) (fun e => by cases e) (fun e => by cases e) (fun e => by cases e), fun x hx => row_kept (hm.lo x hx).1 h.same fun b hb => hno b _ ((hm.lo x hx).2 b hb) (fun e => by cases e) (fun e => by cases e) (fun e => by cases e), fun j a hj g' ov' tv' hx => hx.kept h.same fun b hb => ?_⟩
  · obtain ⟨arr, h1, -⟩ := hm.ses
    exact h.same.block sb (lt_of_heap h1) (hno _ _ hm.ts (fun e => by cases e) (fun e => by cases e) (fun e => by cases e))
  · rcases hb with hb | hb | hb <;> exact hno b _ hb (fun e => by cases e <;> exact hj rfl) (fun e => by cases e <;> exact hj rfl) (fun e => by cases e <;> exact hj rfl)
theorem Op1.fin {tg : Nat → Tg} {w wx : World} {mb sb vb : Nat} {lv : Value} {P : Nat → Option Nat} {L : List (TxM × Value)} {M : Mm} (hm : Mi tg w mb sb vb lv P L M) {i g : Nat} (hi : i < M.ses.length) (hp : P i = some g) {t : TxM} {ts : List Int} {ov tv : Value} (h : Op1 tg w wx i g t t.ops ts ov tv) :
    MiP tg w mb sb vb { M with ses := M.ses.set i ⟨(M.at i).begun, some ⟨t, ts⟩⟩ } wx := by
  obtain ⟨r1, r2, r3, r4, r5, r6⟩ := Op1.rest hm h
  have hov : ∀ b, ov.ownBlock = some b → tv.ownBlock ≠ some b := fun b hb e => by
    obtain ⟨-, cur, hc⟩ := row_block h.own hb
    obtain ⟨-, cur', hc'⟩ := row_block h.tms e
    exact types_ne hc hc' (by decide)
  have hlt := hm.lt
  have hout : ∀ b, w.heap.size ≤ b → tg b = .out := fun b hb => Classical.byContradiction fun hn => by have := hlt b hn; omega
  obtain ⟨tg', eT⟩ : ∃ tg', tg' = retag (retag tg (fun b => ov.ownBlock = some b) (.ops i)) (fun b => tv.ownBlock = some b) (.tms i) := ⟨_, rfl⟩
  have t1 : ∀ b, ov.ownBlock = some b → tg' b = .ops i := fun b hb => by
    rw [eT, retag_no (X := fun b => tv.ownBlock = some b) (hov b hb), retag_in (X := fun b => ov.ownBlock = some b) hb]
  have t2 : ∀ b, tv.ownBlock = some b → tg' b = .tms i := fun b hb => by rw [eT, retag_in (X := fun b => tv.ownBlock = some b) hb]
  have t3 : ∀ b, tg b ≠ .out → tg' b = tg b := fun b hb => by
    by_cases h1 : ov.ownBlock = some b
    · rw [t1 b h1]
      rcases h.loc b h1 with h2 | h2
      · exact h2.symm
      · exact absurd (hout b h2) hb
    · by_cases h2 : tv.ownBlock = some b
      · rw [t2 b h2]
        rcases h.tt b h2 with h2 | h2
        · exact h2.symm
        · exact absurd (hout b h2) hb
      · rw [eT, retag_no (X := fun b => tv.ownBlock = some b) h2, retag_no (X := fun b => ov.ownBlock = some b) h1]
  have t4 : ∀ b, tg' b ≠ .out → tg b ≠ .out ∨ (w.heap.size ≤ b ∧ b < wx.heap.size) := fun b hb => by
    by_cases h0 : tg b = .out
    · by_cases h1 : ov.ownBlock = some b
      · obtain ⟨-, cur, hc⟩ := row_block h.own h1
        rcases h.loc b h1 with h2 | h2
        · rw [h2] at h0; cases h0
        · exact .inr ⟨h2, lt_of_heap hc⟩
      · by_cases h2 : tv.ownBlock = some b
        · obtain ⟨-, cur, hc⟩ := row_block h.tms h2
          rcases h.tt b h2 with h2 | h2
          · rw [h2] at h0; cases h0
          · exact .inr ⟨h2, lt_of_heap hc⟩
        · rw [eT, retag_no (X := fun b => tv.ownBlock = some b) h2, retag_no (X := fun b => ov.ownBlock = some b) h1] at hb
          exact absurd h0 hb
    · exact .inl h0
  have t5 : ∀ b, tg' b = .sto ↔ tg b = .sto := fun b => by
    constructor
    · intro hb
      rcases t4 b (by rw [hb]; exact fun e => by cases e) with h1 | ⟨h1, -⟩
      · rw [← t3 b h1]; exact hb
      · exfalso
        have h0 := hout b h1
        by_cases h3 : ov.ownBlock = some b
        · rw [t1 b h3] at hb; cases hb
        · by_cases h4 : tv.ownBlock = some b
          · rw [t2 b h4] at hb; cases hb
          · rw [eT, retag_no (X := fun b => tv.ownBlock = some b) h4, retag_no (X := fun b => ov.ownBlock = some b) h3, h0] at hb
            cases hb
    · intro hb
      rw [t3 b (by rw [hb]; exact fun e => by cases e)]
      exact hb
  have hM : ({ M with ses := M.ses.set i ⟨(M.at i).begun, some ⟨t, ts⟩⟩ } : Mm).ses = M.ses.set i ⟨(M.at i).begun, some ⟨t, ts⟩⟩ := rfl
  refine ⟨tg', lv, P, L, ⟨?_, (t3 mb (by rw [hm.tm]; exact fun e => by cases e)).trans hm.tm, ?_, (t3 sb (by rw [hm.ts]; exact fun e => by cases e)).trans hm.ts, fun j a ha => ?_, fun j hj => ?_, ?_, r4, fun b hb => (t3 b (by rw [hm.tl b hb]; exact fun e => by cases e)).trans (hm.tl b hb), fun x hx => ⟨r5 x hx, fun b hb => (t3 b (by rw [(hm.lo x hx).2 b hb]; exact fun e => by cases e)).trans ((hm.lo x hx).2 b hb)⟩, hm.ll, fun b hb => ?_⟩, fun b hb => ?_, h.same.mono fun b _ hb => ?_⟩
  · rw [r1, hm.obj]
    simp
  · obtain ⟨arr, h1, h2⟩ := hm.ses
    refine ⟨arr, r2.trans h1, fun j hj => ?_⟩
    rw [at_ne hi hM]
    have := h2 j (by simpa using hj)
    split
    · rename_i hij
      subst hij
      exact this
    · exact this
  · rw [at_ne hi hM] at ha
    split at ha
    · rename_i hij
      subst hij
      cases ha
      exact ⟨g, ov, tv, hp, h.obj, (t3 g (by rw [h.tgx]; exact fun e => by cases e)).trans h.tgx, h.own, t1, h.tms, t2⟩
    · rename_i hij
      obtain ⟨g', ov', tv', h1, h2⟩ := hm.act j a ha
      refine ⟨g', ov', tv', h1, (r6 j a (fun e => hij e.symm) g' ov' tv' h2).re fun b hb => t3 b ?_⟩
      rcases hb with hb | hb | hb <;> rw [hb] <;> exact fun e => by cases e
  · rw [at_ne hi hM] at hj
    split at hj
    · cases hj
    · exact hm.non j hj
  · rw [show (fun b => tg' b = .sto) = fun b => tg b = .sto from funext fun b => propext (t5 b)]
    exact r3
  · rcases t4 b hb with h1 | ⟨-, h1⟩
    · exact Nat.lt_of_lt_of_le (hlt b h1) h.same.size
    · exact h1
  · rcases t4 b hb with h1 | ⟨h1, -⟩
    · exact .inl h1
    · exact .inr h1
  · rcases hb with hb | hb | hb <;> rw [hb] <;> exact fun e => by cases e
end Go.Proofs.Ytmghmacgljihcaa
