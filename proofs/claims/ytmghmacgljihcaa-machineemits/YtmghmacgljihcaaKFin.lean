/- What is proved: a finished transaction lies in the log, and its session has none any more; the machine lies in memory. -/
import Derived.Test.YtmghmacgljihcaaKOpr
namespace Go.Proofs.Ytmghmacgljihcaa
open Go.RowKit

theorem Mi.fin {tg : Nat → Tg} {w Z W' w4 : World} {mb sb vb : Nat} {lv lv' : Value} {P : Nat → Option Nat} {L : List (TxM × Value)} {M : Mm} (hm : Mi tg w mb sb vb lv P L M) {i g : Nat} (hi : i < M.ses.length) {t : TxM} {ts : List Int} {ov tv : Value} (h : Op1 tg w Z i g t t.ops ts ov tv) (k : Kept Z W')
    (ho : OwnT 0 w4 lv' (L ++ [(t, ov)])) (hs : Same (fun b => lv.ownBlock = some b) W' w4) (hl : ∀ b, lv'.ownBlock = some b → lv.ownBlock = some b ∨ W'.heap.size ≤ b) :
    ((w4.cell? ⟨mb, 5, none⟩ = some lv ∧ w4.frozen? ⟨mb, 5, none⟩ = false ∧ mb < w4.heap.size ∧ ∃ a n c, lv' = .slice a n c) ∧
      ((w4.setCell ⟨mb, 5, none⟩ lv').cell? ⟨mb, 3, none⟩ = some (.slice (some ⟨sb, 0, none⟩) M.ses.length M.ses.length) ∧ mb < (w4.setCell ⟨mb, 5, none⟩ lv').heap.size ∧ sb < (w4.setCell ⟨mb, 5, none⟩ lv').heap.size ∧ (w4.setCell ⟨mb, 5, none⟩ lv').cell? ⟨sb, i * 2 + 1, none⟩ = some (.pointer ((P i).map fun g => ⟨g, 0, none⟩)) ∧ (w4.setCell ⟨mb, 5, none⟩ lv').frozen? ⟨sb, i * 2 + 1, none⟩ = false)) ∧
      MiP tg w mb sb vb { M with ses := M.ses.set i ⟨(M.at i).begun, none⟩, log := M.log ++ [t] } ((w4.setCell ⟨mb, 5, none⟩ lv').setCell ⟨sb, i * 2 + 1, none⟩ (.pointer none)) := by
  obtain ⟨r1, r2, -, r4, -, -⟩ := Op1.rest hm h
  obtain ⟨arr, ha, hsa⟩ := hm.ses
  have ne : mb ≠ sb := fun e => by have h1 := hm.tm; rw [e, hm.ts] at h1; cases h1
  have hlg : ∀ b, lv.ownBlock = some b → tg b = .log := hm.tl
  have hmb4 : w4.heap[mb]? = _ := (hs.block mb (Nat.lt_of_lt_of_le (lt_of_heap (r1.trans hm.obj)) k.size) (fun e => by have h1 := hlg mb e; rw [hm.tm] at h1; cases h1)).trans ((k.block mb (lt_of_heap (r1.trans hm.obj)) (fun e => e)).trans (r1.trans hm.obj))
  have hsb4 : w4.heap[sb]? = _ := (hs.block sb (Nat.lt_of_lt_of_le (lt_of_heap (r2.trans ha)) k.size) (fun e => by have h1 := hlg sb e; rw [hm.ts] at h1; cases h1)).trans ((k.block sb (lt_of_heap (r2.trans ha)) (fun e => e)).trans (r2.trans ha))
  have hmb5 : (w4.setCell ⟨mb, 5, none⟩ lv').heap[mb]? = some (.cells #[.int .i64 M.flaw, .int .i64 M.clock, .int .i64 M.begun, .slice (some ⟨sb, 0, none⟩) M.ses.length M.ses.length, .pointer (some ⟨vb, 0, none⟩), lv'] 62 (0, 0)) := by simpa using setCell_at hmb4 5 lv'
  have hsb5 : (w4.setCell ⟨mb, 5, none⟩ lv').heap[sb]? = some (.cells arr 71 (0, 0)) := (heap_set (fun e => ne e.symm)).trans hsb4
  obtain ⟨a4, c4, e4, -⟩ := row_shape ho
  refine ⟨⟨⟨(cell_of hmb4 5).trans rfl, frozen_of hmb4 5, lt_of_heap hmb4, a4, _, c4, e4⟩, (cell_of hmb5 3).trans rfl, lt_of_heap hmb5, lt_of_heap hsb5, (cell_of hsb5 _).trans (hsa i hi).2, frozen_of hsb5 _⟩, ?_⟩
  obtain ⟨w6, e6⟩ : ∃ w6, w6 = (w4.setCell ⟨mb, 5, none⟩ lv').setCell ⟨sb, i * 2 + 1, none⟩ (.pointer none) := ⟨_, rfl⟩
  rw [← e6]
  have hset : Same (fun b => b = mb ∨ b = sb) w4 w6 := by
    rw [e6]
    exact ((Same.refl _ w4).setCell _ (.inr (.inl rfl)) _).setCell _ (.inr (.inr rfl)) _
  have hS : Same (fun b => tg b = .tx i ∨ tg b = .ops i ∨ tg b = .tms i ∨ tg b = .log ∨ tg b = .mach ∨ tg b = .sess) w w6 := by
    refine (((h.same.mono fun b _ hb => ?_).trans k fun b _ e => e.elim).trans hs fun b _ hb => .inr (.inr (.inr (.inl (hlg b hb))))).trans hset fun b _ hb => ?_
    · rcases hb with hb | hb | hb
      · exact .inl hb
      · exact .inr (.inl hb)
      · exact .inr (.inr (.inl hb))
    · rcases hb with rfl | rfl
      · exact .inr (.inr (.inr (.inr (.inl hm.tm))))
      · exact .inr (.inr (.inr (.inr (.inr hm.ts))))
  have hno : ∀ b T, tg b = T → T ≠ .tx i → T ≠ .ops i → T ≠ .tms i → T ≠ .log → T ≠ .mach → T ≠ .sess → ¬ (tg b = .tx i ∨ tg b = .ops i ∨ tg b = .tms i ∨ tg b = .log ∨ tg b = .mach ∨ tg b = .sess) := fun b T hT h1 h2 h3 h4 h5 h6 hb => by
    rw [hT] at hb
    rcases hb with hb | hb | hb | hb | hb | hb
    · exact h1 hb
    · exact h2 hb
    · exact h3 hb
    · exact h4 hb
    · exact h5 hb
    · exact h6 hb
  have hlt := hm.lt
  have hout : ∀ b, w.heap.size ≤ b → tg b = .out := fun b hb => Classical.byContradiction fun hn => by have := hlt b hn; omega
  have hW : w.heap.size ≤ W'.heap.size := Nat.le_trans h.same.size k.size
  have hmb6 : w6.heap[mb]? = some (.cells #[.int .i64 M.flaw, .int .i64 M.clock, .int .i64 M.begun, .slice (some ⟨sb, 0, none⟩) M.ses.length M.ses.length, .pointer (some ⟨vb, 0, none⟩), lv'] 62 (0, 0)) := by rw [e6]; exact (heap_set ne).trans hmb5
  have hsb6 : w6.heap[sb]? = some (.cells (arr.setIfInBounds (i * 2 + 1) (.pointer none)) 71 (0, 0)) := by rw [e6]; exact setCell_at hsb5 _ _
  -- the transaction's operations
  have hov4 : OwnO 0 w4 ov t.ops := row_kept (h.own.on k) hs fun b hb e => by
    obtain ⟨-, cur, hc⟩ := row_block (h.own.on k) hb
    obtain ⟨-, cur', hc'⟩ := row_block (row_kept r4 k fun _ _ e => e) e
    exact types_ne hc hc' (by decide)
  have hov6 : OwnO 0 w6 ov t.ops := row_kept hov4 hset fun b hb e => by
    obtain ⟨-, cur, hc⟩ := row_block hov4 hb
    rcases e with rfl | rfl
    · exact types_ne hc hmb4 (by decide)
    · exact types_ne hc hsb4 (by decide)
  have hlv6 : OwnT 0 w6 lv' (L ++ [(t, ov)]) := row_kept ho hset fun b hb e => by
    obtain ⟨-, cur, hc⟩ := row_block ho hb
    rcases e with rfl | rfl
    · exact types_ne hc hmb4 (by decide)
    · exact types_ne hc hsb4 (by decide)
  have hx : ∀ b, ov.ownBlock = some b → lv'.ownBlock ≠ some b := fun b hb e => by
    obtain ⟨-, cur, hc⟩ := row_block hov6 hb
    obtain ⟨-, cur', hc'⟩ := row_block hlv6 e
    exact types_ne hc hc' (by decide)
  obtain ⟨tg', eT⟩ : ∃ tg', tg' = retag (retag tg (fun b => lv'.ownBlock = some b) .log) (fun b => ov.ownBlock = some b) .lops := ⟨_, rfl⟩
  have t1 : ∀ b, ov.ownBlock = some b → tg' b = .lops := fun b hb => by rw [eT, retag_in (X := fun b => ov.ownBlock = some b) hb]
  have t2 : ∀ b, lv'.ownBlock = some b → tg' b = .log := fun b hb => by
    rw [eT, retag_no (X := fun b => ov.ownBlock = some b) (fun e => hx b e hb), retag_in (X := fun b => lv'.ownBlock = some b) hb]
  have t0 : ∀ b, ov.ownBlock ≠ some b → lv'.ownBlock ≠ some b → tg' b = tg b := fun b h1 h2 => by
    rw [eT, retag_no (X := fun b => ov.ownBlock = some b) h1, retag_no (X := fun b => lv'.ownBlock = some b) h2]
  have t3 : ∀ b, tg b ≠ .out → tg b ≠ .ops i → tg' b = tg b := fun b hb hb2 => by
    by_cases h1 : ov.ownBlock = some b
    · rcases h.loc b h1 with h2 | h2
      · exact absurd h2 hb2
      · exact absurd (hout b h2) hb
    · by_cases h2 : lv'.ownBlock = some b
      · rw [t2 b h2]
        rcases hl b h2 with h3 | h3
        · exact (hlg b h3).symm
        · exact absurd (hout b (Nat.le_trans hW h3)) hb
      · exact t0 b h1 h2
  have t4 : ∀ b, tg' b ≠ .out → tg b ≠ .out ∨ (w.heap.size ≤ b ∧ b < w6.heap.size) := fun b hb => by
    by_cases h0 : tg b = .out
    · right
      by_cases h1 : ov.ownBlock = some b
      · obtain ⟨-, cur, hc⟩ := row_block hov6 h1
        rcases h.loc b h1 with h2 | h2
        · rw [h2] at h0; cases h0
        · exact ⟨h2, lt_of_heap hc⟩
      · by_cases h2 : lv'.ownBlock = some b
        · obtain ⟨-, cur, hc⟩ := row_block hlv6 h2
          rcases hl b h2 with h3 | h3
          · have := hlg b h3
            rw [this] at h0; cases h0
          · exact ⟨Nat.le_trans hW h3, lt_of_heap hc⟩
        · rw [t0 b h1 h2] at hb
          exact absurd h0 hb
    · exact .inl h0
  have t5 : ∀ b, tg' b = .sto ↔ tg b = .sto := fun b => by
    by_cases h1 : ov.ownBlock = some b
    · rw [t1 b h1]
      refine ⟨fun e => (by cases e), fun e => ?_⟩
      rcases h.loc b h1 with h2 | h2
      · rw [h2] at e; cases e
      · rw [hout b h2] at e; cases e
    · by_cases h2 : lv'.ownBlock = some b
      · rw [t2 b h2]
        refine ⟨fun e => (by cases e), fun e => ?_⟩
        rcases hl b h2 with h3 | h3
        · rw [hlg b h3] at e; cases e
        · rw [hout b (Nat.le_trans hW h3)] at e; cases e
      · rw [t0 b h1 h2]
  have hM : ({ M with ses := M.ses.set i ⟨(M.at i).begun, none⟩, log := M.log ++ [t] } : Mm).ses = M.ses.set i ⟨(M.at i).begun, none⟩ := rfl
  refine ⟨tg', lv', fun j => if j = i then none else P j, L ++ [(t, ov)], ⟨?_, (t3 mb (by rw [hm.tm]; exact fun e => by cases e) (by rw [hm.tm]; exact fun e => by cases e)).trans hm.tm, ?_, (t3 sb (by rw [hm.ts]; exact fun e => by cases e) (by rw [hm.ts]; exact fun e => by cases e)).trans hm.ts, fun j a ha => ?_, fun j hj => ?_, ?_, hlv6, t2, fun x hx => ?_, ?_, fun b hb => ?_⟩, fun b hb => ?_, hS.mono fun b _ hb => ?_⟩
  · rw [hmb6]
    simp
  · have hsz : i * 2 + 1 < arr.size := (Array.getElem?_eq_some_iff.1 (hsa i hi).2).1
    refine ⟨_, hsb6, hsa.upd hi hM (fun o ho1 ho2 => ?_) ?_ ?_⟩
    · rw [Array.getElem?_setIfInBounds_ne (fun e => ho2 e.symm)]
    · rw [Array.getElem?_setIfInBounds_ne (by omega)]
      exact (hsa i hi).1
    · rw [Array.getElem?_setIfInBounds_self_of_lt hsz]
      rfl
  · rw [at_ne hi hM] at ha
    split at ha
    · cases ha
    · rename_i hij
      obtain ⟨g', ov', tv', h1, h2⟩ := hm.act j a ha
      refine ⟨g', ov', tv', by rw [if_neg (fun e => hij e.symm)]; exact h1, (h2.kept hS fun b hb => ?_).re fun b hb => t3 b ?_ ?_⟩
      · rcases hb with hb | hb | hb <;> exact hno b _ hb (fun e => by cases e <;> exact hij rfl) (fun e => by cases e <;> exact hij rfl) (fun e => by cases e <;> exact hij rfl) (fun e => by cases e) (fun e => by cases e) (fun e => by cases e)
      · rcases hb with hb | hb | hb <;> rw [hb] <;> exact fun e => by cases e
      · rcases hb with hb | hb | hb <;> rw [hb] <;> exact fun e => by cases e <;> exact hij rfl
  · rw [at_ne hi hM] at hj
    by_cases hij : j = i
    · simp [hij]
    · rw [if_neg (fun e => hij e.symm)] at hj
      rw [if_neg hij]
      exact hm.non j hj
  · rw [show (fun b => tg' b = .sto) = fun b => tg b = .sto from funext fun b => propext (t5 b)]
    exact hm.st.off hS fun b hb => hno b _ hb (fun e => by cases e) (fun e => by cases e) (fun e => by cases e) (fun e => by cases e) (fun e => by cases e) (fun e => by cases e)
  · rcases List.mem_append.1 hx with hx | hx
    · refine ⟨row_kept (hm.lo x hx).1 hS fun b hb => hno b _ ((hm.lo x hx).2 b hb) (fun e => by cases e) (fun e => by cases e) (fun e => by cases e) (fun e => by cases e) (fun e => by cases e) (fun e => by cases e), fun b hb => ?_⟩
      have hb' := (hm.lo x hx).2 b hb
      exact (t3 b (by rw [hb']; exact fun e => by cases e) (by rw [hb']; exact fun e => by cases e)).trans hb'
    · cases List.mem_singleton.1 hx
      exact ⟨hov6, t1⟩
  · rw [List.map_append, hm.ll]
    rfl
  · rcases t4 b hb with h1 | ⟨-, h1⟩
    · exact Nat.lt_of_lt_of_le (hlt b h1) hS.size
    · exact h1
  · rcases t4 b hb with h1 | ⟨h1, -⟩
    · exact .inl h1
    · exact .inr h1
  · rcases hb with hb | hb | hb | hb | hb | hb <;> rw [hb] <;> exact fun e => by cases e
end Go.Proofs.Ytmghmacgljihcaa
