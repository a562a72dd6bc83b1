/- What is proved: the document's device: WriteScratch answers as the plain device does, and leaves it; the device and the data lie in memory. -/
import Derived.Test.YtagkgenhgllglaaDRvE
import Derived.Deep.RegionLaw
namespace Go.Proofs.Ytagkgenhgllglaa
open Go.RowKit

theorem splice_nil {α : Type} (L : List α) (off : Nat) : splice L off [] = L := by simp [splice]
theorem splice_snoc (L cs : List Int) (off : Nat) (x : Int) (hf : off + cs.length < L.length) : (splice L off cs).set (off + cs.length) x = splice L off (cs ++ [x]) := by
  apply List.ext_getElem?
  intro i
  have hl : (splice L off cs).length = L.length := length_splice _ _ _ (by omega)
  rw [List.getElem?_set, splice_get _ _ _ _ (by omega), splice_get _ _ _ _ (by simp; omega), hl]
  simp only [List.length_append, List.length_singleton]
  by_cases h1 : off + cs.length = i
  · rw [if_pos h1, if_pos (by omega), if_pos (by omega), List.getElem?_append_right (by omega), show i - off - cs.length = 0 by omega]
    rfl
  · rw [if_neg h1]
    by_cases h2 : off ≤ i ∧ i < off + cs.length
    · rw [if_pos h2, if_pos (by omega), List.getElem?_append_left (by omega)]
    · rw [if_neg h2, if_neg (by omega)]
theorem byt_set (l : List Int) (i : Nat) (x : Int) : (byt l).set i (.int .u8 x) = byt (l.set i x) := by simp [byt, List.map_set]
theorem crash_isK (F : List Fl) (n : Nat) : crash F n = F.find? (isK 4 n) := rfl
theorem fails_isK (F : List Fl) (n : Nat) : fails F n = (F.find? (isK 3 n)).isSome := by
  unfold fails
  rw [Bool.eq_iff_iff, List.find?_isSome, List.any_eq_true]
  exact Iff.rfl

/-- The scratch region turns at one place. -/
theorem Rv.put {w : World} {m : M} {p : RP} {Q : List Rb} {off : Nat} {cs : List Int} {dn : Bool} (h : Rv w (m.torn off cs dn) p Q) (hm : m.scr.length = m.B * m.S) (hf : off + cs.length < m.B * m.S) (x : Int) :
    Rv (w.setCell ⟨p.sb, off + cs.length, none⟩ (.int .u8 x)) (m.torn off (cs ++ [x]) dn) p Q := by
  have ks : Same (fun k => k = p.sb) w (w.setCell ⟨p.sb, off + cs.length, none⟩ (.int .u8 x)) := (Same.refl (fun k => k = p.sb) w).setCell _ (.inr rfl) _
  have hg : Good (m.torn off (cs ++ [x]) dn) := by
    have g := h.good
    refine ⟨g.b1, g.b2, g.s2, g.inp, ?_, g.F, g.fine, g.cI, g.cS, g.cW, g.cT, g.R⟩
    show (splice m.scr off (cs ++ [x])).length = m.B * m.S
    rw [length_splice _ _ _ (by simp; omega), hm]
  refine ⟨(ks.block _ (h.lt (.inl (.inl rfl))) h.db_sb).trans h.dev, h.inp.kept ks fun k hk e => (h.api k hk).1 e, ?_, h.flt.kept ks fun k hk e => (h.apf k hk).1 e, own_on h.seen fun k hk => ks.block _ (h.lt (.inl (.inr (.inr hk)))) fun e => h.sb_sv (by rw [hk, e]), hg, h.cnt, h.api, h.apf⟩
  refine (setCell_at h.scr _ _).trans ?_
  show some (Obj.cells ((byt (splice m.scr off cs)).toArray.setIfInBounds (off + cs.length) (.int .u8 x)) 5 (0, 0)) = some (rowObj (splice m.scr off (cs ++ [x])))
  rw [← splice_snoc _ _ _ _ (by omega)]
  unfold rowObj
  rw [← byt_set, List.setIfInBounds_toArray]
theorem Rv.dies {w : World} {m : M} {p : RP} {Q : List Rb} (h : Rv w m p Q) : Rv (w.setCell ⟨p.db, 10, none⟩ (.bool true)) (m.torn 0 [] true) p Q :=
  h.turn (turn_same _ _ _ _) ((setCell_at h.dev 10 _).trans (by simp [rvObj, M.torn])) rfl (splice_nil _ _) rfl rfl ⟨h.good.b1, h.good.b2, h.good.s2, h.good.inp, by show (splice m.scr 0 []).length = _; rw [splice_nil]; exact h.good.scr, h.good.F, h.good.fine, h.good.cI, h.good.cS, h.good.cW, h.good.cT, h.good.R⟩

set_option maxRecDepth 100000 in
set_option maxHeartbeats 400000 in
theorem rw_no {w : World} {m : M} {p : RP} {Q : List Rb} (h : Rv w m p Q) (b : Int) (a : Option Addr) (nd cap : Nat) (hd : m.down = true ∨ b < 0 ∨ (m.S : Int) ≤ b ∨ nd ≠ m.B) : Calls Try.prog 35 #[.pointer (some ⟨p.db, 0, none⟩), .int .i64 b, .slice a nd cap] w fun e w' => e = .returned (.int .i64 (if m.down = true then 34 else if b < 0 ∨ (m.S : Int) ≤ b then 35 else 36)) ∧ w' = w := by
  have c10 := h.counts.2.2.2.2
  have c1 := h.cells.2.1
  have c0 := h.cells.1
  have hdl := lt_of_heap h.dev
  clear h
  cases hdn : m.down with
  | true =>
    rw [hdn] at c10
    clear hd hdn
    go_enter Try.func35, Try.ntmps35
    go_wp2_with fail
    go_ret
    exact ⟨rfl, rfl⟩
  | false =>
    rw [hdn] at c10 hd
    obtain ⟨S, eS⟩ : ∃ S, S = m.S := ⟨_, rfl⟩
    rw [← eS] at c1 hd ⊢
    obtain ⟨B, eB⟩ : ∃ B, B = m.B := ⟨_, rfl⟩
    rw [← eB] at c0 hd
    clear hdn eS eB
    rw [if_neg (by simp)]
    by_cases h1 : b < 0
    · have h1' : decide (b < 0) = true := decide_eq_true h1
      rw [if_pos (.inl h1)]
      clear hd
      go_enter Try.func35, Try.ntmps35
      go_wp2_with fail
      go_ret
      exact ⟨rfl, rfl⟩
    · have h1' : decide (b < 0) = false := decide_eq_false h1
      by_cases h2 : (S : Int) ≤ b
      · have h2' : decide ((S : Int) ≤ b) = true := decide_eq_true h2
        rw [if_pos (.inr h2)]
        clear hd
        go_enter Try.func35, Try.ntmps35
        go_wp2_with fail
        go_ret
        exact ⟨rfl, rfl⟩
      · have h2' : decide ((S : Int) ≤ b) = false := decide_eq_false h2
        rw [if_neg (by omega)]
        have h3 : nd ≠ B := by
          rcases hd with hd | hd | hd | hd
          · cases hd
          · omega
          · omega
          · exact hd
        have h3' : ((nd : Int) == (B : Int)) = false := by simp; omega
        have h3n : (nd == B) = false := by simpa using h3
        clear hd
        go_enter Try.func35, Try.ntmps35
        go_wp2_with fail
        go_ret
        exact ⟨rfl, rfl⟩
end Go.Proofs.Ytagkgenhgllglaa
