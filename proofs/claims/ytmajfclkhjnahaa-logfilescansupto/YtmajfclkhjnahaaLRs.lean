/- What is proved: the document's scanner in memory: miss, fail and foot; no condition. -/
import Derived.Test.YtmajfclkhjnahaaLMore
import Derived.Test.YtmajfclkhjnahaaLAt
import Derived.Test.YtmajfclkhjnahaaWAt
import Derived.Test.YtmajfclkhjnahaaRArg
import Derived.BigQuiet
namespace Go.Proofs.Ytmajfclkhjnahaa
open Go.RowKit

def rsC (oa : Option Addr) (n c : Nat) (en : Bool) (s : Sc) : Array Value := #[.slice oa n c, .bool en, .int .i64 (s.pl : Int), .int .i64 (s.ct : Int), .bool s.ft, .int .i64 s.er]
/-- The document's scanner in block rb, over the bytes d, at s. -/
structure Rs (w : World) (rb : Nat) (oa : Option Addr) (c : Nat) (d : List Int) (en : Bool) (s : Sc) : Prop where
  obj : w.heap[rb]? = some (.cells (rsC oa d.length c en s) 29 (0, 0))
  arg : ArgB w oa c d
  ne : ∀ k, InB oa d.length k → k ≠ rb
  ple : s.pl ≤ d.length
  cts : s.ct ≤ 4096
section
variable {w w' : World} {rb : Nat} {oa : Option Addr} {c : Nat} {d : List Int} {en : Bool} {s : Sc}
theorem Rs.lt (h : Rs w rb oa c d en s) : rb < w.heap.size := lt_of_heap h.obj
theorem Rs.cells (h : Rs w rb oa c d en s) : w.cell? ⟨rb, 0, none⟩ = some (.slice oa d.length c) ∧ w.cell? ⟨rb, 1, none⟩ = some (.bool en) ∧ w.cell? ⟨rb, 2, none⟩ = some (.int .i64 (s.pl : Int)) ∧ w.cell? ⟨rb, 3, none⟩ = some (.int .i64 (s.ct : Int)) ∧ w.cell? ⟨rb, 4, none⟩ = some (.bool s.ft) ∧ w.cell? ⟨rb, 5, none⟩ = some (.int .i64 s.er) :=
  ⟨(cell_of h.obj 0).trans rfl, (cell_of h.obj 1).trans rfl, (cell_of h.obj 2).trans rfl, (cell_of h.obj 3).trans rfl, (cell_of h.obj 4).trans rfl, (cell_of h.obj 5).trans rfl⟩
theorem Rs.fro (h : Rs w rb oa c d en s) (o : Nat) : w.frozen? ⟨rb, o, none⟩ = false := frozen_of h.obj o
theorem Rs.on (h : Rs w rb oa c d en s) (k : Kept w w') : Rs w' rb oa c d en s := ⟨(k.block _ h.lt (fun h => h)).trans h.obj, h.arg.on k, h.ne, h.ple, h.cts⟩
/-- The scanner at another state. -/
theorem Rs.turn {s' : Sc} (h : Rs w rb oa c d en s) (hs : Same (fun k => k = rb) w w') (ho : w'.heap[rb]? = some (.cells (rsC oa d.length c en s') 29 (0, 0))) (hp : s'.pl ≤ d.length) (hc : s'.ct ≤ 4096) : Rs w' rb oa c d en s' :=
  ⟨ho, ⟨h.arg.data.kept hs (fun k hk => h.ne k hk), h.arg.nil, h.arg.cap, h.arg.byts, h.arg.len⟩, h.ne, hp, hc⟩
set_option maxRecDepth 100000 in
theorem rfail_any (h : Rs w rb oa c d en s) (p : Nat) (hp : p ≤ d.length) (e : Int) : Calls Try.prog 19 #[.pointer (some ⟨rb, 0, none⟩), .int .i64 (p : Int), .int .i64 e] w fun x w' => x = .returned (.int .i64 e) ∧ Rs w' rb oa c d en { s with pl := p, er := e } ∧ Same (fun k => k = rb) w w' := by
  obtain ⟨-, -, c2, -, -, c5⟩ := h.cells
  have f2 := h.fro 2
  have f5 := h.fro 5
  have hlt := h.lt
  have H : Hid _ := h
  have HP : Hid _ := hp
  clear h hp
  go_enter Try.func19, Try.ntmps19
  go_wp2_with fail
  go_ret
  have hs : Same (fun k => k = rb) w ((w.setCell ⟨rb, 2, none⟩ (.int .i64 (p : Int))).setCell ⟨rb, 5, none⟩ (.int .i64 e)) := Same.setCell (Same.setCell (S := fun k => k = rb) (Same.refl _ w) _ (.inr rfl) _) _ (.inr rfl) _
  exact ⟨rfl, H.out.turn hs (setCell_at (setCell_at H.out.obj 2 _) 5 _) HP.out H.out.cts, hs⟩
set_option maxRecDepth 100000 in
theorem rmiss_any (h : Rs w rb oa c d en s) (h0 : s.er = 0) (p : Nat) (hp : p ≤ d.length) : Calls Try.prog 18 #[.pointer (some ⟨rb, 0, none⟩), .int .i64 (p : Int)] w fun x w' => x = .returned (.int .i64 (s.stop en p 51).er) ∧ Rs w' rb oa c d en (s.stop en p 51) ∧ Same (fun k => k = rb) w w' := by
  obtain ⟨-, c1, c2, -, -, c5⟩ := h.cells
  have f2 := h.fro 2
  have f5 := h.fro 5
  have hlt := h.lt
  have H : Hid _ := h
  have HP : Hid _ := hp
  cases en with
  | true =>
    have e : s.stop true p 51 = { s with pl := p, er := 51 } := by unfold Sc.stop; rw [if_neg (by simp)]
    rw [e]
    clear h hp e
    go_enter Try.func18, Try.ntmps18
    go_wp2_with fail
    go_ret
    have hs : Same (fun k => k = rb) w ((w.setCell ⟨rb, 2, none⟩ (.int .i64 (p : Int))).setCell ⟨rb, 5, none⟩ (.int .i64 51)) := Same.setCell (Same.setCell (S := fun k => k = rb) (Same.refl _ w) _ (.inr rfl) _) _ (.inr rfl) _
    exact ⟨rfl, H.out.turn hs (setCell_at (setCell_at H.out.obj 2 _) 5 _) HP.out H.out.cts, hs⟩
  | false =>
    have e : s.stop false p 51 = s := by unfold Sc.stop; rw [if_pos ⟨rfl, rfl⟩]
    rw [e]
    clear h hp e
    go_enter Try.func18, Try.ntmps18
    go_wp2_with fail
    go_ret
    exact ⟨by rw [h0]; rfl, H.out, Same.refl _ _⟩
/-- What foot leaves, with the number that was read. -/
theorem foot_of {d : List Int} {en : Bool} {s : Sc} {m z : Nat} {e : Int} (hq : num 8 (d.drop (s.pl + 1)) = (m, z, e)) : foot d en s = if e ≠ 0 then s.stop en (s.pl + 1) e else if 4096 < m then { s with pl := s.pl + 1, er := 53 } else if m ≠ s.ct then { s with pl := s.pl + 1, er := 72 } else if s.pl + 1 + z < d.length then { s with pl := s.pl + 1 + z, ft := true, er := 61 } else { s with pl := s.pl + 1 + z, ft := true } := by
  unfold foot
  rw [hq]
set_option maxRecDepth 100000 in
set_option maxHeartbeats 1600000 in
theorem rfoot_any (h : Rs w rb oa c d en s) (h0 : s.er = 0) (hp : s.pl + 1 ≤ d.length) : Calls Try.prog 33 #[.pointer (some ⟨rb, 0, none⟩)] w fun x w' => x = .returned (.int .i64 (foot d en s).er) ∧ Rs w' rb oa c d en (foot d en s) ∧ Same (fun k => k = rb) w w' := by
  obtain ⟨c0, -, c2, c3, c4, c5⟩ := h.cells
  have f2 := h.fro 2
  have f4 := h.fro 4
  have hlt := h.lt
  have hle := h.arg.le
  obtain ⟨m, z, e, hq⟩ : ∃ m z e, num 8 (d.drop (s.pl + 1)) = (m, z, e) := ⟨_, _, _, rfl⟩
  have HAT : Hid _ := at_any w oa c d (s.pl + 1) h.arg.data h.arg.byts (by omega) hp
  rw [hq] at HAT
  have hone := num_one (k := 8) (l := d.drop (s.pl + 1)) (Nat.le_refl _) (h.arg.byts.drop _)
  rw [hq, List.length_drop] at hone
  have HF : Hid _ := foot_of (en := en) hq
  obtain ⟨P, eP⟩ : ∃ P, P = s.pl + 1 := ⟨_, rfl⟩
  have hP : (s.pl : Int) + 1 = (P : Int) := by omega
  rw [← eP] at HAT hone hp
  have EP : Hid _ := eP
  have H : Hid _ := h
  have H0 : Hid _ := h0
  have HP : Hid _ := hp
  have hct := h.cts
  have hcti : (s.ct : Int) ≤ 4096 := by omega
  obtain ⟨n, en'⟩ : ∃ n, n = d.length := ⟨_, rfl⟩
  have EN : Hid _ := en'
  rw [← en'] at c0 HAT hle hp hone
  have hni : (n : Int) ≤ 140737488351232 := by omega
  have hPi : (P : Int) ≤ (n : Int) := by omega
  clear h hq h0 eP en' hct
  go_enter Try.func33, Try.ntmps33
  go_wp2_with fail
  refine Calls.mono HAT.out ?_
  rintro x w1 ⟨rfl, rfl⟩
  by_cases he51 : e = 51
  · subst he51
    have HM : Hid _ := rmiss_any H.out H0.out P (by rw [EP.out] at *; exact HP.out)
    go_wp2_with fail
    refine Calls.mono HM.out ?_
    rintro x w2 ⟨rfl, s2, k2⟩
    have S2 : Hid _ := s2
    have K2 : Hid _ := k2
    clear s2 k2
    go_wp2_with fail
    go_ret
    rw [HF.out, if_pos (by decide), ← EP.out]
    exact ⟨rfl, S2.out, K2.out⟩
  · have g1 : (e == 51) = false := by simpa using he51
    by_cases he0 : e = 0
    · subst he0
      obtain ⟨-, o1, o2, -⟩ := hone rfl
      by_cases hm : 4096 < m
      · have g3 : decide ((m : Int) > 4096) = true := decide_eq_true (by omega)
        have g3' : 4096 < (m : Int) := by omega
        have HM : Hid _ := rfail_any H.out P HP.out 53
        have HMM : Hid _ := hm
        clear hone hm
        go_wp2_with fail
        refine Calls.mono HM.out ?_
        rintro x w2 ⟨rfl, s2, k2⟩
        have S2 : Hid _ := s2
        have K2 : Hid _ := k2
        clear s2 k2
        go_wp2_with fail
        go_ret
        rw [HF.out, if_neg (by decide), if_pos HMM.out, ← EP.out]
        exact ⟨rfl, S2.out, K2.out⟩
      · have g3 : decide ((m : Int) > 4096) = false := decide_eq_false (by omega)
        have g3' : (m : Int) ≤ 4096 := by omega
        have HMM : Hid _ := hm
        by_cases hmc : m = s.ct
        · have g4 : ((m : Int) != (s.ct : Int)) = false := by rw [hmc]; simp
          have HMC : Hid _ := hmc
          obtain ⟨Q, eQ⟩ : ∃ Q, Q = P + z := ⟨_, rfl⟩
          have hQ : (P : Int) + (z : Int) = (Q : Int) := by omega
          have hQn : Q ≤ n := by omega
          have hQi : (Q : Int) ≤ (n : Int) := by omega
          have hzi : (z : Int) ≤ (n : Int) := by omega
          have hs2 : Same (fun k => k = rb) w1 ((w1.setCell ⟨rb, 2, none⟩ (.int .i64 (Q : Int))).setCell ⟨rb, 4, none⟩ (.bool true)) := Same.setCell (Same.setCell (S := fun k => k = rb) (Same.refl _ w1) _ (.inr rfl) _) _ (.inr rfl) _
          have r2 : Rs ((w1.setCell ⟨rb, 2, none⟩ (.int .i64 (Q : Int))).setCell ⟨rb, 4, none⟩ (.bool true)) rb oa c d en { s with pl := Q, ft := true } := H.out.turn hs2 (setCell_at (setCell_at H.out.obj 2 _) 4 _) (by rw [← EN.out]; exact hQn) H.out.cts
          have HS2 : Hid _ := hs2
          have HR2 : Hid _ := r2
          have EQ : Hid _ := eQ
          have hFF : foot d en s = if Q < d.length then { s with pl := Q, ft := true, er := 61 } else { s with pl := Q, ft := true } := by
            rw [HF.out, if_neg (by decide), if_neg HMM.out, if_neg (by simpa using hmc), ← EP.out, ← eQ]
          have HFF : Hid _ := hFF
          clear hone hm hmc hs2 r2 eQ hFF HF o1 o2
          by_cases hl : Q < n
          · have g5 : decide ((Q : Int) < (n : Int)) = true := decide_eq_true (by omega)
            have HL : Hid _ := hl
            have HM : Hid (∀ W, Kept ((w1.setCell ⟨rb, 2, none⟩ (.int .i64 (Q : Int))).setCell ⟨rb, 4, none⟩ (.bool true)) W → _) := fun W (kk : Kept ((w1.setCell ⟨rb, 2, none⟩ (.int .i64 (Q : Int))).setCell ⟨rb, 4, none⟩ (.bool true)) W) => rfail_any (HR2.out.on kk) Q (by rw [← EN.out]; exact hQn) 61
            clear hl
            go_wp2_with fail
            go_quiet (fail)
            go_wp2_with fail
            refine Calls.mono (HM.out _ ((Same.refl _ _).drewN _)) ?_
            rintro x w2 ⟨rfl, s2, k2⟩
            have S2 : Hid _ := s2
            have K2 : Hid _ := (HS2.out.drewN _).trans' k2
            clear s2 k2
            go_wp2_with fail
            go_ret
            rw [HFF.out, if_pos (by rw [← EN.out]; exact HL.out)]
            exact ⟨rfl, S2.out, K2.out⟩
          · have g5 : decide ((Q : Int) < (n : Int)) = false := decide_eq_false (by omega)
            have HL : Hid _ := hl
            clear hl
            go_wp2_with fail
            go_quiet (fail)
            go_wp2_with fail
            go_ret
            rw [HFF.out, if_neg (by rw [← EN.out]; exact HL.out)]
            exact ⟨by rw [H0.out]; rfl, HR2.out.on ((Same.refl _ _).drewN _), HS2.out.drewN _⟩
        · have g4 : ((m : Int) != (s.ct : Int)) = true := by simpa using fun cc => hmc (by omega)
          have HM : Hid _ := rfail_any H.out P HP.out 72
          have HMC : Hid _ := hmc
          clear hone hm hmc
          go_wp2_with fail
          refine Calls.mono HM.out ?_
          rintro x w2 ⟨rfl, s2, k2⟩
          have S2 : Hid _ := s2
          have K2 : Hid _ := k2
          clear s2 k2
          go_wp2_with fail
          go_ret
          rw [HF.out, if_neg (by decide), if_neg HMM.out, if_pos HMC.out, ← EP.out]
          exact ⟨rfl, S2.out, K2.out⟩
    · have g2 : (e != 0) = true := by simpa using he0
      have HM : Hid _ := rfail_any H.out P HP.out e
      have HE1 : Hid _ := he51
      have HE2 : Hid _ := he0
      clear he51 he0 hone
      go_wp2_with fail
      refine Calls.mono HM.out ?_
      rintro x w2 ⟨rfl, s2, k2⟩
      have S2 : Hid _ := s2
      have K2 : Hid _ := k2
      clear s2 k2
      go_wp2_with fail
      go_ret
      rw [HF.out, if_pos HE2.out, ← EP.out, stop_ne _ _ _ HE1.out]
      exact ⟨rfl, S2.out, K2.out⟩
end
end Go.Proofs.Ytmajfclkhjnahaa
