/- What is proved: New and Child: what they refuse, and the tree that lies in memory behind one that is made; nothing that was there turns but the tree's own blocks. -/
import Derived.Test.YtkkkndbfokjikabAdd
namespace Go.Proofs.Ytkkkndbfokjikab
open Go.Conc Go.RowKit Go.MuLone

/-- A tree of one stop. -/
def seedTr (s : Nat) (sv : Value) (beats : Int) : Tr := { tb := s, sv := sv, n := 1, blk := fun _ => s + 2, ch := fun _ => s + 1, par := fun _ => none, left := fun _ => beats, cause := fun _ => 0 }
/-- A tree with one stop more, below stop i. -/
def kidTr (T : Tr) (i : Nat) (beats c : Int) (sv : Value) (b ch : Nat) : Tr :=
  { tb := T.tb, sv := sv, n := T.n + 1, blk := upd T.blk T.n b, ch := upd T.ch T.n ch, par := upd T.par T.n (some i), left := upd T.left T.n beats, cause := upd T.cause T.n c }

theorem foot_kid {T : Tr} {i : Nat} {beats c : Int} {sv : Value} {b ch s : Nat} (hsv : ∀ k, sv.ownBlock = some k → T.sv.ownBlock = some k ∨ s ≤ k) (hb : s ≤ b) (hc : s ≤ ch) : ∀ k, Foot (kidTr T i beats c sv b ch) k → Foot T k ∨ s ≤ k := by
  rintro k (rfl | hk | ⟨j, hj, hk⟩)
  · exact .inl (.inl rfl)
  · rcases hsv k hk with h | h
    · exact .inl (.inr (.inl h))
    · exact .inr h
  · have hj : j < T.n + 1 := hj
    by_cases e : j = T.n
    · subst e
      simp only [kidTr, upd_same] at hk
      rcases hk with rfl | rfl
      · exact .inr hb
      · exact .inr hc
    · simp only [kidTr, upd_other _ _ e] at hk
      exact .inl (.inr (.inr ⟨j, by omega, hk⟩))

theorem Holds.kid {m : Int} {w w' : World} {T : Tr} (h : Holds m w T) {i : Nat} (hi : i < T.n) (beats : Int) (sv : Value)
    (ht : w'.heap[T.tb]? = some (treeObj m sv)) (hrow : w'.ownsRow 0 24 1 sv (T.n + 1) (ptrs T.blk T.n ++ [.pointer (some ⟨w.heap.size + 1, 0, none⟩)]))
    (ho : w'.heap[w.heap.size + 1]? = some (stopObj T.tb (some (T.blk i)) beats 0 w.heap.size)) (hc : w'.heap[w.heap.size]? = some (chanObj 0)) (hs : Same (fun k => k = T.tb ∨ T.sv.ownBlock = some k) w w') :
    Holds m w' (kidTr T i beats 0 sv (w.heap.size + 1) w.heap.size) where
  tree := ht
  row := by
    show w'.ownsRow 0 24 1 sv (T.n + 1) (ptrs (upd T.blk T.n (w.heap.size + 1)) (T.n + 1))
    rw [ptrs_succ, upd_same, ptrs_congr (blk := upd T.blk T.n (w.heap.size + 1)) (blk' := T.blk) (fun j hj => upd_other _ _ (by omega))]
    exact hrow
  stop j hj := by
    have hj : j < T.n + 1 := hj
    by_cases e : j = T.n
    · subst e
      simp only [kidTr, upd_same, Option.map_some]
      rw [upd_other _ _ (show i ≠ T.n by omega)]
      exact ho
    · have hjn : j < T.n := by omega
      simp only [kidTr, upd_other _ _ e]
      have hm : (T.par j).map (upd T.blk T.n (w.heap.size + 1)) = (T.par j).map T.blk := by
        cases hp : T.par j with
        | none => rfl
        | some p =>
          have := h.par j p hjn hp
          simp only [Option.map_some]
          rw [upd_other _ _ (show p ≠ T.n by omega)]
      rw [hm]
      refine (hs.block _ (lt_of_heap (h.stop j hjn)) ?_).trans (h.stop j hjn)
      rintro (e' | e')
      · exact h.blk_ne_tb hjn e'
      · exact h.row_ne_blk hjn e'
  chan j hj := by
    have hj : j < T.n + 1 := hj
    by_cases e : j = T.n
    · subst e
      simp only [kidTr, upd_same]
      exact hc
    · have hjn : j < T.n := by omega
      simp only [kidTr, upd_other _ _ e]
      refine (hs.block _ (lt_of_heap (h.chan j hjn)) ?_).trans (h.chan j hjn)
      rintro (e' | e')
      · exact h.ch_ne_tb hjn e'
      · exact h.row_ne_ch hjn e'
  par j p hj hp := by
    have hj : j < T.n + 1 := hj
    by_cases e : j = T.n
    · subst e
      simp only [kidTr, upd_same, Option.some.injEq] at hp
      omega
    · simp only [kidTr, upd_other _ _ e] at hp
      exact h.par j p (by omega) hp
  bi j l hj hl he := by
    have hj : j < T.n + 1 := hj
    have hl : l < T.n + 1 := hl
    have hlt : ∀ x, x < T.n → T.blk x < w.heap.size := fun x hx => lt_of_heap (h.stop x hx)
    by_cases e : j = T.n
    · subst e
      by_cases e' : l = T.n
      · exact e'.symm
      · simp only [kidTr, upd_same, upd_other _ _ e'] at he
        have := hlt l (by omega)
        omega
    · by_cases e' : l = T.n
      · subst e'
        simp only [kidTr, upd_same, upd_other _ _ e] at he
        have := hlt j (by omega)
        omega
      · simp only [kidTr, upd_other _ _ e, upd_other _ _ e'] at he
        exact h.bi j l (by omega) (by omega) he
  ci j l hj hl he := by
    have hj : j < T.n + 1 := hj
    have hl : l < T.n + 1 := hl
    have hlt : ∀ x, x < T.n → T.ch x < w.heap.size := fun x hx => lt_of_heap (h.chan x hx)
    by_cases e : j = T.n
    · subst e
      by_cases e' : l = T.n
      · exact e'.symm
      · simp only [kidTr, upd_same, upd_other _ _ e'] at he
        have := hlt l (by omega)
        omega
    · by_cases e' : l = T.n
      · subst e'
        simp only [kidTr, upd_same, upd_other _ _ e] at he
        have := hlt j (by omega)
        omega
      · simp only [kidTr, upd_other _ _ e, upd_other _ _ e'] at he
        exact h.ci j l (by omega) (by omega) he

set_option maxHeartbeats 400000 in
theorem new_no (b : Int) (w : World) (h : b < 0 ∨ 1099511627776 < b) : Calls Try.prog 5 #[.int .i64 b] w fun e w' => e = .returned (.tuple #[.pointer none, .int .i64 10]) ∧ w' = w := by
  have hnot : ∀ (x : Bool) (w : World), (Op.unary .not (.bool x)).run Try.prog w = .ok (.bool (!x)) w := fun _ _ => rfl
  have HR : Hid _ := right_no b w h
  clear h
  go_enter Try.func5, Try.ntmps5
  go_wp2_with (go_at_call 12; refine Calls.mono HR.out ?_; rintro e w' ⟨rfl, rfl⟩)
  go_ret2
  exact ⟨rfl, rfl⟩

set_option maxRecDepth 100000 in
set_option maxHeartbeats 400000 in
theorem new_yes (b : Int) (w : World) (h0 : 0 ≤ b) (h1 : b ≤ 1099511627776) : Calls Try.prog 5 #[.int .i64 b] w fun e w' =>
    e = .returned (.tuple #[.pointer (some ⟨w.heap.size + 2, 0, none⟩), .int .i64 0]) ∧ ∃ sv, Holds 0 w' (seedTr w.heap.size sv b) ∧ (∀ k, Foot (seedTr w.heap.size sv b) k → w.heap.size ≤ k) ∧ Same (fun _ => False) w w' := by
  have hnot : ∀ (x : Bool) (w : World), (Op.unary .not (.bool x)).run Try.prog w = .ok (.bool (!x)) w := fun _ _ => rfl
  have HR : Hid _ := right_yes b w h0 h1
  have hh : (w.alloc (.cells #[.int .i32 0, .int .u32 0, .slice none 0 0] 53)).heap[w.heap.size]? = some (treeObj 0 (.slice none 0 0)) := heap_alloc_new w _
  have HA : Hid _ := add_any 0 w.heap.size 0 (.slice none 0 0) [] none b _ hh (World.ownsRow_nil _ _ _ _) (by omega)
  clear h0 h1 hh
  go_enter Try.func5, Try.ntmps5
  go_wp2_with (first
    | (go_at_call 12; refine Calls.mono HR.out ?_; rintro e w' ⟨rfl, hw⟩; subst w')
    | (go_at_call 13; refine Calls.mono HA.out ?_; rintro e w1 ⟨rfl, sv, a1, a2, a3, a4, a5, a6⟩))
  go_ret2
  simp only [World.size_alloc] at a2 a3 a4 a5
  refine ⟨by simp, sv, ⟨a1, ?_, fun i _ => a4, fun i _ => a5, fun i p _ e => ?_, fun i j hi hj _ => ?_, fun i j hi hj _ => ?_⟩, ?_, ?_⟩
  · simpa [seedTr, ptrs] using a2
  · cases e
  · simp only [seedTr] at hi hj; omega
  · simp only [seedTr] at hi hj; omega
  · rintro k (rfl | hk | ⟨i, _, hk⟩)
    · exact Nat.le_refl _
    · rcases a3 k hk with h | h
      · simp [Value.ownBlock] at h
      · omega
    · simp only [seedTr] at hk; omega
  · refine ((Same.refl _ w).alloc _).trans a6 ?_
    rintro k hk (rfl | h)
    · omega
    · simp [Value.ownBlock] at h
end Go.Proofs.Ytkkkndbfokjikab
