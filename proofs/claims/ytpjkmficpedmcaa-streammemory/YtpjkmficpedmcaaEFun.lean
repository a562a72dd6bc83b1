/- What is proved: the small functions of extent: end, between, has, inside, meets; the numbers are small. -/
import Derived.Test.YtpjkmficpedmcaaEModel
import Derived.Deep.RegionHeld3
import Derived.BigQuiet
namespace Go.Proofs.Ytpjkmficpedmcaa
open Go.RowKit

abbrev exV (x : Ex) : Value := .agg #[.int .i64 x.f, .int .i64 x.c]
abbrev exO (x : Ex) : Obj := .cells #[.int .i64 x.f, .int .i64 x.c] 65 (0, 0)
theorem loadVar_ext {w : World} {b : Nat} {x : Ex} (h : w.heap[b]? = some (exO x)) : (loadVar 65 ⟨b, 0, none⟩).run Try.prog w = .ok (exV x) w := by
  have c0 : w.cell? ⟨b, 0, none⟩ = some (.int .i64 x.f) := (cell_of h 0).trans rfl
  have c1 : w.cell? ⟨b, 1, none⟩ = some (.int .i64 x.c) := (cell_of h 1).trans rfl
  clear h
  unfold exV
  go_simp
theorem eresults_ct {fn : Func} {a t u : Nat} {P : Program} {w : World} {tmps : Array Value} {ad : Addr} {v : Value} (h : fn.results = #[.cell a t, .tmp u]) (ha : tmps.getD a undef = .pointer (some ad)) (hv : (loadVar t ad).run P w = .ok v w) : (results fn tmps).run P w = .ok (.tuple #[v, tmps.getD u undef]) w := by
  have ha' : tmps[a]?.getD undef = .pointer (some ad) := by simpa using ha
  simp [results, h, ha', asAddr, hv]
theorem eresults_c {fn : Func} {a t : Nat} {P : Program} {w : World} {tmps : Array Value} {ad : Addr} {v : Value} (h : fn.results = #[.cell a t]) (ha : tmps.getD a undef = .pointer (some ad)) (hv : (loadVar t ad).run P w = .ok v w) : (results fn tmps).run P w = .ok v w := by
  have ha' : tmps[a]?.getD undef = .pointer (some ad) := by simpa using ha
  simp [results, h, ha', asAddr, hv]
/-- An extent is stored. -/
def put2 (w : World) (b : Nat) (x : Ex) : World := (w.setCell ⟨b, 0, none⟩ (.int .i64 x.f)).setCell ⟨b, 1, none⟩ (.int .i64 x.c)
theorem put2_at {w : World} {b : Nat} {f : Ex} (h : w.heap[b]? = some (exO f)) (x : Ex) : (put2 w b x).heap[b]? = some (exO x) :=
  (setCell_at (setCell_at h 0 _) 1 _).trans (by simp)
theorem put2_same (w : World) (b : Nat) (x : Ex) : Same (fun k => k = b) w (put2 w b x) :=
  ((Same.refl (fun k => k = b) w).setCell _ (.inr rfl) _).setCell _ (.inr rfl) _

/-- An extent with small numbers. -/
def Sm (x : Ex) : Prop := 0 ≤ x.f ∧ 0 ≤ x.c ∧ x.f + x.c ≤ 4096

set_option maxRecDepth 100000 in
theorem end_any (x : Ex) (hx : Sm x) (w : World) : Calls Try.prog 38 #[exV x] w fun e w' => e = .returned (.int .i64 (x.f + x.c)) ∧ Kept w w' := by
  obtain ⟨h1, h2, h3⟩ := hx
  unfold exV
  obtain ⟨f, c⟩ := x
  simp only at *
  go_enter Try.func38, Try.ntmps38
  go_wp2_with fail
  go_ret
  exact ⟨rfl, (Same.refl _ w).alloc _⟩

set_option maxRecDepth 100000 in
theorem between_any (a b : Int) (h1 : 0 ≤ a) (h2 : a ≤ b) (h3 : b ≤ 4096) (w : World) : Calls Try.prog 37 #[.int .i64 a, .int .i64 b] w fun e w' => e = .returned (exV ⟨a, b - a⟩) ∧ Kept w w' := by
  go_enter Try.func37, Try.ntmps37
  go_wp2_with fail
  refine bodyPost_ret (eresults_c (a := 4) (t := 65) rfl rfl (loadVar_ext (x := ⟨a, b - a⟩) (heap_new _ _))) rfl ⟨rfl, ?_⟩
  exact (Same.refl _ w).alloc _

/-- Two boxes side by side. -/
theorem boxes (w : World) (x y : Ex) : ∀ w3, Kept ((w.alloc (exO x)).alloc (exO y)) w3 → Kept ((w.alloc (exO x)).alloc (exO y)) w3 ∧ w3.cell? ⟨w.heap.size, 0, none⟩ = some (.int .i64 x.f) ∧ w3.cell? ⟨w.heap.size, 1, none⟩ = some (.int .i64 x.c) ∧ w3.cell? ⟨w.heap.size + 1, 0, none⟩ = some (.int .i64 y.f) ∧ w3.cell? ⟨w.heap.size + 1, 1, none⟩ = some (.int .i64 y.c) := fun w3 k => by
  have e0 : w3.heap[w.heap.size]? = some (exO x) := (k.block _ (by simp; omega) (fun h => h)).trans ((heap_old _ _ (by simp)).trans (heap_new _ _))
  have e1 : w3.heap[w.heap.size + 1]? = some (exO y) := (k.block _ (by simp) (fun h => h)).trans (by have := heap_new (w.alloc (exO x)) (exO y); rw [World.size_alloc] at this; exact this)
  exact ⟨k, (cell_of e0 0).trans rfl, (cell_of e0 1).trans rfl, (cell_of e1 0).trans rfl, (cell_of e1 1).trans rfl⟩

set_option maxRecDepth 100000 in
set_option maxHeartbeats 1600000 in
theorem meets_any (x e : Ex) (hx : Sm x) (he : Sm e) (w : World) : Calls Try.prog 47 #[exV x, exV e] w fun r w' => r = .returned (.bool (meetb x e)) ∧ Kept w w' := by
  have H1 : Hid (∀ w', _) := fun w' => end_any x hx w'
  have H2 : Hid (∀ w', _) := fun w' => end_any e he w'
  have HB : Hid _ := boxes w x e
  unfold meetb
  obtain ⟨p1, p2, p3⟩ := hx
  obtain ⟨q1, q2, q3⟩ := he
  unfold exV exO at *
  obtain ⟨f, c⟩ := x
  obtain ⟨f', c'⟩ := e
  simp only at *
  obtain ⟨xe, exe⟩ : ∃ xe, xe = f + c := ⟨_, rfl⟩
  obtain ⟨ye, eye⟩ : ∃ ye, ye = f' + c' := ⟨_, rfl⟩
  rw [← exe] at H1 p3 ⊢
  rw [← eye] at H2 q3 ⊢
  clear exe eye
  by_cases h : f' < xe
  · have h' : decide (f' < xe) = true := decide_eq_true h
    go_enter Try.func47, Try.ntmps47
    go_wp2_with fail
    go_region_held3 (fun w' => Kept ((w.alloc (exO ⟨f, c⟩)).alloc (exO ⟨f', c'⟩)) w' ∧ w'.cell? ⟨w.heap.size, 0, none⟩ = some (.int .i64 f) ∧ w'.cell? ⟨w.heap.size, 1, none⟩ = some (.int .i64 c) ∧ w'.cell? ⟨w.heap.size + 1, 0, none⟩ = some (.int .i64 f') ∧ w'.cell? ⟨w.heap.size + 1, 1, none⟩ = some (.int .i64 c'))
      (exact HB.out _ (by (repeat (first | exact Same.refl _ _ | apply Same.alloc | apply Same.drew | refine Same.trans' ?_ k1 | refine Same.trans' ?_ k2)); done))
      (first
        | (refine Calls.mono (H1.out _) ?_; rintro r w1 ⟨rfl, k1⟩)
        | (refine Calls.mono (H2.out _) ?_; rintro r w2 ⟨rfl, k2⟩))
    all_goals (go_wp2_with fail; go_ret; exact ⟨by simp [h], ((Same.refl _ w).alloc _).alloc _ |>.trans' (by (repeat (first | exact Same.refl _ _ | apply Same.alloc | apply Same.drew | refine Same.trans' ?_ k1 | refine Same.trans' ?_ k2)); done)⟩)
  · have h' : decide (f' < xe) = false := decide_eq_false h
    clear h
    go_enter Try.func47, Try.ntmps47
    go_wp2_with fail
    refine wp_region_held_drew (S := fun w' => Kept ((w.alloc (exO ⟨f, c⟩)).alloc (exO ⟨f', c'⟩)) w' ∧ w'.cell? ⟨w.heap.size, 0, none⟩ = some (.int .i64 f) ∧ w'.cell? ⟨w.heap.size, 1, none⟩ = some (.int .i64 c) ∧ w'.cell? ⟨w.heap.size + 1, 0, none⟩ = some (.int .i64 f') ∧ w'.cell? ⟨w.heap.size + 1, 1, none⟩ = some (.int .i64 c')) (by kernel_rfl) (HB.out _ (by (repeat (first | exact Same.refl _ _ | apply Same.alloc | apply Same.drew | refine Same.trans' ?_ k1 | refine Same.trans' ?_ k2)); done)) (fun hHeld => ?_)
    refine wpAnyH_take (i := 0) (v := .pointer (some ⟨w.heap.size + 1, 0, none⟩)) rfl (by kernel_rfl) (by kernel_rfl) (by kernel_rfl) (fun _ _ _ h => h) (Or.inl ⟨by rfl, fun w hSw => by (dsimp only at hSw; go_simp)⟩) (by assumption) ?_
    (try simp only [Act.put, List.setIfInBounds_toArray])
    refine wpAnyH_take (i := 1) (v := .int .i64 f') rfl (by kernel_rfl) (by kernel_rfl) (by kernel_rfl) (fun _ _ _ h => h) (Or.inl ⟨by rfl, fun w hSw => by (dsimp only at hSw; go_simp)⟩) (by assumption) ?_
    (try simp only [Act.put])
    refine wpAnyH_take (i := 2) (v := .agg #[.int .i64 f, .int .i64 c]) rfl (by kernel_rfl) (by kernel_rfl) (by kernel_rfl) (fun _ _ _ h => h) (Or.inl ⟨by rfl, fun w hSw => by (dsimp only at hSw; go_simp)⟩) (by assumption) ?_
    (try simp only [Act.put])
    refine wpAnyH_ready (rs := [3]) (by kernel_rfl) (by simp) (AllReadyH.cons rfl (fun K hK => ?_) AllReadyH.nil)
    go_simp
    refine Calls.mono (H1.out _) ?_
    rintro r w1 ⟨rfl, k1⟩
    go_wp2_with fail
    refine hK.out _ _ (HB.out _ (by (repeat (first | exact Same.refl _ _ | apply Same.alloc | apply Same.drew | refine Same.trans' ?_ k1 | refine Same.trans' ?_ k2)); done)) (fun hHeld1 => ?_)
    clear hK K hHeld
    (try simp only [Act.put, List.setIfInBounds_toArray, List.set_cons_zero, List.set_cons_succ])
    refine wpAnyH_take (i := 4) (v := .bool false) rfl (by kernel_rfl) (by kernel_rfl) (by kernel_rfl) (fun _ _ _ h => h) (Or.inl ⟨by rfl, fun w hSw => by (dsimp only at hSw; go_simp)⟩) (by assumption) ?_
    (try simp only [Act.put, List.setIfInBounds_toArray])
    refine wpAnyH_take (i := 5) (v := .bool false) rfl (by kernel_rfl) (by kernel_rfl) (by kernel_rfl) (fun _ _ _ h => h) (Or.inl ⟨by rfl, fun w hSw => by (dsimp only at hSw; go_simp)⟩) (by assumption) ?_
    (try simp only [Act.put])
    refine wpAnyH_take (i := 6) (v := undef) rfl (by kernel_rfl) (by kernel_rfl) (by kernel_rfl) (fun _ _ _ h => h) (Or.inr ⟨by rfl, rfl⟩) (by assumption) ?_
    (try simp only [Act.put])
    refine wpAnyH_take (i := 7) (v := undef) rfl (by kernel_rfl) (by kernel_rfl) (by kernel_rfl) (fun _ _ _ h => h) (Or.inr ⟨by rfl, rfl⟩) (by assumption) ?_
    (try simp only [Act.put])
    refine wpAnyH_take (i := 8) (v := undef) rfl (by kernel_rfl) (by kernel_rfl) (by kernel_rfl) (fun _ _ _ h => h) (Or.inr ⟨by rfl, rfl⟩) (by assumption) ?_
    (try simp only [Act.put])
    refine wpAnyH_take (i := 9) (v := undef) rfl (by kernel_rfl) (by kernel_rfl) (by kernel_rfl) (fun _ _ _ h => h) (Or.inr ⟨by rfl, rfl⟩) (by assumption) ?_
    (try simp only [Act.put])
    refine wpAnyH_take (i := 10) (v := undef) rfl (by kernel_rfl) (by kernel_rfl) (by kernel_rfl) (fun _ _ _ h => h) (Or.inr ⟨by rfl, rfl⟩) (by assumption) ?_
    (try simp only [Act.put])
    refine wpAnyH_take (i := 11) (v := .bool false) rfl (by kernel_rfl) (by kernel_rfl) (by kernel_rfl) (fun _ _ _ h => h) (Or.inl ⟨by rfl, fun w hSw => by (dsimp only at hSw; go_simp)⟩) (by assumption) ?_
    simp only [Act.put, List.getElem_toArray, List.getElem_cons_succ, List.getElem_cons_zero, List.setIfInBounds_toArray, List.set_cons_zero, List.set_cons_succ]
    refine wpAnyH_take (i := 12) (v := .bool false) rfl (by kernel_rfl) (by kernel_rfl) (by kernel_rfl) (fun _ _ _ h => h) (Or.inl ⟨by rfl, fun w hSw => by (dsimp only at hSw; go_simp)⟩) (by assumption) ?_
    simp only [Act.put, List.getElem_toArray, List.getElem_cons_succ, List.getElem_cons_zero, List.setIfInBounds_toArray, List.set_cons_zero, List.set_cons_succ]
    refine wpAnyH_done (by kernel_rfl) ?_ _
    go_wp2_with fail
    go_ret
    exact ⟨by rw [h', Bool.false_and]; rfl, ((Same.refl _ w).alloc _).alloc _ |>.trans' (by (repeat (first | exact Same.refl _ _ | apply Same.alloc | apply Same.drew | refine Same.trans' ?_ k1 | refine Same.trans' ?_ k2)); done)⟩

set_option maxRecDepth 100000 in
set_option maxHeartbeats 1600000 in
theorem has_any (p N : Nat) (hs : Value) (x : Ex) (w : World) (hN : N ≤ 4096) (hf : x.f ≤ 9223372036854775807) (hp : w.heap[p]? = some (.cells #[.int .i64 N, hs] 63 (0, 0))) : Calls Try.prog 45 #[.pointer (some ⟨p, 0, none⟩), exV x] w fun r w' => r = .returned (.bool (decide (1 ≤ x.c ∧ 0 ≤ x.f ∧ x.c ≤ N - x.f))) ∧ Kept w w' := by
  have c0 : w.cell? ⟨p, 0, none⟩ = some (.int .i64 N) := (cell_of hp 0).trans rfl
  have hl := lt_of_heap hp
  clear hp
  unfold exV
  obtain ⟨f, c⟩ := x
  simp only at *
  by_cases h1 : 1 ≤ c
  · have h1' : decide (1 ≤ c) = true := decide_eq_true h1
    by_cases h2 : 0 ≤ f
    · have h2' : decide (0 ≤ f) = true := decide_eq_true h2
      by_cases h3 : c ≤ (N : Int) - f
      · have h3' : decide (c ≤ (N : Int) - f) = true := decide_eq_true h3
        rw [decide_eq_true (show 1 ≤ c ∧ 0 ≤ f ∧ c ≤ (N : Int) - f from ⟨h1, h2, h3⟩)]
        go_enter Try.func45, Try.ntmps45
        go_wp2_with fail
        go_quiet (fail)
        go_wp2_with fail
        go_ret
        exact ⟨rfl, ((Same.refl _ w).alloc _).drewN _⟩
      · have h3' : decide (c ≤ (N : Int) - f) = false := decide_eq_false h3
        rw [decide_eq_false (show ¬ (1 ≤ c ∧ 0 ≤ f ∧ c ≤ (N : Int) - f) from fun h => h3 h.2.2)]
        go_enter Try.func45, Try.ntmps45
        go_wp2_with fail
        go_quiet (fail)
        go_wp2_with fail
        go_ret
        exact ⟨rfl, ((Same.refl _ w).alloc _).drewN _⟩
    · have h2' : decide (0 ≤ f) = false := decide_eq_false h2
      rw [decide_eq_false (show ¬ (1 ≤ c ∧ 0 ≤ f ∧ c ≤ (N : Int) - f) from fun h => h2 h.2.1)]
      go_enter Try.func45, Try.ntmps45
      go_wp2_with fail
      go_quiet (fail)
      go_wp2_with fail
      go_ret
      exact ⟨rfl, ((Same.refl _ w).alloc _).drewN _⟩
  · have h1' : decide (1 ≤ c) = false := decide_eq_false h1
    rw [decide_eq_false (show ¬ (1 ≤ c ∧ 0 ≤ f ∧ c ≤ (N : Int) - f) from fun h => h1 h.1)]
    go_enter Try.func45, Try.ntmps45
    go_wp2_with fail
    go_quiet (fail)
    go_wp2_with fail
    go_ret
    exact ⟨rfl, ((Same.refl _ w).alloc _).drewN _⟩
end Go.Proofs.Ytpjkmficpedmcaa
