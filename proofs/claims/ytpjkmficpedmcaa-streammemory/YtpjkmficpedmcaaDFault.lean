/- What is proved: writeFault finds the fault that decides a write: the first crash, else one that fails; the device lies in memory. -/
import Derived.Test.YtpjkmficpedmcaaDReads
namespace Go.Proofs.Ytpjkmficpedmcaa
open Go.RowKit

def isCrash (n : Nat) (f : Fl) : Bool := f.k == 4 && f.n == (n : Int)
def isFail (n : Nat) (f : Fl) : Bool := f.k == 3 && f.n == (n : Int)
/-- The first crash that strikes write n. -/
def crash (l : List Fl) (n : Nat) : Option Fl := l.find? (isCrash n)
/-- Whether write n fails. -/
def fails (l : List Fl) (n : Nat) : Bool := l.any (isFail n)

theorem crash_take {l : List Fl} {n j : Nat} {f : Fl} (hf : l[j]? = some f) (h : crash (l.take j) n = none) : crash (l.take (j + 1)) n = if isCrash n f = true then some f else none := by
  rw [List.take_add_one, hf]
  simp only [crash] at *
  rw [List.find?_append, h]
  simp only [Option.toList, Option.none_or, List.find?_cons, List.find?_nil]
  cases isCrash n f <;> simp
theorem crash_here {l : List Fl} {n j : Nat} {f : Fl} (hf : l[j]? = some f) (h : crash (l.take j) n = none) (hc : isCrash n f = true) : crash l n = some f := by
  have h1 := crash_take hf h
  rw [if_pos hc] at h1
  simp only [crash] at *
  rw [← List.take_append_drop (j + 1) l, List.find?_append, h1]
  rfl
theorem fails_take {l : List Fl} {n j : Nat} {f : Fl} (hf : l[j]? = some f) : fails (l.take (j + 1)) n = (fails (l.take j) n || isFail n f) := by
  rw [List.take_add_one, hf]
  simp [fails]

/-- What writeFault answers. -/
def WF (l : List Fl) (n : Nat) (f : Fl) (s : Bool) : Prop :=
  (crash l n = some f ∧ s = true) ∨ (crash l n = none ∧ fails l n = true ∧ s = true ∧ f.k = 3) ∨ (crash l n = none ∧ fails l n = false ∧ s = false)
def fagg (f : Fl) : Value := .agg #[.int .i64 f.k, .int .i64 f.b, .int .i64 f.n, .int .i64 f.p]
abbrev fobj (f : Fl) : Obj := .cells #[.int .i64 f.k, .int .i64 f.b, .int .i64 f.n, .int .i64 f.p] 55 (0, 0)
def f0 : Fl := ⟨0, 0, 0, 0⟩
theorem loadVar_fault {w : World} {b : Nat} {f : Fl} (h : w.heap[b]? = some (fobj f)) : (loadVar 55 ⟨b, 0, none⟩).run Try.prog w = .ok (fagg f) w := by
  have c0 : w.cell? ⟨b, 0, none⟩ = some (.int .i64 f.k) := (cell_of h 0).trans rfl
  have c1 : w.cell? ⟨b, 1, none⟩ = some (.int .i64 f.b) := (cell_of h 1).trans rfl
  have c2 : w.cell? ⟨b, 2, none⟩ = some (.int .i64 f.n) := (cell_of h 2).trans rfl
  have c3 : w.cell? ⟨b, 3, none⟩ = some (.int .i64 f.p) := (cell_of h 3).trans rfl
  clear h
  unfold fagg
  go_simp
theorem results_ct {fn : Func} {a t u : Nat} {P : Program} {w : World} {tmps : Array Value} {ad : Addr} {v : Value} (h : fn.results = #[.cell a t, .tmp u]) (ha : tmps.getD a undef = .pointer (some ad)) (hv : (loadVar t ad).run P w = .ok v w) : (results fn tmps).run P w = .ok (.tuple #[v, tmps.getD u undef]) w := by
  have ha' : tmps[a]?.getD undef = .pointer (some ad) := by simpa using ha
  simp [results, h, ha', asAddr, hv]
/-- A fault is stored. -/
def put4 (w : World) (b : Nat) (x : Fl) : World := (((w.setCell ⟨b, 0, none⟩ (.int .i64 x.k)).setCell ⟨b, 1, none⟩ (.int .i64 x.b)).setCell ⟨b, 2, none⟩ (.int .i64 x.n)).setCell ⟨b, 3, none⟩ (.int .i64 x.p)
theorem put4_at {w : World} {b : Nat} {f : Fl} (h : w.heap[b]? = some (fobj f)) (x : Fl) : (put4 w b x).heap[b]? = some (fobj x) :=
  (setCell_at (setCell_at (setCell_at (setCell_at h 0 _) 1 _) 2 _) 3 _).trans (by simp)
theorem put4_same (w : World) (b : Nat) (x : Fl) : Same (fun k => k = b) w (put4 w b x) :=
  ((((Same.refl (fun k => k = b) w).setCell _ (.inr rfl) _).setCell _ (.inr rfl) _).setCell _ (.inr rfl) _).setCell _ (.inr rfl) _


set_option maxRecDepth 100000 in
set_option maxHeartbeats 3200000 in
theorem wfault_any {w : World} {m : M} {p : Pl} (h : Dv w m p) :
    Calls Try.prog 36 #[.pointer (some ⟨p.db, 0, none⟩)] w fun e w' => ∃ f s, e = .returned (.tuple #[fagg f, .bool s]) ∧ WF m.F m.cW f s ∧ Kept w w' := by
  obtain ⟨-, -, -, -, c4, -⟩ := h.cells
  have hF := h.good.F
  have hl : p.db < w.heap.size := lt_of_heap h.dev
  have HH : Hid _ := h
  obtain ⟨n, en⟩ : ∃ n, n = m.F.length := ⟨_, rfl⟩
  rw [← en] at c4 hF
  have EN : Hid _ := en
  obtain ⟨N, eN⟩ : ∃ N, N = m.cW := ⟨_, rfl⟩
  rw [← eN]
  have ER : Hid _ := eN
  clear h en eN
  go_enter Try.func36, Try.ntmps36
  go_wp2_with fail
  go_loopw [5, 13] (fun sv i wr => ∃ (j : Nat) (f : Fl) (s : Bool), j ≤ n ∧ i = .int .i64 j ∧ sv = .bool s ∧ crash (m.F.take j) N = none ∧ fails (m.F.take j) N = s ∧ (s = true → f.k = 3) ∧ wr.heap[w.heap.size]? = some (fobj f0) ∧ wr.heap[w.heap.size + 1]? = some (fobj f) ∧ Kept w wr) (fun _ i _ => n - (intOf i).toNat)
  case atStart => exact ⟨0, f0, false, Nat.zero_le _, rfl, rfl, rfl, rfl, (fun h => by cases h), (heap_old _ _ (by simp)).trans (heap_new _ _), (by have := heap_new (w.alloc (fobj f0)) (fobj f0); rw [World.size_alloc] at this; exact this), ((Same.refl _ w).alloc _).alloc _⟩
  case round =>
    obtain ⟨j, f, s, hj, rfl, rfl, hcr, hfl, hs3, g0, g1, kk⟩ := hrel
    have G0 : Hid _ := g0
    have G1 : Hid _ := g1
    have KK : Hid _ := kk
    have HCR : Hid _ := hcr
    have HFL : Hid _ := hfl
    have HS3 : Hid _ := hs3
    clear hcr hfl hs3
    have hd := HH.out.kept0 kk
    have z0 : ∀ o, wr.frozen? ⟨w.heap.size, o, none⟩ = false := fun o => frozen_of g0 o
    have z1 : ∀ o, wr.frozen? ⟨w.heap.size + 1, o, none⟩ = false := fun o => frozen_of g1 o
    have a0 : wr.cell? ⟨w.heap.size, 0, none⟩ = some (.int .i64 0) := (cell_of g0 0).trans rfl
    have a1 : wr.cell? ⟨w.heap.size, 1, none⟩ = some (.int .i64 0) := (cell_of g0 1).trans rfl
    have a2 : wr.cell? ⟨w.heap.size, 2, none⟩ = some (.int .i64 0) := (cell_of g0 2).trans rfl
    have a3 : wr.cell? ⟨w.heap.size, 3, none⟩ = some (.int .i64 0) := (cell_of g0 3).trans rfl
    have d0 : wr.cell? ⟨w.heap.size + 1, 0, none⟩ = some (.int .i64 f.k) := (cell_of g1 0).trans rfl
    have d1 : wr.cell? ⟨w.heap.size + 1, 1, none⟩ = some (.int .i64 f.b) := (cell_of g1 1).trans rfl
    have d2 : wr.cell? ⟨w.heap.size + 1, 2, none⟩ = some (.int .i64 f.n) := (cell_of g1 2).trans rfl
    have d3 : wr.cell? ⟨w.heap.size + 1, 3, none⟩ = some (.int .i64 f.p) := (cell_of g1 3).trans rfl
    have l0 := lt_of_heap g0
    have l1 := lt_of_heap g1
    by_cases hlt : j < n
    · have c1 : decide ((j : Int) < (n : Int)) = true := by simp only [decide_eq_true_eq]; omega
      have hlt2 : (j : Int) < (n : Int) := by omega
      obtain ⟨x, hx⟩ : ∃ x, m.F[j]? = some x := ⟨_, List.getElem?_eq_getElem (by rw [← EN.out]; exact hlt)⟩
      obtain ⟨fb, off, hfa, hfb, q0, q1, q2, q3⟩ := hd.flt j x hx
      rw [hfa] at c4 ⊢
      obtain ⟨-, -, t3, -, -⟩ := hd.counts
      rw [← ER.out] at t3
      have hlr : p.db < wr.heap.size := lt_of_heap hd.dev
      have HT := crash_take hx HCR.out (n := N)
      have HT2 := fails_take hx (n := N)
      rw [HFL.out] at HT2
      have HX : Hid _ := hx
      clear hd kk g0 g1 hx
      by_cases hn : x.n = (N : Int)
      · have hn' : (x.n != (N : Int)) = false := by simpa using hn
        by_cases h4 : x.k = 4
        · have h4' : (x.k == 4) = true := by simpa using h4
          have hc : isCrash N x = true := by simp [isCrash, h4, hn]
          have HC : Hid (crash m.F N = some x) := crash_here HX.out HCR.out hc
          clear HT HT2 hc hn h4
          go_wp2_with fail
          go_quiet (fail)
          go_wp2_with fail
          have kx : Kept w ((wr.alloc (fobj x)).drewN nq) := Same.drewN (KK.out.alloc _) _
          have gx : ((wr.alloc (fobj x)).drewN nq).heap[w.heap.size]? = some (fobj f0) := (heap_old _ _ l0).trans G0.out
          refine bodyPost_ret (results_ct (a := 2) (t := 55) (u := 3) rfl rfl (loadVar_fault (f := x) (put4_at gx x))) rfl ⟨x, true, rfl, .inl ⟨HC.out, rfl⟩, ?_⟩
          exact kx.trans (put4_same _ _ _) (fun i hi e => by omega)
        · have h4' : (x.k == 4) = false := by simpa using h4
          have hc : isCrash N x = false := by simp [isCrash, h4]
          rw [if_neg (by rw [hc]; decide)] at HT
          have HT' : Hid _ := HT
          by_cases h3 : x.k = 3
          · have h3' : (x.k == 3) = true := by simpa using h3
            have hf : isFail N x = true := by simp [isFail, h3, hn]
            rw [hf, Bool.or_true] at HT2
            have HF' : Hid _ := HT2
            have H3 : Hid _ := h3
            clear HT HT2 hc hf hn h4 h3
            go_wp2_with fail
            go_quiet (fail)
            go_wp2_with fail
            go_roundw
            case rel =>
              have kx : Kept w ((wr.alloc (fobj x)).drewN nq) := Same.drewN (KK.out.alloc _) _
              have gx : ((wr.alloc (fobj x)).drewN nq).heap[w.heap.size + 1]? = some (fobj f) := (heap_old _ _ l1).trans G1.out
              refine ⟨j + 1, x, true, hlt, by rw [Int.natCast_add]; rfl, rfl, HT'.out, HF'.out, fun _ => H3.out, ?_, put4_at gx x, kx.trans (put4_same _ _ _) (fun i hi e => by omega)⟩
              exact ((put4_same _ _ x).block _ (lt_of_heap ((heap_old _ _ l0).trans G0.out)) (by omega)).trans ((heap_old _ _ l0).trans G0.out)
            case measure => simp only [intOf]; omega
          · have h3' : (x.k == 3) = false := by simpa using h3
            have hf : isFail N x = false := by simp [isFail, h3]
            rw [hf, Bool.or_false] at HT2
            have HF' : Hid _ := HT2
            clear HT HT2 hc hf hn h4 h3
            go_wp2_with fail
            go_quiet (fail)
            go_wp2_with fail
            go_roundw
            case rel => exact ⟨j + 1, f, s, hlt, by rw [Int.natCast_add]; rfl, rfl, HT'.out, HF'.out, HS3.out, (heap_old _ _ l0).trans G0.out, (heap_old _ _ l1).trans G1.out, Same.drewN (KK.out.alloc _) _⟩
            case measure => simp only [intOf]; omega
      · have hn' : (x.n != (N : Int)) = true := by simpa using hn
        have hc : isCrash N x = false := by simp [isCrash, hn]
        have hf : isFail N x = false := by simp [isFail, hn]
        rw [if_neg (by rw [hc]; decide)] at HT
        rw [hf, Bool.or_false] at HT2
        have HT' : Hid _ := HT
        have HF' : Hid _ := HT2
        clear HT HT2 hc hf hn
        go_wp2_with fail
        go_quiet (fail)
        go_wp2_with fail
        go_roundw
        case rel => exact ⟨j + 1, f, s, hlt, by rw [Int.natCast_add]; rfl, rfl, HT'.out, HF'.out, HS3.out, (heap_old _ _ l0).trans G0.out, (heap_old _ _ l1).trans G1.out, Same.drewN (KK.out.alloc _) _⟩
        case measure => simp only [intOf]; omega
    · have ej : j = n := by omega
      subst ej
      have c1 : decide ((j : Int) < (j : Int)) = false := by simp
      clear hd kk g0 g1
      go_wp2_with fail
      have HF1 := HFL.out
      have HC1 := HCR.out
      rw [EN.out, List.take_length] at HF1 HC1
      refine bodyPost_ret (results_ct (a := 2) (t := 55) (u := 3) rfl rfl (loadVar_fault (f := f) (put4_at G0.out f))) rfl ⟨f, s, rfl, ?_, KK.out.trans (put4_same _ _ _) (fun i hi e => by omega)⟩
      cases s with
      | true => exact .inr (.inl ⟨HC1, HF1, rfl, HS3.out rfl⟩)
      | false => exact .inr (.inr ⟨HC1, HF1, rfl⟩)
end Go.Proofs.Ytpjkmficpedmcaa
