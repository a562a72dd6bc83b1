/- What is proved: New makes an empty store; Count, At, After and Chain answer what the chains say and leave the store as it is; the store lies in memory, no chain is longer than memory lets it be. -/
import Derived.Test.YtmghmacgljihcaaCSto
import Derived.Carry
namespace Go.Proofs.Ytmghmacgljihcaa
open Go.RowKit

theorem ver_obj {w : World} {b : Nat} {p q r s : Value} {ty : TypeId} (h : w.heap[b]? = some (.cells #[p, q, r, s] ty (0, 0))) :
    (w.cell? ⟨b, 0, none⟩ = some p ∧ w.cell? ⟨b, 1, none⟩ = some q ∧ w.cell? ⟨b, 2, none⟩ = some r ∧ w.cell? ⟨b, 3, none⟩ = some s) ∧ w.frozen? ⟨b, 0, none⟩ = false ∧ w.frozen? ⟨b, 1, none⟩ = false ∧ w.frozen? ⟨b, 2, none⟩ = false ∧ w.frozen? ⟨b, 3, none⟩ = false :=
  ⟨⟨(cell_of h 0).trans rfl, (cell_of h 1).trans rfl, (cell_of h 2).trans rfl, (cell_of h 3).trans rfl⟩, frozen_of h 0, frozen_of h 1, frozen_of h 2, frozen_of h 3⟩
theorem loadVar_ver {w : World} {b : Nat} {x : Vn} (h : w.heap[b]? = some (.cells #[.int .i64 x.c, .int .i64 x.w, .bool x.f, .string x.v] 75 (0, 0))) : (loadVar 75 ⟨b, 0, none⟩).run Try.prog w = .ok (verV x) w := by
  obtain ⟨⟨c0, c1, c2, c3⟩, -⟩ := ver_obj h
  clear h
  unfold verV
  go_simp
theorem put4 {W : World} {g : Nat} {p q r s : Value} {ty : TypeId} (h : W.heap[g]? = some (.cells #[p, q, r, s] ty (0, 0))) (a b c d : Value) :
    ((((W.setCell ⟨g, 0, none⟩ a).setCell ⟨g, 1, none⟩ b).setCell ⟨g, 2, none⟩ c).setCell ⟨g, 3, none⟩ d).heap[g]? = some (.cells #[a, b, c, d] ty (0, 0)) := by
  have h4 := setCell_at (setCell_at (setCell_at (setCell_at h 0 a) 1 b) 2 c) 3 d
  simpa using h4
theorem put4_same {S : Nat → Prop} {w W : World} (k : Same S w W) {g : Nat} (hg : w.heap.size ≤ g ∨ S g) (a b c d : Value) : Same S w ((((W.setCell ⟨g, 0, none⟩ a).setCell ⟨g, 1, none⟩ b).setCell ⟨g, 2, none⟩ c).setCell ⟨g, 3, none⟩ d) :=
  Same.setCell (Same.setCell (Same.setCell (Same.setCell k ⟨g, 0, none⟩ hg a) ⟨g, 1, none⟩ hg b) ⟨g, 2, none⟩ hg c) ⟨g, 3, none⟩ hg d
theorem results_ct {fn : Func} {a t u : Nat} {P : Program} {w : World} {tmps : Array Value} {ad : Addr} {v : Value} (h : fn.results = #[.cell a t, .tmp u]) (ha : tmps.getD a undef = .pointer (some ad)) (hv : (loadVar t ad).run P w = .ok v w) : (results fn tmps).run P w = .ok (.tuple #[v, tmps.getD u undef]) w := by
  have ha' : tmps[a]?.getD undef = .pointer (some ad) := by simpa using ha
  simp [results, h, ha', asAddr, hv]

set_option maxRecDepth 100000 in
theorem new13 (w : World) : Calls Try.prog 22 #[] w fun e w' => e = .returned (.pointer (some ⟨w.heap.size + 2, 0, none⟩)) ∧ St (fun b => w.heap.size ≤ b ∧ b < w.heap.size + 3) w' (w.heap.size + 2) [] ∧ Kept w w' := by
  have hmm := @run_makeMap Try.prog
  go_enter Try.func22, Try.ntmps22
  go_wp2_with fail
  go_ret
  have k0 := (Same.refl (fun _ => False) w).alloc (.map #[] 0)
  have e1 : (w.alloc (.map #[] 0)).heap.size = w.heap.size + 1 := World.size_alloc _ _
  have e2 : ((w.alloc (.map #[] 0)).alloc (.map #[] 0)).heap.size = w.heap.size + 2 := by rw [World.size_alloc, e1]
  have o1 := tight (World.ownsMap_made (H := Value) w Try.prog 9 rawE)
  have o2 := tight (World.ownsMap_made (H := Value) (w.alloc (.map #[] 0)) Try.prog 9 unitElem)
  have o3 := heap_new ((w.alloc (.map #[] 0)).alloc (.map #[] 0)) (.cells #[.map (some w.heap.size), .map (some (w.heap.size + 1)), .int .i64 0] 92 (0, 0))
  rw [e2] at o3
  rw [e1] at o2
  refine ⟨rfl, ⟨w.heap.size, w.heap.size + 1, .map [], .map [], ⟨o3, by omega, by omega, by omega, by omega, (o1.alloc _).alloc _, .inl (Nat.le_refl _), fun k _ => .inl ⟨rfl, rfl⟩, fun k k' v v' g _ _ _ hv => (by have := hv .nil; cases this), Good.nil, fun b hb => by rw [World.size_alloc, e2]; exact hb.2⟩, o2.alloc _, ⟨fun k hk => (by have h0 : Go.Maps.has (DataW.map ([] : List (Lit × DataW Value))) (kl k) = false := rfl; rw [h0] at hk; cases hk), fun k hk => (by rw [ch_nil] at hk; simp at hk)⟩⟩, (k0.alloc _).alloc _⟩
/-- The version that is told, if there is one. -/
def ans (o : Option Vn) : Vn := o.getD v0
set_option maxRecDepth 100000 in
set_option maxHeartbeats 1600000 in
theorem at13 {F : Nat → Prop} {w : World} {sb : Nat} {A : List En} (h : St F w sb A) (k : ByteArray) (hk : k.size ≤ maxLen) (t : Int) (hn : A.length < 4611686018427387904) :
    Calls Try.prog 24 #[.pointer (some ⟨sb, 0, none⟩), .string k, .int .i64 t] w fun e w' => e = .returned (.tuple #[verV (ans (atM (ch A k) t)), .bool (atM (ch A k) t).isSome]) ∧ Kept w w' := by
  obtain ⟨cb, lb, D, DL, h, -⟩ := h
  have HK0 : Hid _ := (Same.refl (fun _ => False) w).alloc (.cells #[.int .i64 0, .int .i64 0, .bool false, .string ⟨#[]⟩] 75 (0, 0))
  have HG : Hid _ := heap_new w (.cells #[.int .i64 0, .int .i64 0, .bool false, .string ⟨#[]⟩] 75 (0, 0))
  have HH : Hid _ := h
  clear h
  generalize hq : atM (ch A k) t = q
  have HQ : Hid _ := hq
  clear hq
  go_enter Try.func24, Try.ntmps24
  go_upto_region 1 with fail
  generalize w.alloc (.cells #[.int .i64 0, .int .i64 0, .bool false, .string ⟨#[]⟩] 75 (0, 0)) = W at HK0 HG ⊢
  have hA := HH.out.good k
  have hch := ch_length_le A k
  obtain ⟨⟨c0, -⟩, -, hb⟩ := (Sc.on HH.out HK0.out).cells
  obtain ⟨v, hrun, ho, -⟩ := (Sc.on HH.out HK0.out).look hk (by simp)
  obtain ⟨a, cap, rfl, hv, -, -, -, -⟩ := OwnV.vers ho
  have hcl := cnt_le (ch A k) t
  have HC : Hid _ := committed_any a (ch A k) cap t _ hv hA (by omega)
  have HV : Hid _ := hv
  clear ho hA hv HH
  generalize ch A k = l at *
  generalize hgg : w.heap.size = g at HG ⊢
  have HGW : Hid (w.heap.size = g) := hgg
  clear hgg
  by_cases h0 : cnt l t = 0
  · rw [h0] at HC
    have HQ0 : Hid (q = none) := by
      show q = none
      have e : atM l t = q := HQ.out
      unfold atM at e
      rw [if_pos h0] at e
      exact e.symm
    clear h0 hcl HQ
    go_wp2_with fail
    refine Calls.mono HC.out ?_
    rintro r w1 ⟨rfl, k1⟩
    have HG1 : Hid (w1.heap[g]? = _) := ((k1.block g (lt_of_heap HG.out) (fun e => e)).trans HG.out)
    obtain ⟨⟨x0, x1, x2, x3⟩, f0, f1, f2, f3⟩ := ver_obj HG1.out
    have K1 : Hid _ := k1
    clear k1
    go_wp2_with fail
    refine bodyPost_ret (results_ct (a := 6) (t := 75) (u := 7) rfl rfl (loadVar_ver (x := v0) (put4 HG1.out _ _ _ _))) rfl ?_
    exact ⟨by rw [show q = _ from HQ0.out]; rfl, put4_same (Same.trans' HK0.out K1.out) (.inl (by rw [show w.heap.size = g from HGW.out]; exact Nat.le_refl _)) _ _ _ _⟩
  · obtain ⟨m, hm⟩ : ∃ m, cnt l t = m + 1 := ⟨cnt l t - 1, by omega⟩
    obtain ⟨x, hx⟩ : ∃ x, l[m]? = some x := ⟨_, List.getElem?_eq_getElem (by omega)⟩
    have HQ0 : Hid (q = some x) := by
      show q = some x
      have e : atM l t = q := HQ.out
      unfold atM at e
      rw [if_neg h0, hm, Nat.add_sub_cancel, hx] at e
      exact e.symm
    rw [hm, Int.natCast_add] at HC
    have hml : (m : Int) < (l.length : Int) := by omega
    have d1 : decide ((m : Int) < (l.length : Int)) = true := decide_eq_true hml
    have d2 : ((m : Int) + 1 == 0) = false := by simp; omega
    have d3 : ¬ ((m : Int) + 1 = 0) := by omega
    have HX : Hid _ := hx
    clear h0 hcl HQ hm hx
    go_wp2_with fail
    refine Calls.mono HC.out ?_
    rintro r w1 ⟨rfl, k1⟩
    have HG1 : Hid (w1.heap[g]? = _) := ((k1.block g (lt_of_heap HG.out) (fun e => e)).trans HG.out)
    obtain ⟨⟨x0, x1, x2, x3⟩, f0, f1, f2, f3⟩ := ver_obj HG1.out
    obtain ⟨b, off, rfl, hb2, y0, y1, y2, y3⟩ := (VersAt.on HV.out k1) m x HX.out
    generalize l.length = n at *
    have K1 : Hid _ := k1
    clear k1
    go_wp2_with fail
    refine bodyPost_ret (results_ct (a := 6) (t := 75) (u := 7) rfl rfl (loadVar_ver (x := x) (put4 HG1.out _ _ _ _))) rfl ?_
    exact ⟨by rw [show q = _ from HQ0.out]; rfl, put4_same (Same.trans' HK0.out K1.out) (.inl (by rw [show w.heap.size = g from HGW.out]; exact Nat.le_refl _)) _ _ _ _⟩
set_option maxRecDepth 100000 in
set_option maxHeartbeats 1600000 in
theorem after13 {F : Nat → Prop} {w : World} {sb : Nat} {A : List En} (h : St F w sb A) (k : ByteArray) (hk : k.size ≤ maxLen) (t : Int) (hn : A.length < 4611686018427387904) :
    Calls Try.prog 56 #[.pointer (some ⟨sb, 0, none⟩), .string k, .int .i64 t] w fun e w' => e = .returned (.tuple #[verV (ans (afM (ch A k) t)), .bool (afM (ch A k) t).isSome]) ∧ Kept w w' := by
  obtain ⟨cb, lb, D, DL, h, -⟩ := h
  have HK0 : Hid _ := (Same.refl (fun _ => False) w).alloc (.cells #[.int .i64 0, .int .i64 0, .bool false, .string ⟨#[]⟩] 75 (0, 0))
  have HG : Hid _ := heap_new w (.cells #[.int .i64 0, .int .i64 0, .bool false, .string ⟨#[]⟩] 75 (0, 0))
  have HH : Hid _ := h
  clear h
  generalize hq : afM (ch A k) t = q
  have HQ : Hid _ := hq
  clear hq
  go_enter Try.func56, Try.ntmps56
  go_upto_region 1 with fail
  generalize w.alloc (.cells #[.int .i64 0, .int .i64 0, .bool false, .string ⟨#[]⟩] 75 (0, 0)) = W at HK0 HG ⊢
  have hA := HH.out.good k
  have hch := ch_length_le A k
  obtain ⟨⟨c0, -⟩, -, hb⟩ := (Sc.on HH.out HK0.out).cells
  obtain ⟨v, hrun, ho, -⟩ := (Sc.on HH.out HK0.out).look hk (by simp)
  obtain ⟨a, cap, rfl, hv, -, -, -, -⟩ := OwnV.vers ho
  have hcl := cnt_le (ch A k) t
  have HC : Hid _ := committed_any a (ch A k) cap t _ hv hA (by omega)
  have HV : Hid _ := hv
  clear ho hA hv HH
  generalize ch A k = l at *
  generalize hgg : w.heap.size = g at HG ⊢
  have HGW : Hid (w.heap.size = g) := hgg
  clear hgg
  by_cases h0 : cnt l t = l.length
  · rw [h0] at HC
    have HQ0 : Hid (q = none) := by
      show q = none
      have e : afM l t = q := HQ.out
      unfold afM at e
      rw [h0] at e
      simpa using e.symm
    clear h0 hcl HQ
    go_wp2_with fail
    refine Calls.mono HC.out ?_
    rintro r w1 ⟨rfl, k1⟩
    have HG1 : Hid (w1.heap[g]? = _) := ((k1.block g (lt_of_heap HG.out) (fun e => e)).trans HG.out)
    obtain ⟨⟨x0, x1, x2, x3⟩, f0, f1, f2, f3⟩ := ver_obj HG1.out
    generalize l.length = n at *
    have K1 : Hid _ := k1
    clear k1
    go_wp2_with fail
    refine bodyPost_ret (results_ct (a := 6) (t := 75) (u := 7) rfl rfl (loadVar_ver (x := v0) (put4 HG1.out _ _ _ _))) rfl ?_
    exact ⟨by rw [show q = _ from HQ0.out]; rfl, put4_same (Same.trans' HK0.out K1.out) (.inl (by rw [show w.heap.size = g from HGW.out]; exact Nat.le_refl _)) _ _ _ _⟩
  · obtain ⟨m, hm⟩ : ∃ m, cnt l t = m := ⟨_, rfl⟩
    obtain ⟨x, hx⟩ : ∃ x, l[m]? = some x := ⟨_, List.getElem?_eq_getElem (by omega)⟩
    have HQ0 : Hid (q = some x) := by
      show q = some x
      have e : afM l t = q := HQ.out
      unfold afM at e
      rw [hm, hx] at e
      exact e.symm
    rw [hm] at HC
    have hml : (m : Int) < (l.length : Int) := by omega
    have d1 : decide ((m : Int) < (l.length : Int)) = true := decide_eq_true hml
    have d2 : ((m : Int) == (l.length : Int)) = false := by simp; omega
    have d3 : ¬ ((m : Int) = (l.length : Int)) := by omega
    have d4 : ¬ (m = l.length) := by omega
    have HX : Hid _ := hx
    clear h0 hcl HQ hm hx
    go_wp2_with fail
    refine Calls.mono HC.out ?_
    rintro r w1 ⟨rfl, k1⟩
    have HG1 : Hid (w1.heap[g]? = _) := ((k1.block g (lt_of_heap HG.out) (fun e => e)).trans HG.out)
    obtain ⟨⟨x0, x1, x2, x3⟩, f0, f1, f2, f3⟩ := ver_obj HG1.out
    obtain ⟨b, off, rfl, hb2, y0, y1, y2, y3⟩ := (VersAt.on HV.out k1) m x HX.out
    generalize l.length = n at *
    have K1 : Hid _ := k1
    clear k1
    go_wp2_with fail
    refine bodyPost_ret (results_ct (a := 6) (t := 75) (u := 7) rfl rfl (loadVar_ver (x := x) (put4 HG1.out _ _ _ _))) rfl ?_
    exact ⟨by rw [show q = _ from HQ0.out]; rfl, put4_same (Same.trans' HK0.out K1.out) (.inl (by rw [show w.heap.size = g from HGW.out]; exact Nat.le_refl _)) _ _ _ _⟩

end Go.Proofs.Ytmghmacgljihcaa
