/- What is proved: Once finds the first edge that closes a cycle; the graph lies in memory. -/
import Derived.Test.YtbhihmkgimdjpaaDoorGhBu
namespace Go.Proofs.YtbhihmkgimdjpaaDoor
open Go.RowKit

open Classical in
/-- Does the edge have the label and close a cycle? -/
noncomputable def clo (E : List Eg) (m lb : Int) (e : Eg) : Bool := decide (e.l = lb ∧ (e.t = e.f ∨ Way (adj E m) e.t.toNat e.f.toNat))
theorem clo_iff {E : List Eg} {m lb : Int} {e : Eg} : clo E m lb e = true ↔ e.l = lb ∧ (e.t = e.f ∨ Way (adj E m) e.t.toNat e.f.toNat) := by simp [clo]
/-- What Once answers. -/
noncomputable def onceR (E : List Eg) (m lb : Int) : Option Eg := (srt ltE E).find? (clo E m lb)
def onV : Option Eg → Value
  | some e => .tuple #[egV e, .bool true]
  | none => .tuple #[egV ⟨0, 0, 0⟩, .bool false]
theorem find_none_take {α : Type} {p : α → Bool} {l : List α} {j : Nat} (h : ∀ i x, i < j → l[i]? = some x → p x = false) {x : α} (hx : l[j]? = some x) (hp : p x = true) : l.find? p = some x := by
  induction l generalizing j with
  | nil => simp at hx
  | cons a r ih =>
    cases j with
    | zero =>
      simp only [List.getElem?_cons_zero, Option.some.injEq] at hx
      subst hx
      rw [List.find?_cons, hp]
    | succ j =>
      have ha := h 0 a (by omega) rfl
      rw [List.find?_cons, ha]
      exact ih (j := j) (fun i y hi hy => h (i + 1) y (by omega) (by simpa using hy)) (by simpa using hx)
theorem find_none_all {α : Type} {p : α → Bool} {l : List α} (h : ∀ (i : Nat) x, i < l.length → l[i]? = some x → p x = false) : l.find? p = none := by
  rw [List.find?_eq_none]
  intro x hx
  obtain ⟨i, hi, e⟩ := List.mem_iff_getElem.1 hx
  rw [h i x hi (by rw [List.getElem?_eq_getElem hi, e])]
  simp
theorem load_eg {W : World} {g : Nat} {e : Eg} (h : W.heap[g]? = some (egO e)) : (loadVar 33 ⟨g, 0, none⟩).run Tryd.prog W = .ok (egV e) W := by
  obtain ⟨f, t, l⟩ := e
  have c0 := (cell_of h 0).trans (show (#[Value.int .i64 f, .int .i64 t, .int .i64 l] : Array Value)[0]? = some (.int .i64 f) from rfl)
  have c1 := (cell_of h 1).trans (show (#[Value.int .i64 f, .int .i64 t, .int .i64 l] : Array Value)[1]? = some (.int .i64 t) from rfl)
  have c2 := (cell_of h 2).trans (show (#[Value.int .i64 f, .int .i64 t, .int .i64 l] : Array Value)[2]? = some (.int .i64 l) from rfl)
  go_simp
theorem put_eg {W : World} {g : Nat} {x : Eg} (h : W.heap[g]? = some (egO x)) (f t l : Int) : (((W.setCell ⟨g, 0, none⟩ (.int .i64 f)).setCell ⟨g, 1, none⟩ (.int .i64 t)).setCell ⟨g, 2, none⟩ (.int .i64 l)).heap[g]? = some (egO ⟨f, t, l⟩) := (setCell_at (setCell_at (setCell_at h 0 _) 1 _) 2 _).trans rfl
/-- What was searched last. -/
def Rc (base n : Nat) (W : World) (E : List Eg) (m : Int) (v : Value) (s : Int) : Prop := s = -1 ∨ ∃ (f gc : Nat) (c : Nat → Option Nat), s = (f : Int) ∧ v = .slice (some ⟨gc, 0, none⟩) n n ∧ OwnI base W v (cL n c) ∧ ∀ y, (c y).isSome = true ↔ Way (jda E m) f y
theorem Rc.on {base n : Nat} {W W' : World} {E : List Eg} {m : Int} {v : Value} {s : Int} (h : Rc base n W E m v s) (k : Kept W W') : Rc base n W' E m v s := by
  rcases h with h | ⟨f, gc, c, h1, h2, h3, h4⟩
  · exact .inl h
  · exact .inr ⟨f, gc, c, h1, h2, h3.on k, h4⟩
/-- What stands while the edges are gone through. -/
structure OnS (w W : World) (H H8 n g gl cap : Nat) (a : Option Addr) (E : List Eg) (m lb : Int) (tl : List Nat) (v : Value) (s : Int) (j : Nat) : Prop where
  res : W.heap[H]? = some (egO ⟨0, 0, 0⟩)
  tb : W.heap[H8]? = some (tbO n g (n * wN n) (n * wN n))
  tab : OwnW w.heap.size W (.slice (some ⟨g, 0, none⟩) (n * wN n) (n * wN n)) tl
  l : OwnE w.heap.size W (.slice a gl cap) (srt ltE E)
  r : Rc w.heap.size n W E m v s
  k : Kept w W
  no : ∀ i x, i < j → (srt ltE E)[i]? = some x → clo E m lb x = false
theorem OnS.on {w W W' : World} {H H8 n g gl cap : Nat} {a : Option Addr} {E : List Eg} {m lb : Int} {tl : List Nat} {v : Value} {s : Int} {j : Nat} (h : OnS w W H H8 n g gl cap a E m lb tl v s j) (k : Kept W W') : OnS w W' H H8 n g gl cap a E m lb tl v s j :=
  ⟨(k.block H (lt_of_heap h.res) (fun e => e)).trans h.res, (k.block H8 (lt_of_heap h.tb) (fun e => e)).trans h.tb, h.tab.on k, h.l.on k, h.r.on k, h.k.trans' k, h.no⟩
theorem OnS.next {w W : World} {H H8 n g gl cap : Nat} {a : Option Addr} {E : List Eg} {m lb : Int} {tl : List Nat} {v v' : Value} {s s' : Int} {j : Nat} {x : Eg} (h : OnS w W H H8 n g gl cap a E m lb tl v s j) (hx : (srt ltE E)[j]? = some x) (hc : clo E m lb x = false) (hr : Rc w.heap.size n W E m v' s') : OnS w W H H8 n g gl cap a E m lb tl v' s' (j + 1) :=
  ⟨h.res, h.tb, h.tab, h.l, hr, h.k, fun i y hi hy => by
    by_cases e : i = j
    · subst e
      rw [hx] at hy
      cases hy
      exact hc
    · exact h.no i y (by omega) hy⟩
set_option maxRecDepth 100000 in
set_option maxHeartbeats 6400000 in
theorem once19 {w : World} {gb n : Nat} {E : List Eg} (h : Gp w gb n E) (hT : TabG w) (m lb : Int) : Calls Tryd.prog 21 #[.pointer (some ⟨gb, 0, none⟩), .int .i64 m, .int .i64 lb] w fun r w' => r = .returned (onV (onceR E m lb)) ∧ Same (fun k => w.heap.size ≤ k) w w' := by
  have HA : Hid (∀ W, Kept w W → _) := fun W k => ahead19 (h.on k) m
  have HED : Hid (∀ W, Kept w W → _) := fun W k => edges19 (h.on k)
  have HG : Hid (Gp w gb n E) := h
  have HT : Hid (TabG w) := hT
  have HNL : Hid (n ≤ 1024) := h.nle
  have HJ : Hid (∀ p q, jda E m p q = true → q < n) := fun p q hpq => by
    obtain ⟨e, he, h1, h2, h3⟩ := jda_iff.1 hpq
    have := h.fit e he
    have := this.fn
    omega
  have HEL : Hid (∀ e ∈ srt ltE E, EFit n e) := fun e he => h.fit e ((srt_perm ltE E).mem_iff.1 he)
  have hlen := h.len
  clear h hT
  go_enter Tryd.func21, Tryd.ntmps21
  go_wp2_with fail
  refine Calls.mono (HA.out _ ((Same.refl _ w).alloc _)) ?_
  rintro r w1 ⟨g, tl, rfl, ol, ll, htl, k1⟩
  obtain ⟨H, eH⟩ : ∃ H, H = w.heap.size := ⟨_, rfl⟩
  have h0 : w1.heap[H]? = some (egO ⟨0, 0, 0⟩) := (k1.block H (by rw [World.size_alloc]; omega) (fun e => e)).trans (by rw [eH]; exact heap_new w _)
  have HHH : Hid (H = w.heap.size) := eH
  rw [← eH]
  obtain ⟨H8, eH8⟩ : ∃ H8, H8 = w1.heap.size := ⟨_, rfl⟩
  have hw1 : H < w1.heap.size := lt_of_heap h0
  have HW1 : Hid ((w1.alloc (tbO n g (n * wN n) (n * wN n))).heap[H]? = some (egO ⟨0, 0, 0⟩) ∧ (w1.alloc (tbO n g (n * wN n) (n * wN n))).heap[H8]? = some (tbO n g (n * wN n) (n * wN n)) ∧ OwnW w.heap.size (w1.alloc (tbO n g (n * wN n) (n * wN n))) (.slice (some ⟨g, 0, none⟩) (n * wN n) (n * wN n)) tl ∧ Kept w (w1.alloc (tbO n g (n * wN n) (n * wN n)))) := by
    have ka : Kept w1 (w1.alloc (tbO n g (n * wN n) (n * wN n))) := (Same.refl _ w1).alloc _
    refine ⟨(ka.block H hw1 (fun e => e)).trans h0, by rw [eH8]; exact heap_new w1 _, (ol.base (by rw [World.size_alloc]; omega)).on ka, (((Same.refl (fun _ => False) w).alloc _).trans' k1).trans' ka⟩
  have HTL : Hid (tl.length = n * wN n ∧ Tbl (wN n) tl (jda E m)) := ⟨ll, htl⟩
  clear ol ll htl k1 h0 eH hw1
  go_wp2_with fail
  rw [← eH8]
  generalize w1.alloc (tbO n g (n * wN n) (n * wN n)) = W2 at HW1 ⊢
  clear eH8
  refine Calls.mono (HED.out _ HW1.out.2.2.2) ?_
  rintro r w3 ⟨v, rfl, o3, k3⟩
  obtain ⟨al, cap, rfl, -⟩ := o3.shape
  have hsl : (srt ltE E).length ≤ 65536 := by rw [srt_len]; exact hlen
  obtain ⟨gl, egl⟩ : ∃ gl, gl = (srt ltE E).length := ⟨_, rfl⟩
  rw [← egl] at o3 hsl ⊢
  have HGL : Hid (gl = (srt ltE E).length) := egl
  have HOS0 : Hid (OnS w w3 H H8 n g gl cap al E m lb tl (.slice none 0 0) (-1) 0) := by
    obtain ⟨q1, q2, q3, q4⟩ := HW1.out
    exact ⟨(k3.block H (lt_of_heap q1) (fun e => e)).trans q1, (k3.block H8 (lt_of_heap q2) (fun e => e)).trans q2, q3.on k3, o3.base q4.size, .inl rfl, q4.trans' k3, fun i x hi _ => by omega⟩
  clear o3 k3 egl HW1 HA HED hlen
  go_wp2_with fail
  go_loopw [9, 10, 19] (fun v9 s10 i wr => ∃ (j : Nat) (s : Int), s10 = .int .i64 s ∧ i = .int .i64 (j : Int) ∧ j ≤ gl ∧ OnS w wr H H8 n g gl cap al E m lb tl v9 s j) (fun _ _ i _ => gl - (intOf i).toNat)
  case atStart => exact ⟨0, -1, rfl, rfl, Nat.zero_le _, HOS0.out⟩
  case round =>
    obtain ⟨j, s, rfl, rfl, hj, os⟩ := hrel
    rename World => WL
    have HOL : Hid (OnS w WL H H8 n g gl cap al E m lb tl _ s j) := os
    by_cases hlt : j < gl
    · have c1 : (j : Int) < (gl : Int) := by omega
      have c2 : (j : Int) ≤ 65536 := by omega
      obtain ⟨x, hx⟩ : ∃ x, (srt ltE E)[j]? = some x := ⟨_, List.getElem?_eq_getElem (by rw [← show gl = _ from HGL.out]; exact hlt)⟩
      obtain ⟨bb, off, rfl, hb, hc⟩ := os.l.at ekE j x hx
      have p0 : WL.cell? ⟨bb, off + j * 3, none⟩ = some (.int .i64 x.f) := hc 0 _ rfl
      have p1 : WL.cell? ⟨bb, off + j * 3 + 1, none⟩ = some (.int .i64 x.t) := hc 1 _ rfl
      have p2 : WL.cell? ⟨bb, off + j * 3 + 2, none⟩ = some (.int .i64 x.l) := hc 2 _ rfl
      have hfx := HEL.out x (List.mem_of_getElem? hx)
      obtain ⟨a, ea⟩ : ∃ a : Nat, x.f = a := ⟨x.f.toNat, by have := hfx.f0; omega⟩
      obtain ⟨b, eb⟩ : ∃ b : Nat, x.t = b := ⟨x.t.toNat, by have := hfx.t0; omega⟩
      have han : a < n := by have := hfx.fn; omega
      have hbn : b < n := by have := hfx.tn; omega
      have K4 : Kept WL (WL.alloc (egO x)) := (Same.refl _ WL).alloc _
      have os4 := os.on K4
      have HB9 : Hid ((WL.alloc (egO x)).heap[WL.heap.size]? = some (egO x)) := heap_new WL _
      obtain ⟨xf, xt, xl⟩ := x
      simp only at ea eb p0 p1 p2
      subst ea eb
      have HO4 : Hid (OnS w (WL.alloc (egO ⟨(a : Int), (b : Int), xl⟩)) H H8 n g gl cap _ E m lb tl _ s j) := os4
      have HXX0 : Hid ((srt ltE E)[j]? = some ⟨(a : Int), (b : Int), xl⟩ ∧ j < gl ∧ a < n ∧ b < n) := ⟨hx, hlt, han, hbn⟩
      clear os os4 hc hx hfx K4 HOS0
      by_cases hl : xl = lb
      · obtain rfl : lb = xl := hl.symm
        have hl1 : (lb != lb) = false := by simp
        have HXX : Hid ((srt ltE E)[j]? = some ⟨(a : Int), (b : Int), lb⟩ ∧ j < gl ∧ a < n ∧ b < n) := HXX0.out
        have hb3 := HB9.out
        have b0 := (cell_of hb3 0).trans (show (#[Value.int .i64 a, .int .i64 b, .int .i64 lb] : Array Value)[0]? = some (.int .i64 a) from rfl)
        have b1 := (cell_of hb3 1).trans (show (#[Value.int .i64 a, .int .i64 b, .int .i64 lb] : Array Value)[1]? = some (.int .i64 b) from rfl)
        have b2 := (cell_of hb3 2).trans (show (#[Value.int .i64 a, .int .i64 b, .int .i64 lb] : Array Value)[2]? = some (.int .i64 lb) from rfl)
        clear hb3 hl
        by_cases hs : (a : Int) = s
        · subst hs
          have hs1 : ((a : Int) != (a : Int)) = false := by simp
          have HRC : Hid (∃ (gc : Nat) (c : Nat → Option Nat), u9 = .slice (some ⟨gc, 0, none⟩) n n ∧ OwnI w.heap.size (WL.alloc (egO ⟨(a : Int), (b : Int), lb⟩)) u9 (cL n c) ∧ ∀ y, (c y).isSome = true ↔ Way (jda E m) a y) := by
            rcases HO4.out.r with e | ⟨f, gc, c, h1, h2, h3, h4⟩
            · omega
            · obtain rfl : a = f := by omega
              exact ⟨gc, c, h2, h3, h4⟩
          clear hlt han hbn HXX0 HB9
          go_upto_region 10 with fail
          have HOS : Hid _ := HO4.out
          clear HO4 HOL p0 p1 p2
          generalize WL.alloc (egO ⟨(a : Int), (b : Int), lb⟩) = W5 at HOS HRC b0 b1 b2 ⊢
          generalize WL.heap.size = eb at b0 b1 b2 ⊢
          by_cases hab : b = a
          · have hab' : a = b := hab.symm
            subst hab'
            have hab1 : ((a : Int) == (a : Int)) = true := by simp
            have hab2 : (a : Int) = (a : Int) := rfl
            have hcl : clo E m lb ⟨(a : Int), (a : Int), lb⟩ = true := clo_iff.2 ⟨rfl, .inl hab2⟩
            have HFD : Hid (onceR E m lb = some ⟨(a : Int), (a : Int), lb⟩) := find_none_take HOS.out.no HXX.out.1 hcl
            have HPE : Hid _ := put_eg HOS.out.res (a : Int) (a : Int) lb
            have HKS : Hid (Same (fun k => k = H) w (((W5.setCell ⟨H, 0, none⟩ (.int .i64 (a : Int))).setCell ⟨H, 1, none⟩ (.int .i64 (a : Int))).setCell ⟨H, 2, none⟩ (.int .i64 lb))) := (((Kept.to HOS.out.k (fun k => k = H)).setCell ⟨H, 0, none⟩ (Or.inr (show H = H from rfl)) _).setCell ⟨H, 1, none⟩ (Or.inr (show H = H from rfl)) _).setCell ⟨H, 2, none⟩ (Or.inr (show H = H from rfl)) _
            have r0 := (cell_of HOS.out.res 0).trans (show (#[Value.int .i64 0, .int .i64 0, .int .i64 0] : Array Value)[0]? = some (.int .i64 0) from rfl)
            have r1 := (cell_of HOS.out.res 1).trans (show (#[Value.int .i64 0, .int .i64 0, .int .i64 0] : Array Value)[1]? = some (.int .i64 0) from rfl)
            have r2 := (cell_of HOS.out.res 2).trans (show (#[Value.int .i64 0, .int .i64 0, .int .i64 0] : Array Value)[2]? = some (.int .i64 0) from rfl)
            have f0 := frozen_of HOS.out.res 0
            have f1 := frozen_of HOS.out.res 1
            have f2 := frozen_of HOS.out.res 2
            clear hab2 hcl
            go_wp2_with fail
            refine bodyPost_ret (results_gt rfl rfl (load_eg HPE.out)) rfl ?_
            exact ⟨by rw [HFD.out]; rfl, HKS.out.mono fun i hi e => by have e : i = H := e; have := HHH.out; omega⟩
          · have hab1 : ((b : Int) == (a : Int)) = false := by simp; omega
            have hab2 : ¬ (b : Int) = (a : Int) := by omega
            obtain ⟨gc, c, rfl, oc, hway⟩ := HRC.out
            have hbn : b < n := HXX.out.2.2.2
            have hbi : (b : Int) < (n : Int) := by omega
            have hbb : (b : Int) ≤ 1024 := by have := HNL.out; omega
            have pc := (oc.cell1 ekI (cL_at hbn) rfl).1
            have HRR : Hid (Rc w.heap.size n W5 E m (.slice (some ⟨gc, 0, none⟩) n n) (a : Int)) := .inr ⟨a, gc, c, rfl, rfl, oc, hway⟩
            have hcw : clo E m lb ⟨(a : Int), (b : Int), lb⟩ = (cv c b != -1) := by
              rw [Bool.eq_iff_iff, clo_iff, bne_iff_ne, ne_eq, cv_none, Bool.not_eq_false, hway, way_jda]
              simp only [true_and, hab2, false_or, Int.toNat_natCast]
            have HCW : Hid _ := hcw
            clear oc hway hcw hab
            generalize hz : cv c b = z at pc HCW
            clear hz
            cases hz2 : (z != -1) with
            | true =>
              have hcl : clo E m lb ⟨(a : Int), (b : Int), lb⟩ = true := by rw [HCW.out, hz2]
              have HFD : Hid (onceR E m lb = some ⟨(a : Int), (b : Int), lb⟩) := find_none_take HOS.out.no HXX.out.1 hcl
              have HPE : Hid _ := put_eg HOS.out.res (a : Int) (b : Int) lb
              have HKS : Hid (Same (fun k => k = H) w (((W5.setCell ⟨H, 0, none⟩ (.int .i64 (a : Int))).setCell ⟨H, 1, none⟩ (.int .i64 (b : Int))).setCell ⟨H, 2, none⟩ (.int .i64 lb))) := (((Kept.to HOS.out.k (fun k => k = H)).setCell ⟨H, 0, none⟩ (Or.inr (show H = H from rfl)) _).setCell ⟨H, 1, none⟩ (Or.inr (show H = H from rfl)) _).setCell ⟨H, 2, none⟩ (Or.inr (show H = H from rfl)) _
              have r0 := (cell_of HOS.out.res 0).trans (show (#[Value.int .i64 0, .int .i64 0, .int .i64 0] : Array Value)[0]? = some (.int .i64 0) from rfl)
              have r1 := (cell_of HOS.out.res 1).trans (show (#[Value.int .i64 0, .int .i64 0, .int .i64 0] : Array Value)[1]? = some (.int .i64 0) from rfl)
              have r2 := (cell_of HOS.out.res 2).trans (show (#[Value.int .i64 0, .int .i64 0, .int .i64 0] : Array Value)[2]? = some (.int .i64 0) from rfl)
              have f0 := frozen_of HOS.out.res 0
              have f1 := frozen_of HOS.out.res 1
              have f2 := frozen_of HOS.out.res 2
              clear hcl
              go_wp2_with fail
              refine bodyPost_ret (results_gt rfl rfl (load_eg HPE.out)) rfl ?_
              exact ⟨by rw [HFD.out]; rfl, HKS.out.mono fun i hi e => by have e : i = H := e; have := HHH.out; omega⟩
            | false =>
              have hcl : clo E m lb ⟨(a : Int), (b : Int), lb⟩ = false := by rw [HCW.out, hz2]
              have HNX : Hid _ := HOS.out.next HXX.out.1 hcl HRR.out
              clear hcl
              go_wp2_with fail
              first
              | exact ⟨⟨j + 1, (a : Int), rfl, by simp, HXX.out.2.1, HNX.out⟩, by simp only [intOf]; have := HXX.out; omega⟩
              | trace_state; sorry
        · have hs1 : ((a : Int) != s) = true := by simpa using hs
          have HCX : Hid (∀ W, Kept (WL.alloc (egO ⟨(a : Int), (b : Int), lb⟩)) W → Kept (WL.alloc (egO ⟨(a : Int), (b : Int), lb⟩)) W ∧ W.cell? ⟨H8, 0, none⟩ = some (.int .i64 n) ∧ W.cell? ⟨H8, 1, none⟩ = some (.slice (some ⟨g, 0, none⟩) (n * wN n) (n * wN n)) ∧ W.cell? ⟨WL.heap.size, 0, none⟩ = some (.int .i64 a) ∧ W.cell? ⟨WL.heap.size, 1, none⟩ = some (.int .i64 b) ∧ W.cell? ⟨WL.heap.size, 2, none⟩ = some (.int .i64 lb)) := fun W kw => by
            have o2 := HO4.out.on kw
            have hbk := (kw.block WL.heap.size (lt_of_heap HB9.out) (fun e => e)).trans HB9.out
            exact ⟨kw, (cell_of o2.tb 0).trans rfl, (cell_of o2.tb 1).trans rfl, (cell_of hbk 0).trans rfl, (cell_of hbk 1).trans rfl, (cell_of hbk 2).trans rfl⟩
          have HSE : Hid (∀ W, Kept (WL.alloc (egO ⟨(a : Int), (b : Int), lb⟩)) W → _) := fun W kw => search19 (HT.out.on (HO4.out.k.trans' kw)) HNL.out (s := a) han (HO4.out.on kw).tab HTL.out.1 HTL.out.2 HJ.out
          clear hlt han hbn HXX0
          go_upto_region 9 with fail
          obtain ⟨kz, t0, t1, z0, z1, z2⟩ := HCX.out _ (Same.refl _ _)
          clear kz p0 p1 p2 b0 b1 b2
          have HOL2 : Hid _ := HO4.out
          have HBL : Hid _ := HB9.out
          clear HO4 HB9 HOL
          generalize WL.alloc (egO ⟨(a : Int), (b : Int), lb⟩) = W4 at HOL2 HBL HCX HSE t0 t1 z0 z1 z2 ⊢
          generalize WL.heap.size = eb at HBL HCX t0 t1 z0 z1 z2 ⊢
          go_region_held3 (fun W => Kept W4 W ∧ W.cell? ⟨H8, 0, none⟩ = some (.int .i64 n) ∧ W.cell? ⟨H8, 1, none⟩ = some (.slice (some ⟨g, 0, none⟩) (n * wN n) (n * wN n)) ∧ W.cell? ⟨eb, 0, none⟩ = some (.int .i64 a) ∧ W.cell? ⟨eb, 1, none⟩ = some (.int .i64 b) ∧ W.cell? ⟨eb, 2, none⟩ = some (.int .i64 lb))
            (exact HCX.out _ (by (repeat (first | exact Same.refl _ _ | assumption | (refine Same.trans' ?_ (by assumption)) | apply Same.drewN | apply Same.drew | apply Same.alloc)); done))
            (first
            | (go_at_call 35; refine Calls.mono (HSE.out _ (by (repeat (first | exact Same.refl _ _ | assumption | (refine Same.trans' ?_ (by assumption)) | apply Same.drewN | apply Same.drew | apply Same.alloc)); done)) ?_; rintro r W5 ⟨gc, c, q, rfl, oc, rn, k6⟩))
          have k7 : Kept W4 W5 := (by (repeat (first | exact Same.refl _ _ | assumption | (refine Same.trans' ?_ (by assumption)) | apply Same.drewN | apply Same.drew | apply Same.alloc)); done)
          have HRC : Hid (OwnI w.heap.size W5 (.slice (some ⟨gc, 0, none⟩) n n) (cL n c) ∧ ∀ y, (c y).isSome = true ↔ Way (jda E m) a y) := ⟨oc.base HOL2.out.k.size, fun y => (rn.bf HJ.out).all⟩
          have HOS : Hid (OnS w W5 H H8 n g gl cap (some ⟨bb, off, none⟩) E m lb tl (.slice (some ⟨gc, 0, none⟩) n n) (a : Int) j) := by
            obtain ⟨q1, q2, q3, q4, -, q6, q7⟩ := HOL2.out.on k7
            exact ⟨q1, q2, q3, q4, .inr ⟨a, gc, c, rfl, rfl, oc.base HOL2.out.k.size, fun y => (rn.bf HJ.out).all⟩, q6, q7⟩
          obtain ⟨-, t0, t1, b0, b1, b2⟩ := HCX.out W5 k7
          clear k7 k6 oc rn HOL2 HBL HCX HSE z0 z1 z2
          go_upto_region 10 with fail
          clear t0 t1
          by_cases hab : b = a
          · have hab' : a = b := hab.symm
            subst hab'
            have hab1 : ((a : Int) == (a : Int)) = true := by simp
            have hab2 : (a : Int) = (a : Int) := rfl
            have hcl : clo E m lb ⟨(a : Int), (a : Int), lb⟩ = true := clo_iff.2 ⟨rfl, .inl hab2⟩
            have HFD : Hid (onceR E m lb = some ⟨(a : Int), (a : Int), lb⟩) := find_none_take HOS.out.no HXX.out.1 hcl
            have HPE : Hid _ := put_eg HOS.out.res (a : Int) (a : Int) lb
            have HKS : Hid (Same (fun k => k = H) w (((W5.setCell ⟨H, 0, none⟩ (.int .i64 (a : Int))).setCell ⟨H, 1, none⟩ (.int .i64 (a : Int))).setCell ⟨H, 2, none⟩ (.int .i64 lb))) := (((Kept.to HOS.out.k (fun k => k = H)).setCell ⟨H, 0, none⟩ (Or.inr (show H = H from rfl)) _).setCell ⟨H, 1, none⟩ (Or.inr (show H = H from rfl)) _).setCell ⟨H, 2, none⟩ (Or.inr (show H = H from rfl)) _
            have r0 := (cell_of HOS.out.res 0).trans (show (#[Value.int .i64 0, .int .i64 0, .int .i64 0] : Array Value)[0]? = some (.int .i64 0) from rfl)
            have r1 := (cell_of HOS.out.res 1).trans (show (#[Value.int .i64 0, .int .i64 0, .int .i64 0] : Array Value)[1]? = some (.int .i64 0) from rfl)
            have r2 := (cell_of HOS.out.res 2).trans (show (#[Value.int .i64 0, .int .i64 0, .int .i64 0] : Array Value)[2]? = some (.int .i64 0) from rfl)
            have f0 := frozen_of HOS.out.res 0
            have f1 := frozen_of HOS.out.res 1
            have f2 := frozen_of HOS.out.res 2
            clear hab2 hcl
            go_wp2_with fail
            refine bodyPost_ret (results_gt rfl rfl (load_eg HPE.out)) rfl ?_
            exact ⟨by rw [HFD.out]; rfl, HKS.out.mono fun i hi e => by have e : i = H := e; have := HHH.out; omega⟩
          · have hab1 : ((b : Int) == (a : Int)) = false := by simp; omega
            have hab2 : ¬ (b : Int) = (a : Int) := by omega
            obtain ⟨oc, hway⟩ := HRC.out
            have hbn : b < n := HXX.out.2.2.2
            have hbi : (b : Int) < (n : Int) := by omega
            have hbb : (b : Int) ≤ 1024 := by have := HNL.out; omega
            have pc := (oc.cell1 ekI (cL_at hbn) rfl).1
            have HRR : Hid (Rc w.heap.size n W5 E m (.slice (some ⟨gc, 0, none⟩) n n) (a : Int)) := .inr ⟨a, gc, c, rfl, rfl, oc, hway⟩
            have hcw : clo E m lb ⟨(a : Int), (b : Int), lb⟩ = (cv c b != -1) := by
              rw [Bool.eq_iff_iff, clo_iff, bne_iff_ne, ne_eq, cv_none, Bool.not_eq_false, hway, way_jda]
              simp only [true_and, hab2, false_or, Int.toNat_natCast]
            have HCW : Hid _ := hcw
            clear oc hway hcw hab
            generalize hz : cv c b = z at pc HCW
            clear hz
            cases hz2 : (z != -1) with
            | true =>
              have hcl : clo E m lb ⟨(a : Int), (b : Int), lb⟩ = true := by rw [HCW.out, hz2]
              have HFD : Hid (onceR E m lb = some ⟨(a : Int), (b : Int), lb⟩) := find_none_take HOS.out.no HXX.out.1 hcl
              have HPE : Hid _ := put_eg HOS.out.res (a : Int) (b : Int) lb
              have HKS : Hid (Same (fun k => k = H) w (((W5.setCell ⟨H, 0, none⟩ (.int .i64 (a : Int))).setCell ⟨H, 1, none⟩ (.int .i64 (b : Int))).setCell ⟨H, 2, none⟩ (.int .i64 lb))) := (((Kept.to HOS.out.k (fun k => k = H)).setCell ⟨H, 0, none⟩ (Or.inr (show H = H from rfl)) _).setCell ⟨H, 1, none⟩ (Or.inr (show H = H from rfl)) _).setCell ⟨H, 2, none⟩ (Or.inr (show H = H from rfl)) _
              have r0 := (cell_of HOS.out.res 0).trans (show (#[Value.int .i64 0, .int .i64 0, .int .i64 0] : Array Value)[0]? = some (.int .i64 0) from rfl)
              have r1 := (cell_of HOS.out.res 1).trans (show (#[Value.int .i64 0, .int .i64 0, .int .i64 0] : Array Value)[1]? = some (.int .i64 0) from rfl)
              have r2 := (cell_of HOS.out.res 2).trans (show (#[Value.int .i64 0, .int .i64 0, .int .i64 0] : Array Value)[2]? = some (.int .i64 0) from rfl)
              have f0 := frozen_of HOS.out.res 0
              have f1 := frozen_of HOS.out.res 1
              have f2 := frozen_of HOS.out.res 2
              clear hcl
              go_wp2_with fail
              refine bodyPost_ret (results_gt rfl rfl (load_eg HPE.out)) rfl ?_
              exact ⟨by rw [HFD.out]; rfl, HKS.out.mono fun i hi e => by have e : i = H := e; have := HHH.out; omega⟩
            | false =>
              have hcl : clo E m lb ⟨(a : Int), (b : Int), lb⟩ = false := by rw [HCW.out, hz2]
              have HNX : Hid _ := HOS.out.next HXX.out.1 hcl HRR.out
              clear hcl
              go_wp2_with fail
              first
              | exact ⟨⟨j + 1, (a : Int), rfl, by simp, HXX.out.2.1, HNX.out⟩, by simp only [intOf]; have := HXX.out; omega⟩
              | trace_state; sorry
      · have hl1 : (xl != lb) = true := by simpa using hl
        have hcl : clo E m lb ⟨(a : Int), (b : Int), xl⟩ = false := by
          cases h9 : clo E m lb ⟨(a : Int), (b : Int), xl⟩
          · rfl
          · exact absurd (clo_iff.1 h9).1 hl
        have HNX : Hid _ := HO4.out.next HXX0.out.1 hcl HO4.out.r
        clear hcl hlt han hbn
        go_wp2_with fail
        exact ⟨⟨j + 1, s, rfl, by simp, HXX0.out.2.1, HNX.out⟩, by simp only [intOf]; have := HXX0.out; omega⟩
    · obtain rfl : gl = j := by omega
      have c1 : ¬ (gl : Int) < (gl : Int) := by omega
      have r0 := (cell_of os.res 0).trans (show (#[Value.int .i64 0, .int .i64 0, .int .i64 0] : Array Value)[0]? = some (.int .i64 0) from rfl)
      have r1 := (cell_of os.res 1).trans (show (#[Value.int .i64 0, .int .i64 0, .int .i64 0] : Array Value)[1]? = some (.int .i64 0) from rfl)
      have r2 := (cell_of os.res 2).trans (show (#[Value.int .i64 0, .int .i64 0, .int .i64 0] : Array Value)[2]? = some (.int .i64 0) from rfl)
      have f0 := frozen_of os.res 0
      have f1 := frozen_of os.res 1
      have f2 := frozen_of os.res 2
      have HFD : Hid (onceR E m lb = none) := find_none_all fun i x hi hx => os.no i x (by rw [HGL.out]; exact hi) hx
      have HPE : Hid _ := put_eg os.res 0 0 0
      have HKS : Hid (Same (fun k => k = H) w (((WL.setCell ⟨H, 0, none⟩ (.int .i64 0)).setCell ⟨H, 1, none⟩ (.int .i64 0)).setCell ⟨H, 2, none⟩ (.int .i64 0))) := (((Kept.to os.k (fun k => k = H)).setCell ⟨H, 0, none⟩ (Or.inr (show H = H from rfl)) _).setCell ⟨H, 1, none⟩ (Or.inr (show H = H from rfl)) _).setCell ⟨H, 2, none⟩ (Or.inr (show H = H from rfl)) _
      clear os HOS0
      go_wp2_with fail
      refine bodyPost_ret (results_gt rfl rfl (load_eg HPE.out)) rfl ?_
      exact ⟨by rw [HFD.out]; rfl, HKS.out.mono fun i hi e => by have e : i = H := e; have := HHH.out; omega⟩
end Go.Proofs.YtbhihmkgimdjpaaDoor
