/- What is proved: putting a place into the heap keeps it a heap of the same places and the new one; the places lie in the list. -/
import Derived.Test.YtcbllejjiokmbaaNLst
namespace Go.Proofs.Ytcbllejjiokmbaa
open Go.RowKit

theorem Try.infoInt : (Try.prog.info? 3).map (fun i => (i.zero, i.size, i.bytes)) = some (some (.int .i64 0), 1, 8) := by kernel_rfl
/-- One place more behind a list of one's own. -/
theorem app_int_one {w : World} {base : Nat} {v : Value} {L : List Nat} (x : Nat) (hown : OwnI base w v L) (hb : L.length + 1 ≤ 4398046511104) (hbase : base ≤ w.heap.size) (ty : TypeId) :
    ∃ v' w', (Builtin.append_ #[63, 63] ty #[v, .slice (some ⟨w.heap.size, 0, none⟩) 1 1]).run Try.prog (w.alloc (.cells #[.int .i64 (x : Int)] 3)) = .ok v' w' ∧ OwnI base w' v' (L ++ [x]) ∧ Same (fun k => v.ownBlock = some k) w w' := by
  obtain ⟨i0, hi0, hz0, hz1, hz2⟩ := info_parts Try.infoInt
  have k0 : Kept w (w.alloc (.cells #[.int .i64 (x : Int)] 3 (0, 0))) := (Same.refl _ w).alloc _
  have ho := OwnI.kept hown k0 (fun _ _ e => e)
  have hcell := heap_new w (.cells #[.int .i64 (x : Int)] 3 (0, 0))
  obtain ⟨v', w', hr, r1, r2, _, r3⟩ := run_append_own_at (P := Try.prog) (w := w.alloc (.cells #[.int .i64 (x : Int)] 3)) base 63 ty 3 i0 _ 1 8 Try.underlying63 hi0 hz0 hz1 hz2 rfl (by decide) v L.length _ ho ⟨w.heap.size, 0, none⟩ 1 1 (ins [x]) rfl
    (fun j u hu => by
      rw [Addr.add_lit, Nat.zero_add, cell_of hcell]
      simpa [ins] using hu) (ins_one _) (by unfold maxLen; omega) (by omega) (by simp [World.size_alloc]; omega)
  rw [← ins_append] at r1
  exact ⟨v', w', hr, by rw [OwnI, List.length_append]; exact r1, (Kept.to k0 _).trans' (Same.of_grown r2 (fun k e => e))⟩
theorem OwnI.block {base : Nat} {w : World} {v : Value} {L : List Nat} (h : OwnI base w v L) {k : Nat} (hk : v.ownBlock = some k) : base ≤ k ∧ k < w.heap.size := by
  rcases h.2 with ⟨rfl, _⟩ | ⟨g, cap, cur, rfl, hb, hg, h1, h2, h3, h4⟩
  · simp [Value.ownBlock] at hk
  · simp [Value.ownBlock] at hk
    subst hk
    exact ⟨hb, lt_of_heap hg⟩
/-- The heap's list set anew. -/
theorem Hm.put' {B : Nat} {w : World} {ob lb : Nat} {v v' : Value} {L L' : List Nat} {w1 : World} (h : Hm B w ob lb v L) (k : Same (fun k => v.ownBlock = some k) w w1) (ho : OwnI (B + 1) w1 v' L') : Hm B (w1.setCell ⟨B, 0, none⟩ v') ob lb v' L' ∧ Same (fun k => k = B ∨ v.ownBlock = some k) w (w1.setCell ⟨B, 0, none⟩ v') := by
  have hB := lt_of_heap h.obj
  have ob1 := (k.block B hB (fun e => by have := (h.own.block e).1; omega)).trans h.obj
  have hs : Same (fun k => k = B) w1 (w1.setCell ⟨B, 0, none⟩ v') := (Same.refl (fun k => k = B) w1).setCell ⟨B, 0, none⟩ (.inr rfl) v'
  refine ⟨⟨(setCell_at ob1 0 v').trans rfl, ho.kept hs fun k hk e => ?_⟩, (k.mono fun i _ hi => .inr hi).trans hs fun i _ e => .inl e⟩
  have := (ho.block hk).1
  omega
theorem Hm.put {B : Nat} {w : World} {ob lb : Nat} {v v' : Value} {L L' : List Nat} {w1 : World} (h : Hm B w ob lb v L) (k : Same (fun k => B + 1 ≤ k) w w1) (ho : OwnI (B + 1) w1 v' L') : Hm B (w1.setCell ⟨B, 0, none⟩ v') ob lb v' L' ∧ Same (fun k => B ≤ k) w (w1.setCell ⟨B, 0, none⟩ v') := by
  have hB := lt_of_heap h.obj
  have ob1 := (k.block B hB (by omega)).trans h.obj
  have hs : Same (fun k => k = B) w1 (w1.setCell ⟨B, 0, none⟩ v') := (Same.refl (fun k => k = B) w1).setCell ⟨B, 0, none⟩ (.inr rfl) v'
  refine ⟨⟨(setCell_at ob1 0 v').trans rfl, ho.kept hs fun k hk e => ?_⟩, (k.mono fun i _ hi => by omega).trans hs fun i _ e => by omega⟩
  have := (ho.block hk).1
  omega
/-- The places are places of a list of n rows. -/
def Pl (n : Nat) (L : List Nat) : Prop := ∀ x ∈ L, x < n
theorem Pl.at {n : Nat} {L : List Nat} (h : Pl n L) {k : Nat} (hk : k < L.length) : L.getD k 0 < n := by
  rw [getD_at hk]; exact h _ (List.getElem_mem hk)
set_option maxRecDepth 100000 in
set_option maxHeartbeats 1600000 in
theorem push10 {B : Nat} {w : World} {ob lb : Nat} {order : Int} {oa : Option Addr} {cap : Nat} {l : List RwM} (E : Env B w ob lb order oa cap l) {v : Value} {L : List Nat} (h : Hm B w ob lb v L) (hp : Hp (plt (bef order) l) L) (hL : Pl l.length L) (hn : L.length + 1 ≤ 2199023255552) {x : Nat} (hx : x < l.length) :
    Calls Try.prog 63 #[.pointer (some ⟨B, 0, none⟩), .int .i64 x] w fun e w' => e = .returned (.tuple #[]) ∧ ∃ v' L', Hm B w' ob lb v' L' ∧ Hp (plt (bef order) l) L' ∧ L'.Perm (L ++ [x]) ∧ Same (fun k => B ≤ k) w w' := by
  have HE : Hid _ := E
  have HH : Hid _ := h
  have O : Hid _ := plt_swo (bef_swo order) l
  obtain ⟨lt, elt⟩ : ∃ lt, lt = plt (bef order) l := ⟨_, rfl⟩
  have HB : Hid (∀ W, Same (fun k => B ≤ k) w W → ∀ i j : Nat, i < l.length → j < l.length → Calls _ _ _ W fun e w' => e = .returned (.bool (lt i j)) ∧ Kept W w') := fun W k i j hi hj => by rw [elt]; exact before10 (E.on k) hi hj
  rw [← elt] at O hp ⊢
  clear elt
  have hU : Hid _ := Up.start hp x
  obtain ⟨n, en⟩ : ∃ n, n = L.length := ⟨_, rfl⟩
  have hPL : Hid (Pl l.length (L ++ [x])) := fun y hy => by
    rcases List.mem_append.1 hy with hy | hy
    · exact hL y hy
    · rw [List.mem_singleton] at hy; subst hy; exact hx
  have hBw : B < w.heap.size := lt_of_heap h.obj
  have HA : Hid (∀ ty, _) := fun ty => app_int_one x h.own (by omega) (by omega) ty
  have hvb : Hid (∀ k, v.ownBlock = some k → B + 1 ≤ k) := fun k hk => (h.own.block hk).1
  obtain ⟨c0, c1, f0, hB⟩ := h.cells
  have hn2 : n + 1 ≤ 2199023255552 := by omega
  have EN : Hid _ := en
  have d0 : ∀ u, (w.alloc u).cell? ⟨B, 0, none⟩ = some v := fun u => (((Same.refl (fun _ => False) w).alloc u).cell (p := ⟨B, 0, none⟩) hB (fun e => e)).trans c0
  obtain ⟨ov, cv, rfl⟩ := h.own.len
  rw [← en] at c0 d0 HA
  have HX : Hid (∀ v1 w1, OwnI (B + 1) w1 v1 (L ++ [x]) → Same (fun k => (Value.slice ov n cv).ownBlock = some k) w w1 → ∃ g cp, v1 = .slice (some ⟨g, 0, none⟩) (n + 1) cp ∧ w1.cell? ⟨B, 0, none⟩ = some (.slice ov n cv) ∧ w1.frozen? ⟨B, 0, none⟩ = false ∧ B < w1.heap.size ∧ Hid (Hm B (w1.setCell ⟨B, 0, none⟩ v1) ob lb v1 (L ++ [x]) ∧ Same (fun k => B ≤ k) w (w1.setCell ⟨B, 0, none⟩ v1))) := fun v1 w1 o1 k1 => by
    have k2 : Same (fun k => B + 1 ≤ k) w w1 := k1.mono fun k _ hk => hvb.out k (by rw [← EN.out]; exact hk)
    obtain ⟨g, cp, e, -, -⟩ := o1.shape (by simp)
    have ob1 := (k2.block B hB (by omega)).trans HH.out.obj
    refine ⟨g, cp, by rw [e, EN.out]; simp, ?_, frozen_of ob1 0, Nat.lt_of_lt_of_le hB k2.size, HH.out.put k2 o1⟩
    rw [cell_of ob1, EN.out]; rfl
  clear E h hp hL hn en hx d0
  go_enter Try.func63, Try.ntmps63
  go_wp2_with (at_builtin; refine wpList_app rfl (.tmp 10) (.tmp 12) 63 63 rfl (.slice ov n cv) (.slice (some ⟨w.heap.size, 0, none⟩) 1 1) rfl rfl _ HA.out ?_; rintro v1 w1 ⟨o1, k1⟩; obtain ⟨g, cp, rfl, z0, z1, z2, HM⟩ := HX.out v1 w1 o1 k1; clear o1 k1)
  generalize w1.setCell ⟨B, 0, none⟩ (.slice (some ⟨g, 0, none⟩) (n + 1) cp) = W2 at *
  clear z0 z1 z2 HA HX
  obtain ⟨hm2, ks2⟩ := HM.out
  have hgB : Hid (∀ k, (Value.slice (some ⟨g, 0, none⟩) (n + 1) cp).ownBlock = some k → B + 1 ≤ k) := fun k hk => (hm2.own.block hk).1
  go_loopw [4] (fun i wr => ∃ (a : Nat) (L' : List Nat), i = .int .i64 a ∧ Hm B wr ob lb (.slice (some ⟨g, 0, none⟩) (n + 1) cp) L' ∧ Up lt L' a ∧ L'.Perm (L ++ [x]) ∧ Same (fun k => B ≤ k) w wr) (fun i _ => (intOf i).toNat)
  case atStart => exact ⟨n, L ++ [x], by first | rfl | simp, hm2, by rw [EN.out]; exact hU.out, List.Perm.refl _, ks2⟩
  case round =>
    obtain ⟨a, L', rfl, hm, hu, hpm, ks⟩ := hrel
    have el : L'.length = n + 1 := by rw [hpm.length_eq, EN.out]; simp
    have PM : Hid _ := hpm
    have KS : Hid _ := ks
    have HM3 : Hid _ := hm
    have HU : Hid _ := hu
    have hpl : Pl l.length L' := fun y hy => hPL.out y (hpm.mem_iff.1 hy)
    have hal : a < n + 1 := by rw [← el]; exact hu.inr
    by_cases h0 : 0 < a
    · have d0 : decide ((0 : Int) < (a : Int)) = true := decide_eq_true (by omega)
      have d0' : (0 : Int) < (a : Int) := by omega
      obtain ⟨p, ep⟩ : ∃ p, p = (a - 1) / 2 := ⟨_, rfl⟩
      have hpa : p < a := by omega
      have hq : Int.tdiv ((a : Int) - 1) 2 = (p : Int) := by
        rw [ep, Int.tdiv_eq_ediv_of_nonneg (by omega)]
        omega
      have d1 : (a : Int) < (n : Int) + 1 := by omega
      have d2 : (p : Int) < (n : Int) + 1 := by omega
      have d3 : (a : Int) ≤ 2199023255552 := by omega
      obtain ⟨c0, c1, -, hB3⟩ := hm.cells
      obtain ⟨ca, -, hgl⟩ := hm.own.at (i := a) (by omega)
      obtain ⟨cc, -, -⟩ := hm.own.at (i := p) (by omega)
      have hx := hpl.at (k := a) (by omega)
      have hy := hpl.at (k := p) (by omega)
      have HB1 : Hid (∀ W, Kept wr W → Calls _ _ _ W fun e w' => e = .returned (.bool (lt (L'.getD a 0) (L'.getD p 0))) ∧ Kept wr w') := fun W k => Calls.mono (HB.out W (KS.out.trans' (k.to _)) _ _ hx hy) fun e w' hh => ⟨hh.1, k.trans' hh.2⟩
      have HSW : Hid (∀ W, Kept wr W → _) := fun W (k : Kept wr W) => swap10 (hm.on k) (i := a) (j := p) (by omega) (by omega)
      have hS : Hid (lt (L'.getD a 0) (L'.getD p 0) = false → Hp lt L') := fun e => hu.done fun _ => by rw [← ep]; exact e
      have hT : Hid (lt (L'.getD a 0) (L'.getD p 0) = true → Up lt (swp L' a p) p) := fun e => by
        have := hu.step O.out h0 (by rw [← ep]; exact e)
        rwa [← ep] at this
      have hPS : Hid ((swp L' a p).Perm L') := swp_perm (by omega) (by omega)
      generalize L'.getD a 0 = y at *
      generalize L'.getD p 0 = z at *
      have HT : Hid (∀ W, Kept wr W → Kept wr W ∧ W.cell? ⟨B, 0, none⟩ = some (.slice (some ⟨g, 0, none⟩) (n + 1) cp) ∧ W.cell? ⟨B, 1, none⟩ = some (.func (.func 62) #[] #[.pointer (some ⟨ob, 0, none⟩), .pointer (some ⟨lb, 0, none⟩)]) ∧ W.cell? ⟨g, a, none⟩ = some (.int .i64 (y : Int)) ∧ W.cell? ⟨g, p, none⟩ = some (.int .i64 (z : Int))) := fun W k =>
        ⟨k, (k.cell (p := ⟨B, 0, none⟩) hB3 (fun e => e)).trans c0, (k.cell (p := ⟨B, 1, none⟩) hB3 (fun e => e)).trans c1, (k.cell (p := ⟨g, a, none⟩) hgl (fun e => e)).trans ca, (k.cell (p := ⟨g, p, none⟩) hgl (fun e => e)).trans cc⟩
      generalize lt y z = b at *
      clear hm hu hpm ks hpl hx hy el ep HU
      go_wp2_with fail
      go_region_held3 (fun W => Kept wr W ∧ W.cell? ⟨B, 0, none⟩ = some (.slice (some ⟨g, 0, none⟩) (n + 1) cp) ∧ W.cell? ⟨B, 1, none⟩ = some (.func (.func 62) #[] #[.pointer (some ⟨ob, 0, none⟩), .pointer (some ⟨lb, 0, none⟩)]) ∧ W.cell? ⟨g, a, none⟩ = some (.int .i64 (y : Int)) ∧ W.cell? ⟨g, p, none⟩ = some (.int .i64 (z : Int)))
        (exact HT.out _ (by (repeat (first | assumption | exact Same.refl _ _ | apply Same.alloc | apply Same.drew | apply Same.drewN)); done))
        ((first
        | (go_at_call 62; refine Calls.mono (HB1.out _ (by (repeat (first | assumption | exact Same.refl _ _ | apply Same.alloc | apply Same.drew | apply Same.drewN)); done)) ?_; rintro r w1 ⟨rfl, k1⟩)))
      all_goals
        cases b with
        | false =>
          go_wp2_with fail
          refine bodyPost_ret (results_none rfl _ _ _) rfl ?_
          refine ⟨rfl, _, L', HM3.out.on (by assumption), hS.out (by first | exact rfl | exact trivial), PM.out, KS.out.trans' (Kept.to (by assumption) _)⟩
        | true =>
          go_wp2_with fail
          refine Calls.mono (HSW.out _ (by assumption)) ?_
          rintro e w4 ⟨rfl, hm4, ks4⟩
          have K4 : Hid (Same (fun k => B ≤ k) w w4) := (KS.out.trans' (Kept.to (by assumption) _)).trans ks4 fun i _ hi => Nat.le_of_succ_le (hgB.out i hi)
          have M4 : Hid _ := hm4
          clear hm4 ks4
          go_wp2_with fail
          go_roundw
          case rel => exact ⟨p, swp L' a p, rfl, M4.out, hT.out (by first | exact rfl | exact trivial), hPS.out.trans PM.out, K4.out⟩
          case measure => simp only [intOf]; omega
    · obtain rfl : a = 0 := by omega
      have HD : Hid _ := hu.done fun e => absurd e h0
      clear hm hu hpm ks hpl HU
      go_wp2_with fail
      go_end0
      exact ⟨rfl, _, L', HM3.out, HD.out, PM.out, KS.out⟩
end Go.Proofs.Ytcbllejjiokmbaa
