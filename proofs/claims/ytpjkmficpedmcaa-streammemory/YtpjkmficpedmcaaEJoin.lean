/- What is proved: join adds an extent that meets no hole; the space lies in memory. -/
import Derived.Test.YtpjkmficpedmcaaEJoinM
import Derived.Deep.CutBlock
namespace Go.Proofs.Ytpjkmficpedmcaa
open Go.RowKit
set_option maxRecDepth 100000

/-- What lies in memory while join works: the box with y. -/
structure JAt (w w' : World) (y : Ex) : Prop where
  b0 : w'.heap[w.heap.size]? = some (exO y)
  kept : Kept w w'
theorem JAt.on {w w1 w2 : World} {y : Ex} (c : JAt w w1 y) (k : Kept w1 w2) : JAt w w2 y := ⟨(k.block _ (lt_of_heap c.b0) (fun h => h)).trans c.b0, c.kept.trans' k⟩

set_option maxRecDepth 100000 in
set_option maxHeartbeats 1600000 in
theorem join_any {w : World} {p N : Nat} {L : List Ex} {a : Option Addr} {hb c : Nat} (hS : Sp w p N L a hb c) (x : Ex) (hx : 1 ≤ x.c) (hx0 : 0 ≤ x.f) (hxN : x.f + x.c ≤ N) (hno : ∀ e ∈ L, meetb x e = false) :
    Calls Try.prog 48 #[.pointer (some ⟨p, 0, none⟩), exV x] w fun r w' => r = .returned (.tuple #[]) ∧ ∃ L', Upd w p N hb L' w' ∧ ∀ b, Mm b L' ↔ Mm b L ∨ (x.f ≤ b ∧ b < x.f + x.c) := by
  have HS : Hid _ := hS
  have hpl := hS.lt
  have hsm := hS.small
  obtain ⟨ea, hrow⟩ : a = some ⟨hb, 0, none⟩ ∧ Row w hb c L := by
    rcases hS.row with ⟨_, _, _, e, _⟩ | h
    · omega
    · exact h
  subst ea
  have c1 : w.cell? ⟨p, 1, none⟩ = some (.slice (some ⟨hb, 0, none⟩) L.length c) := (cell_of hS.obj 1).trans rfl
  have hn := hS.wf.len hS.small
  have HNE : Hid (hb ≠ p) := row_ne hS.obj hrow
  have HRow : Hid _ := hrow
  have HNO : Hid _ := hno
  have HM : Hid _ := fun (e : Ex) (he : e ∈ L) => hS.wf.sm hS.small e he
  have G0 : Hid _ := heap_new w (exO x)
  obtain ⟨n, en⟩ : ∃ n, n = L.length := ⟨_, rfl⟩
  rw [← en] at c1 hn
  have EN : Hid _ := en
  have HX3 : Hid _ := hxN
  have hbl := hrow.lt
  have HE : Hid (∀ y, Sm y → ∀ w', _) := fun y hy w' => end_any y hy w'
  clear en hS hrow hno
  unfold exV at *
  go_enter Try.func48, Try.ntmps48
  go_upto_block 0 with fail
  go_cut [4] (fun s4 wx => ∃ j : Nat, s4 = .int .i64 j ∧ j ≤ n ∧ (∀ i h, i < j → L[i]? = some h → h.f + h.c < x.f) ∧ (∀ h, L[j]? = some h → x.f ≤ h.f + h.c) ∧ JAt w wx x)
  case first =>
    go_wp2_with fail
    go_loopw [4] (fun i wr => ∃ j : Nat, j ≤ n ∧ i = .int .i64 j ∧ (∀ i h, i < j → L[i]? = some h → h.f + h.c < x.f) ∧ JAt w wr x) (fun i _ => n - (intOf i).toNat)
    case atStart => exact ⟨0, Nat.zero_le _, rfl, fun i h hi => by omega, G0.out, (Same.refl _ _).alloc _⟩
    case round =>
      obtain ⟨j, hj, rfl, hbf, hja⟩ := hrel
      have HBF : Hid _ := hbf
      have HJA : Hid _ := hja
      have k0 := hja.kept
      have pc : wr.cell? ⟨p, 1, none⟩ = some (.slice (some ⟨hb, 0, none⟩) n c) := (k0.cell (p := ⟨p, 1, none⟩) hpl (fun h => h)).trans c1
      have hplr : p < wr.heap.size := Nat.lt_of_lt_of_le hpl k0.size
      clear hbf hja
      by_cases hlt : j < n
      · have c1' : decide ((j : Int) < (n : Int)) = true := by simp only [decide_eq_true_eq]; omega
        have hlt2 : (j : Int) < (n : Int) := by omega
        obtain ⟨h, hh⟩ : ∃ h, L[j]? = some h := ⟨_, List.getElem?_eq_getElem (by rw [← EN.out]; exact hlt)⟩
        have hhm := HM.out h (List.mem_of_getElem? hh)
        have HEh : Hid (∀ w', _) := HE.out h hhm
        have HX : Hid (∀ w3, Kept wr w3 → Kept wr w3 ∧ w3.cell? ⟨w.heap.size, 0, none⟩ = some (.int .i64 x.f) ∧ w3.cell? ⟨w.heap.size, 1, none⟩ = some (.int .i64 x.c) ∧ w3.cell? ⟨p, 1, none⟩ = some (.slice (some ⟨hb, 0, none⟩) n c) ∧ w3.cell? ⟨hb, j * 2, none⟩ = some (.int .i64 h.f) ∧ w3.cell? ⟨hb, j * 2 + 1, none⟩ = some (.int .i64 h.c)) := fun w3 k => by
          have e0 := (HJA.out.on k).b0
          have k3 := (HJA.out.on k).kept
          obtain ⟨b, off, eb, _, q0, q1⟩ := (HS.out.exts.kept k3 (fun _ _ h => h)) j h hh
          cases eb
          rw [Nat.zero_add] at q0 q1
          exact ⟨k, (cell_of e0 0).trans rfl, (cell_of e0 1).trans rfl, (k3.cell (p := ⟨p, 1, none⟩) hpl (fun h => h)).trans c1, q0, q1⟩
        have HH : Hid _ := hh
        obtain ⟨m1, m2, m3⟩ := hhm
        obtain ⟨he, ehe⟩ : ∃ he, he = h.f + h.c := ⟨_, rfl⟩
        rw [← ehe] at HEh m3
        have EH : Hid _ := ehe
        clear hh ehe k0
        by_cases ht : he < x.f
        · have ht' : decide (he < x.f) = true := decide_eq_true ht
          go_wp2_with fail
          go_region_held3 (fun w' => Kept wr w' ∧ w'.cell? ⟨w.heap.size, 0, none⟩ = some (.int .i64 x.f) ∧ w'.cell? ⟨w.heap.size, 1, none⟩ = some (.int .i64 x.c) ∧ w'.cell? ⟨p, 1, none⟩ = some (.slice (some ⟨hb, 0, none⟩) n c) ∧ w'.cell? ⟨hb, j * 2, none⟩ = some (.int .i64 h.f) ∧ w'.cell? ⟨hb, j * 2 + 1, none⟩ = some (.int .i64 h.c))
            (exact HX.out _ (by (repeat (first | exact Same.refl _ _ | apply Same.alloc | apply Same.drew | refine Same.trans' ?_ k2)); done))
            (first | (refine Calls.mono (HEh.out _) ?_; rintro r w2 ⟨rfl, k2⟩))
          all_goals
            go_wp2_with fail
            go_roundw
            case rel =>
              refine ⟨j + 1, by omega, by simp, ?_, HJA.out.on ((Same.drew (Same.refl _ _)).trans' k2)⟩
              intro i g hi hg
              rcases Nat.lt_or_ge i j with q | q
              · exact HBF.out i g q hg
              · obtain rfl : i = j := by omega
                rw [HH.out] at hg
                cases hg
                rw [← EH.out]
                exact ht
            case measure => simp only [intOf]; omega
        · have ht' : decide (he < x.f) = false := decide_eq_false ht
          have HT : Hid _ := ht
          clear ht
          go_wp2_with fail
          go_region_held3 (fun w' => Kept wr w' ∧ w'.cell? ⟨w.heap.size, 0, none⟩ = some (.int .i64 x.f) ∧ w'.cell? ⟨w.heap.size, 1, none⟩ = some (.int .i64 x.c) ∧ w'.cell? ⟨p, 1, none⟩ = some (.slice (some ⟨hb, 0, none⟩) n c) ∧ w'.cell? ⟨hb, j * 2, none⟩ = some (.int .i64 h.f) ∧ w'.cell? ⟨hb, j * 2 + 1, none⟩ = some (.int .i64 h.c))
            (exact HX.out _ (by (repeat (first | exact Same.refl _ _ | apply Same.alloc | apply Same.drew | refine Same.trans' ?_ k2)); done))
            (first | (refine Calls.mono (HEh.out _) ?_; rintro r w2 ⟨rfl, k2⟩))
          all_goals
            go_wp2_with fail
            go_meet
            refine ⟨j, rfl, hj, HBF.out, fun g hg => ?_, HJA.out.on ((Same.drew (Same.refl _ _)).trans' k2)⟩
            rw [HH.out] at hg
            cases hg
            rw [← EH.out]
            exact Int.not_lt.1 HT.out
      · have c1' : decide ((j : Int) < (n : Int)) = false := by simp only [decide_eq_false_iff_not]; omega
        obtain rfl : j = n := by omega
        clear k0
        go_wp2_with fail
        go_quiet (fail)
        go_wp2_with fail
        go_meet
        refine ⟨j, rfl, hj, HBF.out, fun g hg => ?_, HJA.out.on (Same.drewN (Same.refl _ _) _)⟩
        have := (List.getElem?_eq_some_iff.1 hg).1
        have := EN.out
        omega
  case rest =>
    obtain ⟨fr, rfl, hfr, hbf, hat, hja⟩ := hcut
    have J0 : Hid _ := JI.start hx hx0 HX3.out (by rw [← EN.out]; exact hfr) hbf hat HS.out.wf HNO.out
    have JA0 : Hid _ := hja
    clear hbf hat hja
    go_upto_block 2 with fail
    go_cut [5] (fun s5 wx => ∃ (t : Nat) (y : Ex), s5 = .int .i64 t ∧ JI N L x fr t y ∧ (∀ h, L[t]? = some h → y.f + y.c < h.f) ∧ JAt w wx y)
    case first =>
      go_wp2_with fail
      go_loopw [5] (fun i wr => ∃ (t : Nat) (y : Ex), i = .int .i64 t ∧ JI N L x fr t y ∧ JAt w wr y) (fun i _ => n - (intOf i).toNat)
      case atStart => exact ⟨fr, x, rfl, J0.out, JA0.out⟩
      case round =>
        obtain ⟨j, y, rfl, hji, hja⟩ := hrel
        have HJI : Hid _ := hji
        have HJA : Hid _ := hja
        have k0 := hja.kept
        have hj : j ≤ n := by rw [EN.out]; exact hji.len
        have y0 := hji.y0
        have y1 := hji.y1
        have yN := hji.yN
        have pc : wr.cell? ⟨p, 1, none⟩ = some (.slice (some ⟨hb, 0, none⟩) n c) := (k0.cell (p := ⟨p, 1, none⟩) hpl (fun h => h)).trans c1
        have hplr : p < wr.heap.size := Nat.lt_of_lt_of_le hpl k0.size
        have HEy : Hid (∀ w', _) := HE.out y ⟨y0, by omega, by omega⟩
        have hb0 := hja.b0
        have l0 := lt_of_heap hb0
        have a0 : wr.cell? ⟨w.heap.size, 0, none⟩ = some (.int .i64 y.f) := (cell_of hb0 0).trans rfl
        have a1 : wr.cell? ⟨w.heap.size, 1, none⟩ = some (.int .i64 y.c) := (cell_of hb0 1).trans rfl
        have z0 : ∀ o, wr.frozen? ⟨w.heap.size, o, none⟩ = false := fun o => frozen_of hb0 o
        obtain ⟨ye, eye⟩ : ∃ ye, ye = y.f + y.c := ⟨_, rfl⟩
        rw [← eye] at HEy yN
        have EY : Hid _ := eye
        have hyl : y.f < ye := by omega
        clear hji hja hb0 eye
        by_cases hlt : j < n
        · have c1' : decide ((j : Int) < (n : Int)) = true := by simp only [decide_eq_true_eq]; omega
          have hlt2 : (j : Int) < (n : Int) := by omega
          obtain ⟨h, hh⟩ : ∃ h, L[j]? = some h := ⟨_, List.getElem?_eq_getElem (by rw [← EN.out]; exact hlt)⟩
          have hhm := HM.out h (List.mem_of_getElem? hh)
          have HEh : Hid (∀ w', _) := HE.out h hhm
          have HX : Hid (∀ w3, Kept wr w3 → Kept wr w3 ∧ w3.cell? ⟨w.heap.size, 0, none⟩ = some (.int .i64 y.f) ∧ w3.cell? ⟨w.heap.size, 1, none⟩ = some (.int .i64 y.c) ∧ w3.cell? ⟨p, 1, none⟩ = some (.slice (some ⟨hb, 0, none⟩) n c) ∧ w3.cell? ⟨hb, j * 2, none⟩ = some (.int .i64 h.f) ∧ w3.cell? ⟨hb, j * 2 + 1, none⟩ = some (.int .i64 h.c)) := fun w3 k => by
            have e0 := (HJA.out.on k).b0
            have k3 := (HJA.out.on k).kept
            obtain ⟨b, off, eb, _, q0, q1⟩ := (HS.out.exts.kept k3 (fun _ _ h => h)) j h hh
            cases eb
            rw [Nat.zero_add] at q0 q1
            exact ⟨k, (cell_of e0 0).trans rfl, (cell_of e0 1).trans rfl, (k3.cell (p := ⟨p, 1, none⟩) hpl (fun h => h)).trans c1, q0, q1⟩
          have HH : Hid _ := hh
          obtain ⟨m1, m2, m3⟩ := hhm
          obtain ⟨he, ehe⟩ : ∃ he, he = h.f + h.c := ⟨_, rfl⟩
          rw [← ehe] at HEh m3
          have EH : Hid _ := ehe
          by_cases ht : h.f ≤ ye
          · have ht' : decide (h.f ≤ ye) = true := decide_eq_true ht
            have HNX := HJI.out.next HS.out.wf hh (by rw [← EY.out]; exact ht)
            have hhc := (HS.out.wf.mem (List.mem_of_getElem? hh)).2.1
            have eye2 : ye = y.f + y.c := EY.out
            obtain ⟨mn, mx, hmn, hmx, gJ, o1, o2, o3⟩ : ∃ mn mx : Int, (if h.f < y.f then h.f else y.f) = mn ∧ (if ye < he then he else ye) = mx ∧ JI N L x fr (j + 1) ⟨mn, mx - mn⟩ ∧ 0 ≤ mn ∧ mn ≤ mx ∧ mx ≤ 4096 := by
              rcases HNX with ⟨g1, g2, gJ⟩ | ⟨g1, g2, gJ⟩
              · refine ⟨h.f, ye, if_pos g1, if_neg (by omega), ?_, m1, by omega, by omega⟩
                rw [← eye2] at gJ; exact gJ
              · refine ⟨y.f, he, if_neg (by omega), if_pos (by omega), ?_, y0, by omega, by omega⟩
                rw [← ehe] at gJ; exact gJ
            have HBT : Hid (∀ w', _) := fun w' => between_any mn mx o1 o2 o3 w'
            have GJ : Hid _ := gJ
            clear gJ hh ehe k0 hhc eye2 HNX
            go_wp2_with fail
            go_region_held3 (fun w' => Kept wr w' ∧ w'.cell? ⟨w.heap.size, 0, none⟩ = some (.int .i64 y.f) ∧ w'.cell? ⟨w.heap.size, 1, none⟩ = some (.int .i64 y.c) ∧ w'.cell? ⟨p, 1, none⟩ = some (.slice (some ⟨hb, 0, none⟩) n c) ∧ w'.cell? ⟨hb, j * 2, none⟩ = some (.int .i64 h.f) ∧ w'.cell? ⟨hb, j * 2 + 1, none⟩ = some (.int .i64 h.c))
              (exact HX.out _ (by (repeat (first | exact Same.refl _ _ | apply Same.alloc | apply Same.drew | refine Same.trans' ?_ k2)); done))
              (first | (refine Calls.mono (HEy.out _) ?_; rintro r w2 ⟨rfl, k2⟩))
            have k2' : Kept wr w2 := (Same.drew (Same.refl _ _)).trans' k2
            obtain ⟨-, v0, v1, v2, v3, v4⟩ := HX.out w2 k2'
            have JA2 : Hid _ := HJA.out.on k2'
            have hbx := JA2.out.b0
            have vz : ∀ o, w2.frozen? ⟨w.heap.size, o, none⟩ = false := fun o => frozen_of hbx o
            have vl := lt_of_heap hbx
            have hpl2 : p < w2.heap.size := Nat.lt_of_lt_of_le hpl JA2.out.kept.size
            have HX6 : Hid (∀ w3, Same (fun k => k = w.heap.size) w2 w3 → Same (fun k => k = w.heap.size) w2 w3 ∧ w3.cell? ⟨p, 1, none⟩ = some (.slice (some ⟨hb, 0, none⟩) n c) ∧ w3.cell? ⟨hb, j * 2, none⟩ = some (.int .i64 h.f) ∧ w3.cell? ⟨hb, j * 2 + 1, none⟩ = some (.int .i64 h.c)) := fun w3 k =>
              have hb2 : hb < w2.heap.size := Nat.lt_of_lt_of_le hbl JA2.out.kept.size
              ⟨k, (k.cell (p := ⟨p, 1, none⟩) hpl2 (by show ¬ p = _; omega)).trans v2, (k.cell (p := ⟨hb, _, none⟩) hb2 (by show ¬ hb = _; omega)).trans v3, (k.cell (p := ⟨hb, _, none⟩) hb2 (by show ¬ hb = _; omega)).trans v4⟩
            have HBX6 : Hid (∀ w3, Kept w2 w3 → w3.cell? ⟨w.heap.size, 0, none⟩ = some (.int .i64 y.f) ∧ w3.cell? ⟨w.heap.size, 1, none⟩ = some (.int .i64 y.c) ∧ (∀ o, w3.frozen? ⟨w.heap.size, o, none⟩ = false) ∧ w.heap.size < w3.heap.size) := fun w3 k => by
              have e0 := (JA2.out.on k).b0
              exact ⟨(cell_of e0 0).trans rfl, (cell_of e0 1).trans rfl, fun o => frozen_of e0 o, lt_of_heap e0⟩
            clear k2 k2' hbx
            go_wp2_with fail
            refine wp_region_held_drew (S := fun w' => Same (fun k => k = w.heap.size) w2 w' ∧ w'.cell? ⟨p, 1, none⟩ = some (.slice (some ⟨hb, 0, none⟩) n c) ∧ w'.cell? ⟨hb, j * 2, none⟩ = some (.int .i64 h.f) ∧ w'.cell? ⟨hb, j * 2 + 1, none⟩ = some (.int .i64 h.c)) (by kernel_rfl) (HX6.out _ (by (repeat (first | exact Same.refl _ _ | apply Same.alloc | apply Same.drew | refine Same.trans' ?_ (Kept.to k3 _) | refine Same.trans' ?_ (Kept.to k4 _) | refine Same.trans' ?_ (Kept.to k5 _) | refine Same.setCell (S := fun k => k = w.heap.size) ?_ _ (.inr rfl) _)); done)) (fun hHeld0 => ?_)
            refine wpAnyH_take (i := 0) (v := .pointer (some ⟨w.heap.size, 0, none⟩)) rfl (by kernel_rfl) (by kernel_rfl) (by kernel_rfl) (fun _ _ _ h => h) (Or.inl ⟨by rfl, fun w hSw => by (dsimp only at hSw; go_simp)⟩) (by assumption) ?_
            (try simp only [Act.put, List.getElem_toArray, List.getElem_cons_zero, List.setIfInBounds_toArray, List.set_cons_zero, List.set_cons_succ])
            refine wpAnyH_take (i := 2) (v := .pointer (some ⟨p, 0, none⟩)) rfl (by kernel_rfl) (by kernel_rfl) (by kernel_rfl) (fun _ _ _ h => h) (Or.inl ⟨by rfl, fun w hSw => by (dsimp only at hSw; go_simp)⟩) (by assumption) ?_
            (try simp only [Act.put, List.getElem_toArray, List.getElem_cons_succ, List.getElem_cons_zero, List.setIfInBounds_toArray, List.set_cons_zero, List.set_cons_succ])
            refine wpAnyH_take (i := 3) (v := .pointer (some ⟨p, 0, none⟩)) rfl (by kernel_rfl) (by kernel_rfl) (by kernel_rfl) (fun _ _ _ h => h) (Or.inl ⟨by rfl, fun w hSw => by (dsimp only at hSw; go_simp)⟩) (by assumption) ?_
            (try simp only [Act.put, List.getElem_toArray, List.getElem_cons_succ, List.getElem_cons_zero, List.setIfInBounds_toArray, List.set_cons_zero, List.set_cons_succ])
            refine wpAnyH_take (i := 4) (v := .pointer (some ⟨p, 1, none⟩)) rfl (by kernel_rfl) (by kernel_rfl) (by kernel_rfl) (fun _ _ _ h => h) (Or.inl ⟨by rfl, fun w hSw => by (dsimp only at hSw; go_simp)⟩) (by assumption) ?_
            (try simp only [Act.put, List.getElem_toArray, List.getElem_cons_succ, List.getElem_cons_zero, List.setIfInBounds_toArray, List.set_cons_zero, List.set_cons_succ])
            refine wpAnyH_take (i := 5) (v := .slice (some ⟨hb, 0, none⟩) n c) rfl (by kernel_rfl) (by kernel_rfl) (by kernel_rfl) (fun _ _ _ h => h) (Or.inl ⟨by rfl, fun w hSw => by (dsimp only at hSw; go_simp)⟩) (by assumption) ?_
            (try simp only [Act.put, List.getElem_toArray, List.getElem_cons_succ, List.getElem_cons_zero, List.setIfInBounds_toArray, List.set_cons_zero, List.set_cons_succ])
            refine wpAnyH_take (i := 6) (v := .int .i64 j) rfl (by kernel_rfl) (by kernel_rfl) (by kernel_rfl) (fun _ _ _ h => h) (Or.inl ⟨by rfl, fun w hSw => by (dsimp only at hSw; go_simp)⟩) (by assumption) ?_
            (try simp only [Act.put, List.getElem_toArray, List.getElem_cons_succ, List.getElem_cons_zero, List.setIfInBounds_toArray, List.set_cons_zero, List.set_cons_succ])
            refine wpAnyH_take (i := 7) (v := .pointer (some ⟨hb, j * 2, none⟩)) rfl (by kernel_rfl) (by kernel_rfl) (by kernel_rfl) (fun _ _ _ h => h) (Or.inl ⟨by rfl, fun w hSw => by (dsimp only at hSw; go_simp)⟩) (by assumption) ?_
            (try simp only [Act.put, List.getElem_toArray, List.getElem_cons_succ, List.getElem_cons_zero, List.setIfInBounds_toArray, List.set_cons_zero, List.set_cons_succ])
            refine wpAnyH_take (i := 8) (v := .pointer (some ⟨hb, j * 2, none⟩)) rfl (by kernel_rfl) (by kernel_rfl) (by kernel_rfl) (fun _ _ _ h => h) (Or.inl ⟨by rfl, fun w hSw => by (dsimp only at hSw; go_simp)⟩) (by assumption) ?_
            (try simp only [Act.put, List.getElem_toArray, List.getElem_cons_succ, List.getElem_cons_zero, List.setIfInBounds_toArray, List.set_cons_zero, List.set_cons_succ])
            refine wpAnyH_take (i := 9) (v := .int .i64 h.f) rfl (by kernel_rfl) (by kernel_rfl) (by kernel_rfl) (fun _ _ _ h => h) (Or.inl ⟨by rfl, fun w hSw => by (dsimp only at hSw; go_simp)⟩) (by assumption) ?_
            (try simp only [Act.put, List.getElem_toArray, List.getElem_cons_succ, List.getElem_cons_zero, List.setIfInBounds_toArray, List.set_cons_zero, List.set_cons_succ])
            refine wpAnyH_take (i := 13) (v := .pointer (some ⟨p, 0, none⟩)) rfl (by kernel_rfl) (by kernel_rfl) (by kernel_rfl) (fun _ _ _ h => h) (Or.inl ⟨by rfl, fun w hSw => by (dsimp only at hSw; go_simp)⟩) (by assumption) ?_
            (try simp only [Act.put, List.getElem_toArray, List.getElem_cons_succ, List.getElem_cons_zero, List.setIfInBounds_toArray, List.set_cons_zero, List.set_cons_succ])
            refine wpAnyH_take (i := 14) (v := .pointer (some ⟨p, 0, none⟩)) rfl (by kernel_rfl) (by kernel_rfl) (by kernel_rfl) (fun _ _ _ h => h) (Or.inl ⟨by rfl, fun w hSw => by (dsimp only at hSw; go_simp)⟩) (by assumption) ?_
            (try simp only [Act.put, List.getElem_toArray, List.getElem_cons_succ, List.getElem_cons_zero, List.setIfInBounds_toArray, List.set_cons_zero, List.set_cons_succ])
            refine wpAnyH_take (i := 15) (v := .pointer (some ⟨p, 1, none⟩)) rfl (by kernel_rfl) (by kernel_rfl) (by kernel_rfl) (fun _ _ _ h => h) (Or.inl ⟨by rfl, fun w hSw => by (dsimp only at hSw; go_simp)⟩) (by assumption) ?_
            (try simp only [Act.put, List.getElem_toArray, List.getElem_cons_succ, List.getElem_cons_zero, List.setIfInBounds_toArray, List.set_cons_zero, List.set_cons_succ])
            refine wpAnyH_take (i := 16) (v := .slice (some ⟨hb, 0, none⟩) n c) rfl (by kernel_rfl) (by kernel_rfl) (by kernel_rfl) (fun _ _ _ h => h) (Or.inl ⟨by rfl, fun w hSw => by (dsimp only at hSw; go_simp)⟩) (by assumption) ?_
            (try simp only [Act.put, List.getElem_toArray, List.getElem_cons_succ, List.getElem_cons_zero, List.setIfInBounds_toArray, List.set_cons_zero, List.set_cons_succ])
            refine wpAnyH_take (i := 17) (v := .int .i64 j) rfl (by kernel_rfl) (by kernel_rfl) (by kernel_rfl) (fun _ _ _ h => h) (Or.inl ⟨by rfl, fun w hSw => by (dsimp only at hSw; go_simp)⟩) (by assumption) ?_
            (try simp only [Act.put, List.getElem_toArray, List.getElem_cons_succ, List.getElem_cons_zero, List.setIfInBounds_toArray, List.set_cons_zero, List.set_cons_succ])
            refine wpAnyH_take (i := 18) (v := .pointer (some ⟨hb, j * 2, none⟩)) rfl (by kernel_rfl) (by kernel_rfl) (by kernel_rfl) (fun _ _ _ h => h) (Or.inl ⟨by rfl, fun w hSw => by (dsimp only at hSw; go_simp)⟩) (by assumption) ?_
            (try simp only [Act.put, List.getElem_toArray, List.getElem_cons_succ, List.getElem_cons_zero, List.setIfInBounds_toArray, List.set_cons_zero, List.set_cons_succ])
            refine wpAnyH_take (i := 19) (v := .agg #[.int .i64 h.f, .int .i64 h.c]) rfl (by kernel_rfl) (by kernel_rfl) (by kernel_rfl) (fun _ _ _ h => h) (Or.inl ⟨by rfl, fun w hSw => by (dsimp only at hSw; go_simp)⟩) (by assumption) ?_
            (try simp only [Act.put, List.getElem_toArray, List.getElem_cons_succ, List.getElem_cons_zero, List.setIfInBounds_toArray, List.set_cons_zero, List.set_cons_succ])
            refine wpAnyH_ready (rs := [1, 11]) (by kernel_rfl) (by simp) (AllReadyH.cons rfl (fun K hK => ?_) (AllReadyH.cons rfl (fun K hK => ?_) AllReadyH.nil))
            · skip
              go_simp
              refine hK.out _ _ (HX6.out _ (by (repeat (first | exact Same.refl _ _ | apply Same.alloc | apply Same.drew | refine Same.trans' ?_ (Kept.to k3 _) | refine Same.trans' ?_ (Kept.to k4 _) | refine Same.trans' ?_ (Kept.to k5 _) | refine Same.setCell (S := fun k => k = w.heap.size) ?_ _ (.inr rfl) _)); done)) (fun hHeld1 => ?_)
              clear hK K
              (try simp only [Act.put, List.getElem_toArray, List.getElem_cons_succ, List.getElem_cons_zero, List.setIfInBounds_toArray, List.set_cons_zero, List.set_cons_succ])
              refine wpAnyH_take (i := 10) (v := .int .i64 mn) rfl (by kernel_rfl) (by kernel_rfl) (by kernel_rfl) (fun _ _ _ h => h) (Or.inl ⟨by rfl, fun w hSw => by (dsimp only at hSw; go_simp)⟩) (by assumption) ?_
              (try simp only [Act.put, List.getElem_toArray, List.getElem_cons_succ, List.getElem_cons_zero, List.setIfInBounds_toArray, List.set_cons_zero, List.set_cons_succ])
              refine wpAnyH_ready (rs := [11]) (by kernel_rfl) (by simp) (AllReadyH.cons rfl (fun K hK => ?_) AllReadyH.nil)
              go_simp
              refine hK.out _ _ (HX6.out _ (by (repeat (first | exact Same.refl _ _ | apply Same.alloc | apply Same.drew | refine Same.trans' ?_ (Kept.to k3 _) | refine Same.trans' ?_ (Kept.to k4 _) | refine Same.trans' ?_ (Kept.to k5 _) | refine Same.setCell (S := fun k => k = w.heap.size) ?_ _ (.inr rfl) _)); done)) (fun hHeld2 => ?_)
              clear hK K
              (try simp only [Act.put, List.getElem_toArray, List.getElem_cons_succ, List.getElem_cons_zero, List.setIfInBounds_toArray, List.set_cons_zero, List.set_cons_succ])
              refine wpAnyH_ready (rs := [12]) (by kernel_rfl) (by simp) (AllReadyH.cons rfl (fun K hK => ?_) AllReadyH.nil)
              go_simp
              refine Calls.mono (HEy.out _) ?_
              rintro r w3 ⟨rfl, k3⟩
              obtain ⟨x30, x31, x32, x33⟩ := HBX6.out w3 (by (repeat (first | exact Same.refl _ _ | apply Same.alloc | apply Same.drew | refine Same.trans' ?_ k3 | refine Same.trans' ?_ k4 | refine Same.trans' ?_ k5)); done)
              go_wp2_with fail
              refine hK.out _ _ (HX6.out _ (by (repeat (first | exact Same.refl _ _ | apply Same.alloc | apply Same.drew | refine Same.trans' ?_ (Kept.to k3 _) | refine Same.trans' ?_ (Kept.to k4 _) | refine Same.trans' ?_ (Kept.to k5 _) | refine Same.setCell (S := fun k => k = w.heap.size) ?_ _ (.inr rfl) _)); done)) (fun hHeld3 => ?_)
              clear hK K
              (try simp only [Act.put, List.getElem_toArray, List.getElem_cons_succ, List.getElem_cons_zero, List.setIfInBounds_toArray, List.set_cons_zero, List.set_cons_succ])
              refine wpAnyH_ready (rs := [20]) (by kernel_rfl) (by simp) (AllReadyH.cons rfl (fun K hK => ?_) AllReadyH.nil)
              go_simp
              refine Calls.mono (HEh.out _) ?_
              rintro r w4 ⟨rfl, k4⟩
              obtain ⟨x40, x41, x42, x43⟩ := HBX6.out w4 (by (repeat (first | exact Same.refl _ _ | apply Same.alloc | apply Same.drew | refine Same.trans' ?_ k3 | refine Same.trans' ?_ k4 | refine Same.trans' ?_ k5)); done)
              go_wp2_with fail
              refine hK.out _ _ (HX6.out _ (by (repeat (first | exact Same.refl _ _ | apply Same.alloc | apply Same.drew | refine Same.trans' ?_ (Kept.to k3 _) | refine Same.trans' ?_ (Kept.to k4 _) | refine Same.trans' ?_ (Kept.to k5 _) | refine Same.setCell (S := fun k => k = w.heap.size) ?_ _ (.inr rfl) _)); done)) (fun hHeld4 => ?_)
              clear hK K
              (try simp only [Act.put, List.getElem_toArray, List.getElem_cons_succ, List.getElem_cons_zero, List.setIfInBounds_toArray, List.set_cons_zero, List.set_cons_succ])
              refine wpAnyH_take (i := 21) (v := .int .i64 mx) rfl (by kernel_rfl) (by kernel_rfl) (by kernel_rfl) (fun _ _ _ h => h) (Or.inl ⟨by rfl, fun w hSw => by (dsimp only at hSw; go_simp)⟩) (by assumption) ?_
              (try simp only [Act.put, List.getElem_toArray, List.getElem_cons_succ, List.getElem_cons_zero, List.setIfInBounds_toArray, List.set_cons_zero, List.set_cons_succ])
              refine wpAnyH_ready (rs := [22]) (by kernel_rfl) (by simp) (AllReadyH.cons rfl (fun K hK => ?_) AllReadyH.nil)
              go_simp
              refine Calls.mono (HBT.out _) ?_
              rintro r w5 ⟨rfl, k5⟩
              obtain ⟨x50, x51, x52, x53⟩ := HBX6.out w5 (by (repeat (first | exact Same.refl _ _ | apply Same.alloc | apply Same.drew | refine Same.trans' ?_ k3 | refine Same.trans' ?_ k4 | refine Same.trans' ?_ k5)); done)
              go_wp2_with fail
              refine hK.out _ _ (HX6.out _ (by (repeat (first | exact Same.refl _ _ | apply Same.alloc | apply Same.drew | refine Same.trans' ?_ (Kept.to k3 _) | refine Same.trans' ?_ (Kept.to k4 _) | refine Same.trans' ?_ (Kept.to k5 _) | refine Same.setCell (S := fun k => k = w.heap.size) ?_ _ (.inr rfl) _)); done)) (fun hHeld5 => ?_)
              clear hK K
              (try simp only [Act.put, List.getElem_toArray, List.getElem_cons_succ, List.getElem_cons_zero, List.setIfInBounds_toArray, List.set_cons_zero, List.set_cons_succ])
              refine wpAnyH_ready (rs := [23]) (by kernel_rfl) (by simp) (AllReadyH.cons rfl (fun K hK => ?_) AllReadyH.nil)
              go_simp
              refine hK.out _ _ (HX6.out _ (by (repeat (first | exact Same.refl _ _ | apply Same.alloc | apply Same.drew | refine Same.trans' ?_ (Kept.to k3 _) | refine Same.trans' ?_ (Kept.to k4 _) | refine Same.trans' ?_ (Kept.to k5 _) | refine Same.setCell (S := fun k => k = w.heap.size) ?_ _ (.inr rfl) _)); done)) (fun hHeld6 => ?_)
              clear hK K
              (try simp only [Act.put, List.getElem_toArray, List.getElem_cons_succ, List.getElem_cons_zero, List.setIfInBounds_toArray, List.set_cons_zero, List.set_cons_succ])
              refine wpAnyH_done (by kernel_rfl) ?_ _
              go_wp2_with fail
              go_roundw
              case rel =>
                have J5 := JA2.out.on (w2 := w5) (by (repeat (first | exact Same.refl _ _ | apply Same.alloc | apply Same.drew | refine Same.trans' ?_ k3 | refine Same.trans' ?_ k4 | refine Same.trans' ?_ k5)); done)
                exact ⟨j + 1, ⟨mn, mx - mn⟩, by simp, GJ.out, put2_at J5.b0 ⟨mn, mx - mn⟩, J5.kept.trans (put2_same w5 w.heap.size ⟨mn, mx - mn⟩) (fun i hi e => by omega)⟩
              case measure => simp only [intOf]; omega
            · skip
              go_simp
              refine hK.out _ _ (HX6.out _ (by (repeat (first | exact Same.refl _ _ | apply Same.alloc | apply Same.drew | refine Same.trans' ?_ (Kept.to k3 _) | refine Same.trans' ?_ (Kept.to k4 _) | refine Same.trans' ?_ (Kept.to k5 _) | refine Same.setCell (S := fun k => k = w.heap.size) ?_ _ (.inr rfl) _)); done)) (fun hHeld7 => ?_)
              clear hK K
              (try simp only [Act.put, List.getElem_toArray, List.getElem_cons_succ, List.getElem_cons_zero, List.setIfInBounds_toArray, List.set_cons_zero, List.set_cons_succ])
              refine wpAnyH_ready (rs := [1, 12]) (by kernel_rfl) (by simp) (AllReadyH.cons rfl (fun K hK => ?_) (AllReadyH.cons rfl (fun K hK => ?_) AllReadyH.nil))
              · skip
                go_simp
                refine hK.out _ _ (HX6.out _ (by (repeat (first | exact Same.refl _ _ | apply Same.alloc | apply Same.drew | refine Same.trans' ?_ (Kept.to k3 _) | refine Same.trans' ?_ (Kept.to k4 _) | refine Same.trans' ?_ (Kept.to k5 _) | refine Same.setCell (S := fun k => k = w.heap.size) ?_ _ (.inr rfl) _)); done)) (fun hHeld8 => ?_)
                clear hK K
                (try simp only [Act.put, List.getElem_toArray, List.getElem_cons_succ, List.getElem_cons_zero, List.setIfInBounds_toArray, List.set_cons_zero, List.set_cons_succ])
                refine wpAnyH_take (i := 10) (v := .int .i64 mn) rfl (by kernel_rfl) (by kernel_rfl) (by kernel_rfl) (fun _ _ _ h => h) (Or.inl ⟨by rfl, fun w hSw => by (dsimp only at hSw; go_simp)⟩) (by assumption) ?_
                (try simp only [Act.put, List.getElem_toArray, List.getElem_cons_succ, List.getElem_cons_zero, List.setIfInBounds_toArray, List.set_cons_zero, List.set_cons_succ])
                refine wpAnyH_ready (rs := [12]) (by kernel_rfl) (by simp) (AllReadyH.cons rfl (fun K hK => ?_) AllReadyH.nil)
                go_simp
                refine Calls.mono (HEy.out _) ?_
                rintro r w3 ⟨rfl, k3⟩
                obtain ⟨x30, x31, x32, x33⟩ := HBX6.out w3 (by (repeat (first | exact Same.refl _ _ | apply Same.alloc | apply Same.drew | refine Same.trans' ?_ k3 | refine Same.trans' ?_ k4 | refine Same.trans' ?_ k5)); done)
                go_wp2_with fail
                refine hK.out _ _ (HX6.out _ (by (repeat (first | exact Same.refl _ _ | apply Same.alloc | apply Same.drew | refine Same.trans' ?_ (Kept.to k3 _) | refine Same.trans' ?_ (Kept.to k4 _) | refine Same.trans' ?_ (Kept.to k5 _) | refine Same.setCell (S := fun k => k = w.heap.size) ?_ _ (.inr rfl) _)); done)) (fun hHeld9 => ?_)
                clear hK K
                (try simp only [Act.put, List.getElem_toArray, List.getElem_cons_succ, List.getElem_cons_zero, List.setIfInBounds_toArray, List.set_cons_zero, List.set_cons_succ])
                refine wpAnyH_ready (rs := [20]) (by kernel_rfl) (by simp) (AllReadyH.cons rfl (fun K hK => ?_) AllReadyH.nil)
                go_simp
                refine Calls.mono (HEh.out _) ?_
                rintro r w4 ⟨rfl, k4⟩
                obtain ⟨x40, x41, x42, x43⟩ := HBX6.out w4 (by (repeat (first | exact Same.refl _ _ | apply Same.alloc | apply Same.drew | refine Same.trans' ?_ k3 | refine Same.trans' ?_ k4 | refine Same.trans' ?_ k5)); done)
                go_wp2_with fail
                refine hK.out _ _ (HX6.out _ (by (repeat (first | exact Same.refl _ _ | apply Same.alloc | apply Same.drew | refine Same.trans' ?_ (Kept.to k3 _) | refine Same.trans' ?_ (Kept.to k4 _) | refine Same.trans' ?_ (Kept.to k5 _) | refine Same.setCell (S := fun k => k = w.heap.size) ?_ _ (.inr rfl) _)); done)) (fun hHeld10 => ?_)
                clear hK K
                (try simp only [Act.put, List.getElem_toArray, List.getElem_cons_succ, List.getElem_cons_zero, List.setIfInBounds_toArray, List.set_cons_zero, List.set_cons_succ])
                refine wpAnyH_take (i := 21) (v := .int .i64 mx) rfl (by kernel_rfl) (by kernel_rfl) (by kernel_rfl) (fun _ _ _ h => h) (Or.inl ⟨by rfl, fun w hSw => by (dsimp only at hSw; go_simp)⟩) (by assumption) ?_
                (try simp only [Act.put, List.getElem_toArray, List.getElem_cons_succ, List.getElem_cons_zero, List.setIfInBounds_toArray, List.set_cons_zero, List.set_cons_succ])
                refine wpAnyH_ready (rs := [22]) (by kernel_rfl) (by simp) (AllReadyH.cons rfl (fun K hK => ?_) AllReadyH.nil)
                go_simp
                refine Calls.mono (HBT.out _) ?_
                rintro r w5 ⟨rfl, k5⟩
                obtain ⟨x50, x51, x52, x53⟩ := HBX6.out w5 (by (repeat (first | exact Same.refl _ _ | apply Same.alloc | apply Same.drew | refine Same.trans' ?_ k3 | refine Same.trans' ?_ k4 | refine Same.trans' ?_ k5)); done)
                go_wp2_with fail
                refine hK.out _ _ (HX6.out _ (by (repeat (first | exact Same.refl _ _ | apply Same.alloc | apply Same.drew | refine Same.trans' ?_ (Kept.to k3 _) | refine Same.trans' ?_ (Kept.to k4 _) | refine Same.trans' ?_ (Kept.to k5 _) | refine Same.setCell (S := fun k => k = w.heap.size) ?_ _ (.inr rfl) _)); done)) (fun hHeld11 => ?_)
                clear hK K
                (try simp only [Act.put, List.getElem_toArray, List.getElem_cons_succ, List.getElem_cons_zero, List.setIfInBounds_toArray, List.set_cons_zero, List.set_cons_succ])
                refine wpAnyH_ready (rs := [23]) (by kernel_rfl) (by simp) (AllReadyH.cons rfl (fun K hK => ?_) AllReadyH.nil)
                go_simp
                refine hK.out _ _ (HX6.out _ (by (repeat (first | exact Same.refl _ _ | apply Same.alloc | apply Same.drew | refine Same.trans' ?_ (Kept.to k3 _) | refine Same.trans' ?_ (Kept.to k4 _) | refine Same.trans' ?_ (Kept.to k5 _) | refine Same.setCell (S := fun k => k = w.heap.size) ?_ _ (.inr rfl) _)); done)) (fun hHeld12 => ?_)
                clear hK K
                (try simp only [Act.put, List.getElem_toArray, List.getElem_cons_succ, List.getElem_cons_zero, List.setIfInBounds_toArray, List.set_cons_zero, List.set_cons_succ])
                refine wpAnyH_done (by kernel_rfl) ?_ _
                go_wp2_with fail
                go_roundw
                case rel =>
                  have J5 := JA2.out.on (w2 := w5) (by (repeat (first | exact Same.refl _ _ | apply Same.alloc | apply Same.drew | refine Same.trans' ?_ k3 | refine Same.trans' ?_ k4 | refine Same.trans' ?_ k5)); done)
                  exact ⟨j + 1, ⟨mn, mx - mn⟩, by simp, GJ.out, put2_at J5.b0 ⟨mn, mx - mn⟩, J5.kept.trans (put2_same w5 w.heap.size ⟨mn, mx - mn⟩) (fun i hi e => by omega)⟩
                case measure => simp only [intOf]; omega
              · skip
                go_simp
                refine Calls.mono (HEy.out _) ?_
                rintro r w3 ⟨rfl, k3⟩
                obtain ⟨x30, x31, x32, x33⟩ := HBX6.out w3 (by (repeat (first | exact Same.refl _ _ | apply Same.alloc | apply Same.drew | refine Same.trans' ?_ k3 | refine Same.trans' ?_ k4 | refine Same.trans' ?_ k5)); done)
                go_wp2_with fail
                refine hK.out _ _ (HX6.out _ (by (repeat (first | exact Same.refl _ _ | apply Same.alloc | apply Same.drew | refine Same.trans' ?_ (Kept.to k3 _) | refine Same.trans' ?_ (Kept.to k4 _) | refine Same.trans' ?_ (Kept.to k5 _) | refine Same.setCell (S := fun k => k = w.heap.size) ?_ _ (.inr rfl) _)); done)) (fun hHeld13 => ?_)
                clear hK K
                (try simp only [Act.put, List.getElem_toArray, List.getElem_cons_succ, List.getElem_cons_zero, List.setIfInBounds_toArray, List.set_cons_zero, List.set_cons_succ])
                refine wpAnyH_ready (rs := [1, 20]) (by kernel_rfl) (by simp) (AllReadyH.cons rfl (fun K hK => ?_) (AllReadyH.cons rfl (fun K hK => ?_) AllReadyH.nil))
                · skip
                  go_simp
                  refine hK.out _ _ (HX6.out _ (by (repeat (first | exact Same.refl _ _ | apply Same.alloc | apply Same.drew | refine Same.trans' ?_ (Kept.to k3 _) | refine Same.trans' ?_ (Kept.to k4 _) | refine Same.trans' ?_ (Kept.to k5 _) | refine Same.setCell (S := fun k => k = w.heap.size) ?_ _ (.inr rfl) _)); done)) (fun hHeld14 => ?_)
                  clear hK K
                  (try simp only [Act.put, List.getElem_toArray, List.getElem_cons_succ, List.getElem_cons_zero, List.setIfInBounds_toArray, List.set_cons_zero, List.set_cons_succ])
                  refine wpAnyH_take (i := 10) (v := .int .i64 mn) rfl (by kernel_rfl) (by kernel_rfl) (by kernel_rfl) (fun _ _ _ h => h) (Or.inl ⟨by rfl, fun w hSw => by (dsimp only at hSw; go_simp)⟩) (by assumption) ?_
                  (try simp only [Act.put, List.getElem_toArray, List.getElem_cons_succ, List.getElem_cons_zero, List.setIfInBounds_toArray, List.set_cons_zero, List.set_cons_succ])
                  refine wpAnyH_ready (rs := [20]) (by kernel_rfl) (by simp) (AllReadyH.cons rfl (fun K hK => ?_) AllReadyH.nil)
                  go_simp
                  refine Calls.mono (HEh.out _) ?_
                  rintro r w4 ⟨rfl, k4⟩
                  obtain ⟨x40, x41, x42, x43⟩ := HBX6.out w4 (by (repeat (first | exact Same.refl _ _ | apply Same.alloc | apply Same.drew | refine Same.trans' ?_ k3 | refine Same.trans' ?_ k4 | refine Same.trans' ?_ k5)); done)
                  go_wp2_with fail
                  refine hK.out _ _ (HX6.out _ (by (repeat (first | exact Same.refl _ _ | apply Same.alloc | apply Same.drew | refine Same.trans' ?_ (Kept.to k3 _) | refine Same.trans' ?_ (Kept.to k4 _) | refine Same.trans' ?_ (Kept.to k5 _) | refine Same.setCell (S := fun k => k = w.heap.size) ?_ _ (.inr rfl) _)); done)) (fun hHeld15 => ?_)
                  clear hK K
                  (try simp only [Act.put, List.getElem_toArray, List.getElem_cons_succ, List.getElem_cons_zero, List.setIfInBounds_toArray, List.set_cons_zero, List.set_cons_succ])
                  refine wpAnyH_take (i := 21) (v := .int .i64 mx) rfl (by kernel_rfl) (by kernel_rfl) (by kernel_rfl) (fun _ _ _ h => h) (Or.inl ⟨by rfl, fun w hSw => by (dsimp only at hSw; go_simp)⟩) (by assumption) ?_
                  (try simp only [Act.put, List.getElem_toArray, List.getElem_cons_succ, List.getElem_cons_zero, List.setIfInBounds_toArray, List.set_cons_zero, List.set_cons_succ])
                  refine wpAnyH_ready (rs := [22]) (by kernel_rfl) (by simp) (AllReadyH.cons rfl (fun K hK => ?_) AllReadyH.nil)
                  go_simp
                  refine Calls.mono (HBT.out _) ?_
                  rintro r w5 ⟨rfl, k5⟩
                  obtain ⟨x50, x51, x52, x53⟩ := HBX6.out w5 (by (repeat (first | exact Same.refl _ _ | apply Same.alloc | apply Same.drew | refine Same.trans' ?_ k3 | refine Same.trans' ?_ k4 | refine Same.trans' ?_ k5)); done)
                  go_wp2_with fail
                  refine hK.out _ _ (HX6.out _ (by (repeat (first | exact Same.refl _ _ | apply Same.alloc | apply Same.drew | refine Same.trans' ?_ (Kept.to k3 _) | refine Same.trans' ?_ (Kept.to k4 _) | refine Same.trans' ?_ (Kept.to k5 _) | refine Same.setCell (S := fun k => k = w.heap.size) ?_ _ (.inr rfl) _)); done)) (fun hHeld16 => ?_)
                  clear hK K
                  (try simp only [Act.put, List.getElem_toArray, List.getElem_cons_succ, List.getElem_cons_zero, List.setIfInBounds_toArray, List.set_cons_zero, List.set_cons_succ])
                  refine wpAnyH_ready (rs := [23]) (by kernel_rfl) (by simp) (AllReadyH.cons rfl (fun K hK => ?_) AllReadyH.nil)
                  go_simp
                  refine hK.out _ _ (HX6.out _ (by (repeat (first | exact Same.refl _ _ | apply Same.alloc | apply Same.drew | refine Same.trans' ?_ (Kept.to k3 _) | refine Same.trans' ?_ (Kept.to k4 _) | refine Same.trans' ?_ (Kept.to k5 _) | refine Same.setCell (S := fun k => k = w.heap.size) ?_ _ (.inr rfl) _)); done)) (fun hHeld17 => ?_)
                  clear hK K
                  (try simp only [Act.put, List.getElem_toArray, List.getElem_cons_succ, List.getElem_cons_zero, List.setIfInBounds_toArray, List.set_cons_zero, List.set_cons_succ])
                  refine wpAnyH_done (by kernel_rfl) ?_ _
                  go_wp2_with fail
                  go_roundw
                  case rel =>
                    have J5 := JA2.out.on (w2 := w5) (by (repeat (first | exact Same.refl _ _ | apply Same.alloc | apply Same.drew | refine Same.trans' ?_ k3 | refine Same.trans' ?_ k4 | refine Same.trans' ?_ k5)); done)
                    exact ⟨j + 1, ⟨mn, mx - mn⟩, by simp, GJ.out, put2_at J5.b0 ⟨mn, mx - mn⟩, J5.kept.trans (put2_same w5 w.heap.size ⟨mn, mx - mn⟩) (fun i hi e => by omega)⟩
                  case measure => simp only [intOf]; omega
                · skip
                  go_simp
                  refine Calls.mono (HEh.out _) ?_
                  rintro r w4 ⟨rfl, k4⟩
                  obtain ⟨x40, x41, x42, x43⟩ := HBX6.out w4 (by (repeat (first | exact Same.refl _ _ | apply Same.alloc | apply Same.drew | refine Same.trans' ?_ k3 | refine Same.trans' ?_ k4 | refine Same.trans' ?_ k5)); done)
                  go_wp2_with fail
                  refine hK.out _ _ (HX6.out _ (by (repeat (first | exact Same.refl _ _ | apply Same.alloc | apply Same.drew | refine Same.trans' ?_ (Kept.to k3 _) | refine Same.trans' ?_ (Kept.to k4 _) | refine Same.trans' ?_ (Kept.to k5 _) | refine Same.setCell (S := fun k => k = w.heap.size) ?_ _ (.inr rfl) _)); done)) (fun hHeld18 => ?_)
                  clear hK K
                  (try simp only [Act.put, List.getElem_toArray, List.getElem_cons_succ, List.getElem_cons_zero, List.setIfInBounds_toArray, List.set_cons_zero, List.set_cons_succ])
                  refine wpAnyH_take (i := 21) (v := .int .i64 mx) rfl (by kernel_rfl) (by kernel_rfl) (by kernel_rfl) (fun _ _ _ h => h) (Or.inl ⟨by rfl, fun w hSw => by (dsimp only at hSw; go_simp)⟩) (by assumption) ?_
                  (try simp only [Act.put, List.getElem_toArray, List.getElem_cons_succ, List.getElem_cons_zero, List.setIfInBounds_toArray, List.set_cons_zero, List.set_cons_succ])
                  refine wpAnyH_ready (rs := [1]) (by kernel_rfl) (by simp) (AllReadyH.cons rfl (fun K hK => ?_) AllReadyH.nil)
                  go_simp
                  refine hK.out _ _ (HX6.out _ (by (repeat (first | exact Same.refl _ _ | apply Same.alloc | apply Same.drew | refine Same.trans' ?_ (Kept.to k3 _) | refine Same.trans' ?_ (Kept.to k4 _) | refine Same.trans' ?_ (Kept.to k5 _) | refine Same.setCell (S := fun k => k = w.heap.size) ?_ _ (.inr rfl) _)); done)) (fun hHeld19 => ?_)
                  clear hK K
                  (try simp only [Act.put, List.getElem_toArray, List.getElem_cons_succ, List.getElem_cons_zero, List.setIfInBounds_toArray, List.set_cons_zero, List.set_cons_succ])
                  refine wpAnyH_take (i := 10) (v := .int .i64 mn) rfl (by kernel_rfl) (by kernel_rfl) (by kernel_rfl) (fun _ _ _ h => h) (Or.inl ⟨by rfl, fun w hSw => by (dsimp only at hSw; go_simp)⟩) (by assumption) ?_
                  (try simp only [Act.put, List.getElem_toArray, List.getElem_cons_succ, List.getElem_cons_zero, List.setIfInBounds_toArray, List.set_cons_zero, List.set_cons_succ])
                  refine wpAnyH_ready (rs := [22]) (by kernel_rfl) (by simp) (AllReadyH.cons rfl (fun K hK => ?_) AllReadyH.nil)
                  go_simp
                  refine Calls.mono (HBT.out _) ?_
                  rintro r w5 ⟨rfl, k5⟩
                  obtain ⟨x50, x51, x52, x53⟩ := HBX6.out w5 (by (repeat (first | exact Same.refl _ _ | apply Same.alloc | apply Same.drew | refine Same.trans' ?_ k3 | refine Same.trans' ?_ k4 | refine Same.trans' ?_ k5)); done)
                  go_wp2_with fail
                  refine hK.out _ _ (HX6.out _ (by (repeat (first | exact Same.refl _ _ | apply Same.alloc | apply Same.drew | refine Same.trans' ?_ (Kept.to k3 _) | refine Same.trans' ?_ (Kept.to k4 _) | refine Same.trans' ?_ (Kept.to k5 _) | refine Same.setCell (S := fun k => k = w.heap.size) ?_ _ (.inr rfl) _)); done)) (fun hHeld20 => ?_)
                  clear hK K
                  (try simp only [Act.put, List.getElem_toArray, List.getElem_cons_succ, List.getElem_cons_zero, List.setIfInBounds_toArray, List.set_cons_zero, List.set_cons_succ])
                  refine wpAnyH_ready (rs := [23]) (by kernel_rfl) (by simp) (AllReadyH.cons rfl (fun K hK => ?_) AllReadyH.nil)
                  go_simp
                  refine hK.out _ _ (HX6.out _ (by (repeat (first | exact Same.refl _ _ | apply Same.alloc | apply Same.drew | refine Same.trans' ?_ (Kept.to k3 _) | refine Same.trans' ?_ (Kept.to k4 _) | refine Same.trans' ?_ (Kept.to k5 _) | refine Same.setCell (S := fun k => k = w.heap.size) ?_ _ (.inr rfl) _)); done)) (fun hHeld21 => ?_)
                  clear hK K
                  (try simp only [Act.put, List.getElem_toArray, List.getElem_cons_succ, List.getElem_cons_zero, List.setIfInBounds_toArray, List.set_cons_zero, List.set_cons_succ])
                  refine wpAnyH_done (by kernel_rfl) ?_ _
                  go_wp2_with fail
                  go_roundw
                  case rel =>
                    have J5 := JA2.out.on (w2 := w5) (by (repeat (first | exact Same.refl _ _ | apply Same.alloc | apply Same.drew | refine Same.trans' ?_ k3 | refine Same.trans' ?_ k4 | refine Same.trans' ?_ k5)); done)
                    exact ⟨j + 1, ⟨mn, mx - mn⟩, by simp, GJ.out, put2_at J5.b0 ⟨mn, mx - mn⟩, J5.kept.trans (put2_same w5 w.heap.size ⟨mn, mx - mn⟩) (fun i hi e => by omega)⟩
                  case measure => simp only [intOf]; omega
          · have ht' : decide (h.f ≤ ye) = false := decide_eq_false ht
            have HT : Hid _ := ht
            clear hh ehe k0 ht
            go_wp2_with fail
            go_region_held3 (fun w' => Kept wr w' ∧ w'.cell? ⟨w.heap.size, 0, none⟩ = some (.int .i64 y.f) ∧ w'.cell? ⟨w.heap.size, 1, none⟩ = some (.int .i64 y.c) ∧ w'.cell? ⟨p, 1, none⟩ = some (.slice (some ⟨hb, 0, none⟩) n c) ∧ w'.cell? ⟨hb, j * 2, none⟩ = some (.int .i64 h.f) ∧ w'.cell? ⟨hb, j * 2 + 1, none⟩ = some (.int .i64 h.c))
              (exact HX.out _ (by (repeat (first | exact Same.refl _ _ | apply Same.alloc | apply Same.drew | refine Same.trans' ?_ k2)); done))
              (first | (refine Calls.mono (HEy.out _) ?_; rintro r w2 ⟨rfl, k2⟩))
            all_goals
              go_wp2_with fail
              go_meet
              refine ⟨j, y, rfl, HJI.out, fun g hg => ?_, HJA.out.on ((Same.drew (Same.refl _ _)).trans' k2)⟩
              rw [HH.out] at hg
              cases hg
              rw [← EY.out]
              exact Int.not_le.1 HT.out
        · have c1' : decide ((j : Int) < (n : Int)) = false := by simp only [decide_eq_false_iff_not]; omega
          obtain rfl : j = n := by omega
          clear k0
          go_wp2_with fail
          go_quiet (fail)
          go_wp2_with fail
          go_meet
          refine ⟨j, y, rfl, HJI.out, fun g hg => ?_, HJA.out.on (Same.drewN (Same.refl _ _) _)⟩
          have := (List.getElem?_eq_some_iff.1 hg).1
          have := EN.out
          omega
    case rest =>
      obtain ⟨t, y, rfl, hji, hend, hja⟩ := hcut
      have HF : Hid _ := hji.fin HS.out.wf hend
      have hft := hji.le
      have htn : t ≤ n := by rw [EN.out]; exact hji.len
      have k0 := hja.kept
      have JA2 : Hid _ := hja
      have pc : wc.cell? ⟨p, 1, none⟩ = some (.slice (some ⟨hb, 0, none⟩) n c) := (k0.cell (p := ⟨p, 1, none⟩) hpl (fun h => h)).trans c1
      have hplr : p < wc.heap.size := Nat.lt_of_lt_of_le hpl k0.size
      have hb0 := hja.b0
      have a0 : wc.cell? ⟨w.heap.size, 0, none⟩ = some (.int .i64 y.f) := (cell_of hb0 0).trans rfl
      have a1 : wc.cell? ⟨w.heap.size, 1, none⟩ = some (.int .i64 y.c) := (cell_of hb0 1).trans rfl
      have l0 := lt_of_heap hb0
      have hp1 : wc.heap[p]? = some (spO N (some ⟨hb, 0, none⟩) n c) := (k0.block _ hpl (fun h => h)).trans (by rw [EN.out]; exact HS.out.obj)
      have zp : ∀ o, wc.frozen? ⟨p, o, none⟩ = false := fun o => frozen_of hp1 o
      have KW : Hid _ := k0
      clear hji hend hja k0 hb0 hp1
      go_wp2_with fail
      have hst := EN.out
      have HX8 : Hid (∀ w3, Same (fun k => k = p ∨ k = hb) wc w3 → Same (fun k => k = p ∨ k = hb) wc w3 ∧ w3.cell? ⟨w.heap.size, 0, none⟩ = some (.int .i64 y.f) ∧ w3.cell? ⟨w.heap.size, 1, none⟩ = some (.int .i64 y.c)) := fun w3 k =>
        ⟨k, (k.cell (p := ⟨w.heap.size, 0, none⟩) l0 (by show ¬ (w.heap.size = p ∨ w.heap.size = hb); omega)).trans a0, (k.cell (p := ⟨w.heap.size, 1, none⟩) l0 (by show ¬ (w.heap.size = p ∨ w.heap.size = hb); omega)).trans a1⟩
      have HRP : Hid _ := replace_any (w := wc.drew.alloc (exO y)) (V := [y]) (vb := wc.heap.size) (vc := 1) (i := fr) (j := t) (Row.kept (Row.kept HRow.out KW.out (fun h => h)) (((Same.refl (fun _ => False) wc).drew).alloc (exO y)) (fun h => h)) (row_of_new wc.drew y) (by omega) hft (by rw [← EN.out]; exact htn) (by show 1 ≤ _; omega) (fun _ => rfl) (by rw [← EN.out]; exact hn)
      rw [← EN.out, List.length_singleton] at HRP
      have HP8 : Hid ((wc.drew.alloc (exO y)).heap[p]? = some (spO N (some ⟨hb, 0, none⟩) n c)) := (heap_old _ _ hplr).trans ((KW.out.block _ hpl (fun h => h)).trans (by rw [EN.out]; exact HS.out.obj))
      clear hst
      unfold exO at *
      refine wp_region_held_drew (S := fun w' => Same (fun k => k = p ∨ k = hb) wc w' ∧ w'.cell? ⟨w.heap.size, 0, none⟩ = some (.int .i64 y.f) ∧ w'.cell? ⟨w.heap.size, 1, none⟩ = some (.int .i64 y.c)) (by kernel_rfl) (HX8.out _ (by (repeat (first | exact Same.refl _ _ | apply Same.alloc | apply Same.drew | refine Same.trans' ?_ (Same.mono ks4 (fun _ _ e => Or.inr e)) | refine Same.setCell (S := fun k => k = p ∨ k = hb) ?_ _ (.inr (.inl rfl)) _)); done)) (fun hHeld0 => ?_)
      refine wpAnyH_take (i := 0) (v := .pointer (some ⟨p, 0, none⟩)) rfl (by kernel_rfl) (by kernel_rfl) (by kernel_rfl) (fun _ _ _ h => h) (Or.inl ⟨by rfl, fun w hSw => by (dsimp only at hSw; go_simp)⟩) (by assumption) ?_
      (try simp only [Act.put, List.getElem_toArray, List.getElem_cons_zero, List.setIfInBounds_toArray, List.set_cons_zero, List.set_cons_succ])
      refine wpAnyH_take (i := 1) (v := .pointer (some ⟨p, 0, none⟩)) rfl (by kernel_rfl) (by kernel_rfl) (by kernel_rfl) (fun _ _ _ h => h) (Or.inl ⟨by rfl, fun w hSw => by (dsimp only at hSw; go_simp)⟩) (by assumption) ?_
      (try simp only [Act.put, List.getElem_toArray, List.getElem_cons_succ, List.getElem_cons_zero, List.setIfInBounds_toArray, List.set_cons_zero, List.set_cons_succ])
      refine wpAnyH_take (i := 2) (v := .pointer (some ⟨p, 0, none⟩)) rfl (by kernel_rfl) (by kernel_rfl) (by kernel_rfl) (fun _ _ _ h => h) (Or.inl ⟨by rfl, fun w hSw => by (dsimp only at hSw; go_simp)⟩) (by assumption) ?_
      (try simp only [Act.put, List.getElem_toArray, List.getElem_cons_succ, List.getElem_cons_zero, List.setIfInBounds_toArray, List.set_cons_zero, List.set_cons_succ])
      refine wpAnyH_take (i := 3) (v := .pointer (some ⟨p, 1, none⟩)) rfl (by kernel_rfl) (by kernel_rfl) (by kernel_rfl) (fun _ _ _ h => h) (Or.inl ⟨by rfl, fun w hSw => by (dsimp only at hSw; go_simp)⟩) (by assumption) ?_
      (try simp only [Act.put, List.getElem_toArray, List.getElem_cons_succ, List.getElem_cons_zero, List.setIfInBounds_toArray, List.set_cons_zero, List.set_cons_succ])
      refine wpAnyH_take (i := 5) (v := .int .i64 fr) rfl (by kernel_rfl) (by kernel_rfl) (by kernel_rfl) (fun _ _ _ h => h) (Or.inl ⟨by rfl, fun w hSw => by (dsimp only at hSw; go_simp)⟩) (by assumption) ?_
      (try simp only [Act.put, List.getElem_toArray, List.getElem_cons_succ, List.getElem_cons_zero, List.setIfInBounds_toArray, List.set_cons_zero, List.set_cons_succ])
      refine wpAnyH_take (i := 6) (v := .int .i64 t) rfl (by kernel_rfl) (by kernel_rfl) (by kernel_rfl) (fun _ _ _ h => h) (Or.inl ⟨by rfl, fun w hSw => by (dsimp only at hSw; go_simp)⟩) (by assumption) ?_
      (try simp only [Act.put, List.getElem_toArray, List.getElem_cons_succ, List.getElem_cons_zero, List.setIfInBounds_toArray, List.set_cons_zero, List.set_cons_succ])
      refine wpAnyH_take (i := 7) (v := .agg #[.int .i64 y.f, .int .i64 y.c]) rfl (by kernel_rfl) (by kernel_rfl) (by kernel_rfl) (fun _ _ _ h => h) (Or.inl ⟨by rfl, fun w hSw => by (dsimp only at hSw; go_simp)⟩) (by assumption) ?_
      (try simp only [Act.put, List.getElem_toArray, List.getElem_cons_succ, List.getElem_cons_zero, List.setIfInBounds_toArray, List.set_cons_zero, List.set_cons_succ])
      refine wpAnyH_ready (rs := [4, 8]) (by kernel_rfl) (by simp) (AllReadyH.cons rfl (fun K hK => ?_) (AllReadyH.cons rfl (fun K hK => ?_) AllReadyH.nil))
      · skip
        go_simp
        refine hK.out _ _ (HX8.out _ (by (repeat (first | exact Same.refl _ _ | apply Same.alloc | apply Same.drew | refine Same.trans' ?_ (Same.mono ks4 (fun _ _ e => Or.inr e)) | refine Same.setCell (S := fun k => k = p ∨ k = hb) ?_ _ (.inr (.inl rfl)) _)); done)) (fun hHeld1 => ?_)
        clear hK K
        (try simp only [Act.put, List.getElem_toArray, List.getElem_cons_succ, List.getElem_cons_zero, List.setIfInBounds_toArray, List.set_cons_zero, List.set_cons_succ])
        refine wpAnyH_ready (rs := [8]) (by kernel_rfl) (by simp) (AllReadyH.cons rfl (fun K hK => ?_) AllReadyH.nil)
        go_simp
        refine hK.out _ _ (HX8.out _ (by (repeat (first | exact Same.refl _ _ | apply Same.alloc | apply Same.drew | refine Same.trans' ?_ (Same.mono ks4 (fun _ _ e => Or.inr e)) | refine Same.setCell (S := fun k => k = p ∨ k = hb) ?_ _ (.inr (.inl rfl)) _)); done)) (fun hHeld2 => ?_)
        clear hK K
        (try simp only [Act.put, List.getElem_toArray, List.getElem_cons_succ, List.getElem_cons_zero, List.setIfInBounds_toArray, List.set_cons_zero, List.set_cons_succ])
        refine wpAnyH_ready (rs := [9]) (by kernel_rfl) (by simp) (AllReadyH.cons rfl (fun K hK => ?_) AllReadyH.nil)
        go_simp
        refine Calls.mono HRP.out ?_
        rintro r w4 ⟨v, rfl, hb', c', rfl, hr4, hn4, ks4⟩
        have hp4 : w4.heap[p]? = some (spO N (some ⟨hb, 0, none⟩) n c) := (ks4.block _ (by simp; omega) (fun e => HNE.out e.symm)).trans HP8.out
        have hc4 : w4.cell? ⟨p, 1, none⟩ = some (.slice (some ⟨hb, 0, none⟩) n c) := (cell_of hp4 1).trans rfl
        have hf4 : w4.frozen? ⟨p, 1, none⟩ = false := frozen_of hp4 1
        have hp4l := lt_of_heap hp4
        go_wp2_with fail
        refine hK.out _ _ (HX8.out _ (by (repeat (first | exact Same.refl _ _ | apply Same.alloc | apply Same.drew | refine Same.trans' ?_ (Same.mono ks4 (fun _ _ e => Or.inr e)) | refine Same.setCell (S := fun k => k = p ∨ k = hb) ?_ _ (.inr (.inl rfl)) _)); done)) (fun hHeld3 => ?_)
        clear hK K
        (try simp only [Act.put, List.getElem_toArray, List.getElem_cons_succ, List.getElem_cons_zero, List.setIfInBounds_toArray, List.set_cons_zero, List.set_cons_succ])
        refine wpAnyH_take (i := 10) (v := .pointer (some ⟨p, 0, none⟩)) rfl (by kernel_rfl) (by kernel_rfl) (by kernel_rfl) (fun _ _ _ h => h) (Or.inl ⟨by rfl, fun w hSw => by (dsimp only at hSw; go_simp)⟩) (by assumption) ?_
        (try simp only [Act.put, List.getElem_toArray, List.getElem_cons_succ, List.getElem_cons_zero, List.setIfInBounds_toArray, List.set_cons_zero, List.set_cons_succ])
        refine wpAnyH_take (i := 11) (v := .pointer (some ⟨p, 1, none⟩)) rfl (by kernel_rfl) (by kernel_rfl) (by kernel_rfl) (fun _ _ _ h => h) (Or.inl ⟨by rfl, fun w hSw => by (dsimp only at hSw; go_simp)⟩) (by assumption) ?_
        (try simp only [Act.put, List.getElem_toArray, List.getElem_cons_succ, List.getElem_cons_zero, List.setIfInBounds_toArray, List.set_cons_zero, List.set_cons_succ])
        refine wpAnyH_ready (rs := [12]) (by kernel_rfl) (by simp) (AllReadyH.cons rfl (fun K hK => ?_) AllReadyH.nil)
        go_simp
        refine hK.out _ _ (HX8.out _ (by (repeat (first | exact Same.refl _ _ | apply Same.alloc | apply Same.drew | refine Same.trans' ?_ (Same.mono ks4 (fun _ _ e => Or.inr e)) | refine Same.setCell (S := fun k => k = p ∨ k = hb) ?_ _ (.inr (.inl rfl)) _)); done)) (fun hHeld4 => ?_)
        clear hK K
        (try simp only [Act.put, List.getElem_toArray, List.getElem_cons_succ, List.getElem_cons_zero, List.setIfInBounds_toArray, List.set_cons_zero, List.set_cons_succ])
        refine wpAnyH_done (by kernel_rfl) ?_ _
        go_wp2_with fail
        go_end0
        refine ⟨rfl, _, Upd.of HS.out (KW.out.trans' ((Same.drew (Same.refl _ _)).alloc _)) hr4 hn4 ks4 HNE.out HF.out.1 (by simp only [List.length_append, List.length_take, List.length_drop, List.length_cons, List.length_nil]; omega), HF.out.2⟩
      · skip
        go_simp
        refine hK.out _ _ (HX8.out _ (by (repeat (first | exact Same.refl _ _ | apply Same.alloc | apply Same.drew | refine Same.trans' ?_ (Same.mono ks4 (fun _ _ e => Or.inr e)) | refine Same.setCell (S := fun k => k = p ∨ k = hb) ?_ _ (.inr (.inl rfl)) _)); done)) (fun hHeld5 => ?_)
        clear hK K
        (try simp only [Act.put, List.getElem_toArray, List.getElem_cons_succ, List.getElem_cons_zero, List.setIfInBounds_toArray, List.set_cons_zero, List.set_cons_succ])
        refine wpAnyH_ready (rs := [4]) (by kernel_rfl) (by simp) (AllReadyH.cons rfl (fun K hK => ?_) AllReadyH.nil)
        go_simp
        refine hK.out _ _ (HX8.out _ (by (repeat (first | exact Same.refl _ _ | apply Same.alloc | apply Same.drew | refine Same.trans' ?_ (Same.mono ks4 (fun _ _ e => Or.inr e)) | refine Same.setCell (S := fun k => k = p ∨ k = hb) ?_ _ (.inr (.inl rfl)) _)); done)) (fun hHeld6 => ?_)
        clear hK K
        (try simp only [Act.put, List.getElem_toArray, List.getElem_cons_succ, List.getElem_cons_zero, List.setIfInBounds_toArray, List.set_cons_zero, List.set_cons_succ])
        refine wpAnyH_ready (rs := [9]) (by kernel_rfl) (by simp) (AllReadyH.cons rfl (fun K hK => ?_) AllReadyH.nil)
        go_simp
        refine Calls.mono HRP.out ?_
        rintro r w4 ⟨v, rfl, hb', c', rfl, hr4, hn4, ks4⟩
        have hp4 : w4.heap[p]? = some (spO N (some ⟨hb, 0, none⟩) n c) := (ks4.block _ (by simp; omega) (fun e => HNE.out e.symm)).trans HP8.out
        have hc4 : w4.cell? ⟨p, 1, none⟩ = some (.slice (some ⟨hb, 0, none⟩) n c) := (cell_of hp4 1).trans rfl
        have hf4 : w4.frozen? ⟨p, 1, none⟩ = false := frozen_of hp4 1
        have hp4l := lt_of_heap hp4
        go_wp2_with fail
        refine hK.out _ _ (HX8.out _ (by (repeat (first | exact Same.refl _ _ | apply Same.alloc | apply Same.drew | refine Same.trans' ?_ (Same.mono ks4 (fun _ _ e => Or.inr e)) | refine Same.setCell (S := fun k => k = p ∨ k = hb) ?_ _ (.inr (.inl rfl)) _)); done)) (fun hHeld7 => ?_)
        clear hK K
        (try simp only [Act.put, List.getElem_toArray, List.getElem_cons_succ, List.getElem_cons_zero, List.setIfInBounds_toArray, List.set_cons_zero, List.set_cons_succ])
        refine wpAnyH_take (i := 10) (v := .pointer (some ⟨p, 0, none⟩)) rfl (by kernel_rfl) (by kernel_rfl) (by kernel_rfl) (fun _ _ _ h => h) (Or.inl ⟨by rfl, fun w hSw => by (dsimp only at hSw; go_simp)⟩) (by assumption) ?_
        (try simp only [Act.put, List.getElem_toArray, List.getElem_cons_succ, List.getElem_cons_zero, List.setIfInBounds_toArray, List.set_cons_zero, List.set_cons_succ])
        refine wpAnyH_take (i := 11) (v := .pointer (some ⟨p, 1, none⟩)) rfl (by kernel_rfl) (by kernel_rfl) (by kernel_rfl) (fun _ _ _ h => h) (Or.inl ⟨by rfl, fun w hSw => by (dsimp only at hSw; go_simp)⟩) (by assumption) ?_
        (try simp only [Act.put, List.getElem_toArray, List.getElem_cons_succ, List.getElem_cons_zero, List.setIfInBounds_toArray, List.set_cons_zero, List.set_cons_succ])
        refine wpAnyH_ready (rs := [12]) (by kernel_rfl) (by simp) (AllReadyH.cons rfl (fun K hK => ?_) AllReadyH.nil)
        go_simp
        refine hK.out _ _ (HX8.out _ (by (repeat (first | exact Same.refl _ _ | apply Same.alloc | apply Same.drew | refine Same.trans' ?_ (Same.mono ks4 (fun _ _ e => Or.inr e)) | refine Same.setCell (S := fun k => k = p ∨ k = hb) ?_ _ (.inr (.inl rfl)) _)); done)) (fun hHeld8 => ?_)
        clear hK K
        (try simp only [Act.put, List.getElem_toArray, List.getElem_cons_succ, List.getElem_cons_zero, List.setIfInBounds_toArray, List.set_cons_zero, List.set_cons_succ])
        refine wpAnyH_done (by kernel_rfl) ?_ _
        go_wp2_with fail
        go_end0
        refine ⟨rfl, _, Upd.of HS.out (KW.out.trans' ((Same.drew (Same.refl _ _)).alloc _)) hr4 hn4 ks4 HNE.out HF.out.1 (by simp only [List.length_append, List.length_take, List.length_drop, List.length_cons, List.length_nil]; omega), HF.out.2⟩
end Go.Proofs.Ytpjkmficpedmcaa
