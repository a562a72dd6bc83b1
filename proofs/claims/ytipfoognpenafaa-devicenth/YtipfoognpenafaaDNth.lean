/- What is proved: DeviceNth returns true whatever its arguments, and leaves all that was there as it was; the list lies in memory. -/
import Derived.Test.YtipfoognpenafaaDNthM
namespace Go.Proofs.Ytipfoognpenafaa
open Go.RowKit

/-- The ints l lie in w from address a on. -/
def IntsAt (w : World) (a : Option Addr) (l : List Int) : Prop :=
  ∀ i x, l[i]? = some x → ∃ b off, a = some ⟨b, off, none⟩ ∧ b < w.heap.size ∧ w.cell? ⟨b, off + i, none⟩ = some (.int .i64 x)

set_option maxRecDepth 100000 in
set_option maxHeartbeats 800000 in
theorem nth_trivial (at' nth : Int) (ov : Value) (w : World) (h : at' < 0 ∨ 3 < at' ∨ nth < 1 ∨ 50 < nth) :
    Calls Try.prog 8 #[.int .i64 at', .int .i64 nth, ov] w fun e w' => e = .returned (.bool true) ∧ Kept w w' := by
  have hnot : ∀ (x : Bool) (w : World), (Op.unary .not (.bool x)).run Try.prog w = .ok (.bool (!x)) w := fun _ _ => rfl
  have HA : Hid _ := anchor_any w
  have tests : (decide (at' < 0) = true) ∨ (decide (at' < 0) = false ∧ decide (3 < at') = true) ∨ (decide (at' < 0) = false ∧ decide (3 < at') = false ∧ decide (nth < 1) = true) ∨ (decide (at' < 0) = false ∧ decide (3 < at') = false ∧ decide (nth < 1) = false ∧ decide (50 < nth) = true) := by
    simp only [decide_eq_false_iff_not, decide_eq_true_eq]; omega
  clear h
  rcases tests with t1 | ⟨t1, t2⟩ | ⟨t1, t2, t3⟩ | ⟨t1, t2, t3, t4⟩
  all_goals
    go_enter Try.func8, Try.ntmps8
    go_wp2_with fail
    refine Calls.mono HA.out ?_
    rintro e w1 ⟨rfl, k1⟩
    go_wp2_with fail
    go_ret
    exact ⟨rfl, k1⟩

theorem chk_nth (at' nth : Nat) (ha : at' ≤ 3) (h1 : 1 ≤ nth) (h2 : nth ≤ 50) : chk ((16 : Nat) : Int) ((4 : Nat) : Int) (List.replicate 64 (0 : Int)).length ([] : List Int).length (fN at' nth) = 0 := by
  have e : (decide ((fN at' nth).length ≤ 64) && (fN at' nth).all (okF ((16 : Nat) : Int))) = true := by
    simp [fN, okF]
    omega
  unfold chk
  rw [e]
  rfl

theorem field_counts (a b c d : Int) (w : World) : (Instr.field 51 (.agg #[.int .i64 a, .int .i64 b, .int .i64 c, .int .i64 d]) 3).run Try.prog w = .ok (.int .i64 d) w := by
  have ci : Try.prog.cellsOf 3 = 1 := by kernel_rfl
  have hag : ∀ (x : Array Value) (w : World), (asAgg (.agg x)).run Try.prog w = .ok x w := fun _ _ => rfl
  simp [Instr.field, run_underlying Try.underlying51, part, hag]

/-- The strokes behind q reads of each region. -/
def cN (nth q : Nat) : Nat := if nth ≤ q then 2 else 0

set_option maxRecDepth 100000 in
set_option maxHeartbeats 3200000 in
theorem nth_main (at' nth : Nat) (oa : Option Addr) (oc : Nat) (lo : List Int) (w : World) (ho : IntsAt w oa lo) (hlen : lo.length ≤ 140737488355328) (ha : at' ≤ 3) (h1 : 1 ≤ nth) (h2 : nth ≤ 50) :
    Calls Try.prog 8 #[.int .i64 at', .int .i64 nth, .slice oa lo.length oc] w fun e w' => e = .returned (.bool true) ∧ Kept w w' := by
  have hnot : ∀ (x : Bool) (w : World), (Op.unary .not (.bool x)).run Try.prog w = .ok (.bool (!x)) w := fun _ _ => rfl
  have HA : Hid _ := anchor_any w
  have t1 : decide ((at' : Int) < 0) = false := by simp only [decide_eq_false_iff_not]; omega
  have t2 : decide (3 < (at' : Int)) = false := by simp only [decide_eq_false_iff_not]; omega
  have t3 : decide ((nth : Int) < 1) = false := by simp only [decide_eq_false_iff_not]; omega
  have t4 : decide (50 < (nth : Int)) = false := by simp only [decide_eq_false_iff_not]; omega
  obtain ⟨Z, eZ⟩ : ∃ Z, Z = List.replicate 64 (0 : Int) := ⟨_, rfl⟩
  have hZ : Z.length = 64 := by rw [eZ]; simp
  have hmk : ∀ w' : World, (Instr.makeSlice 22 (.int .i64 64) (.int .i64 64)).run Try.prog w' = .ok (.slice (some ⟨w'.heap.size, 0, none⟩) 64 64) (w'.alloc (rowObj Z)) := fun w' => by rw [eZ]; exact make_bytes w' 64 (by decide)
  have HN : Hid (∀ w1 : World, Calls Try.prog 12 #[.agg #[.int .i64 16, .int .i64 4], .slice (some ⟨w1.heap.size + 1, 0, none⟩) 64 64, .slice none 0 0, .slice (some ⟨w1.heap.size, 0, none⟩) 2 2] ((w1.alloc (.cells #[.int .i64 1, .int .i64 at', .int .i64 nth, .int .i64 0, .int .i64 2, .int .i64 at', .int .i64 nth, .int .i64 0] 49)).alloc (rowObj Z)) fun e w6 => ∃ p, e = .returned (.tuple #[.pointer (some ⟨p.db, 0, none⟩), .int .i64 0]) ∧ Dv w6 (M.made 16 4 Z [] (fN at' nth)) p ∧ (∀ k, Foot (M.made 16 4 Z [] (fN at' nth)) p k → w1.heap.size ≤ k) ∧ Kept w1 w6) := fun w1 => by
    generalize hA1 : w1.alloc (.cells #[.int .i64 1, .int .i64 at', .int .i64 nth, .int .i64 0, .int .i64 2, .int .i64 at', .int .i64 nth, .int .i64 0] 49) = A1
    have sA : A1.heap.size = w1.heap.size + 1 := by rw [← hA1]; simp
    have kA : Kept w1 A1 := by rw [← hA1]; exact (Same.refl _ w1).alloc _
    have g0 : A1.heap[w1.heap.size]? = some (.cells (fcs (fN at' nth)).toArray 49 (0, 0)) := by rw [← hA1]; exact heap_new w1 _
    have g1 : (A1.alloc (rowObj Z)).heap[w1.heap.size + 1]? = some (rowObj Z) := by
      have := heap_new A1 (rowObj Z)
      rw [sA] at this
      exact this
    have g2 : (A1.alloc (rowObj Z)).heap[w1.heap.size]? = some (.cells (fcs (fN at' nth)).toArray 49 (0, 0)) := (heap_old _ _ (lt_of_heap g0)).trans g0
    have hF : FaultsAt (A1.alloc (rowObj Z)) (some ⟨w1.heap.size, 0, none⟩) (fN at' nth) := fun i f hf => by
      obtain ⟨c0, c1, c2, c3⟩ := fcs_get hf
      refine ⟨w1.heap.size, 0, rfl, lt_of_heap g2, ?_⟩
      simp only [Nat.zero_add, cell_of g2, List.getElem?_toArray]
      exact ⟨c0, c1, c2, c3⟩
    have := new_yes 16 4 (some ⟨w1.heap.size + 1, 0, none⟩) none (some ⟨w1.heap.size, 0, none⟩) 64 0 2 Z [] (fN at' nth) _ (bytes_row g1) (BytesAt.nil _ _) hF (fun e => by cases e) (fun e => by cases e) (by rw [eZ]; exact chk_nth at' nth ha h1 h2)
    rw [hZ] at this
    refine Calls.mono this ?_
    rintro e w6 ⟨p, rfl, r1, r2, r3⟩
    refine ⟨p, rfl, r1, fun k hk => ?_, (kA.alloc _).trans' r3⟩
    have := r2 k hk
    simp only [World.size_alloc] at this
    omega
  have HNI : Hid (NI at' nth (M.made 16 4 Z [] (fN at' nth)) 0 0 0 0) := ⟨rfl, rfl, hZ, made_len 16 4 Z [] _ (by simp), rfl, rfl, rfl, rfl, rfl, Nat.le_refl _⟩
  have HO : Hid _ := ho
  obtain ⟨n, en⟩ : ∃ n, n = lo.length := ⟨_, rfl⟩
  rw [← en] at hlen ⊢
  have EN : Hid _ := en
  clear ho en eZ hZ
  go_enter Try.func8, Try.ntmps8
  go_wp2_with fail
  refine Calls.mono HA.out ?_
  rintro e w1 ⟨rfl, k1⟩
  have K1 : Hid _ := k1
  clear HA k1
  go_wp2_with fail
  refine Calls.mono (HN.out w1) ?_
  rintro e w3 ⟨p, rfl, hd, hf, k3⟩
  have K3 : Hid (Kept w w3) := Same.trans' K1.out k3
  have HOW : Hid (∀ k, Own p k → w.heap.size ≤ k) := fun k e => Nat.le_trans K1.out.size (hf k (.inl e))
  have HD : Hid _ := hd
  have HIX : Hid (∀ wr, Same (Own p) w3 wr → ∀ i x, lo[i]? = some x → ∃ b off, oa = some ⟨b, off, none⟩ ∧ wr.cell? ⟨b, off + i, none⟩ = some (.int .i64 x)) := fun wr sr i x hx => by
    obtain ⟨b, off, e, hb, hc⟩ := HO.out i x hx
    have q1 := (Same.cell (S := fun _ => False) K3.out (p := ⟨b, off + i, none⟩) hb (fun h => h)).trans hc
    refine ⟨b, off, e, (sr.cell (p := ⟨b, off + i, none⟩) (Nat.lt_of_lt_of_le hb K3.out.size) (fun e => ?_)).trans q1⟩
    have := HOW.out _ e
    simp only at this
    omega
  clear hd hf k3 HN hmk
  go_wp2_with fail
  go_loopw [60] (fun i wr => ∃ (j : Nat) (m : M), j ≤ n ∧ i = .int .i64 j ∧ Dv wr m p ∧ NI at' nth m 0 0 0 (6 * j) ∧ Same (Own p) w3 wr) (fun i _ => n - (intOf i).toNat)
  case atStart => exact ⟨0, _, Nat.zero_le _, rfl, HD.out, HNI.out, Same.refl _ _⟩
  case round =>
    obtain ⟨j, m, hj, rfl, hd, hni, sr⟩ := hrel
    have HDr : Hid _ := hd
    have HNr : Hid _ := hni
    have HSr : Hid _ := sr
    clear hd hni sr
    by_cases hlt : j < n
    · have c1 : decide ((j : Int) < (n : Int)) = true := by simp only [decide_eq_true_eq]; omega
      have hlt2 : (j : Int) < (n : Int) := by omega
      obtain ⟨x, hx⟩ : ∃ x, lo[j]? = some x := ⟨_, List.getElem?_eq_getElem (by rw [← EN.out]; exact hlt)⟩
      obtain ⟨b, off, rfl, q1⟩ := HIX.out wr HSr.out j x hx
      clear hx
      by_cases hxa : x = (at' : Int)
      · have hxn : (x != (at' : Int)) = false := by simpa using hxa
        clear hxa
        go_wp2_with fail
        go_roundw
        case rel => exact ⟨j + 1, m, hlt, by rw [Int.natCast_add]; rfl, HDr.out, ⟨HNr.out.B, HNr.out.S, HNr.out.inp, HNr.out.scr, HNr.out.down, HNr.out.F, HNr.out.R1, HNr.out.R2, HNr.out.cT, Nat.le_trans HNr.out.k (by omega)⟩, HSr.out⟩
        case measure => simp only [intOf]; omega
      · have hxn : (x != (at' : Int)) = true := by simpa using hxa
        obtain ⟨i1, i2⟩ := ni_in_other HNr.out x hxa
        obtain ⟨s1, s2⟩ := ni_sc_other i2 x hxa
        have HR1 : Hid _ := readInput_any HDr.out x (by have := HNr.out.k; omega)
        obtain ⟨y1, ey1⟩ : ∃ y, y = m.readIn x := ⟨_, rfl⟩
        rw [← ey1] at HR1 i1 i2 s1 s2
        obtain ⟨y2, ey2⟩ : ∃ y, y = y1.2.2.readSc x := ⟨_, rfl⟩
        rw [← ey2] at s1 s2
        have EY2 : Hid _ := ey2
        have K2 : Hid (y1.2.2.k + 1 < 4611686018427387904) := by have := i2.k; show _ < _; omega
        have S2 : Hid _ := s2
        have tests : (decide (0 ≤ x) = false) ∨ (decide (0 ≤ x) = true ∧ decide (x < 4) = false) ∨ (decide (0 ≤ x) = true ∧ decide (x < 4) = true ∧ (y1.1 != 0) = false ∧ (y2.1 != 0) = false) := by
          by_cases a0 : 0 ≤ x
          · by_cases a4 : x < 4
            · exact .inr (.inr ⟨decide_eq_true a0, decide_eq_true a4, by rw [i1 a0 a4]; rfl, by rw [s1 a0 a4]; rfl⟩)
            · exact .inr (.inl ⟨decide_eq_true a0, decide_eq_false a4⟩)
          · exact .inl (decide_eq_false a0)
        clear i1 i2 s1 s2 ey1 ey2 hxa
        rcases tests with a1 | ⟨a1, a2⟩ | ⟨a1, a2, a3, a4⟩
        all_goals
          go_wp2_with fail
          refine Calls.mono HR1.out ?_
          rintro e w4 ⟨ra, rc, rfl, -, -, d4, s4⟩
          have HR2 : Hid _ := readScratch_any d4 x K2.out
          rw [← EY2.out] at HR2
          have S4 : Hid _ := s4
          clear d4 s4
          go_wp2_with fail
          refine Calls.mono HR2.out ?_
          rintro e w5 ⟨rb, rd, rfl, -, -, d5, s5⟩
          have D5 : Hid _ := d5
          have S5 : Hid _ := s5
          clear d5 s5
          go_wp2_with fail
          go_roundw
          case rel => exact ⟨j + 1, y2.2.2, hlt, by rw [Int.natCast_add]; rfl, D5.out, S2.out, (Same.trans' HSr.out S4.out).trans' S5.out⟩
          case measure => simp only [intOf]; omega
    · have ej : j = n := by omega
      subst ej
      have c1 : decide ((j : Int) < (j : Int)) = false := by simp
      have HC0 : Hid (cN nth 0 = 0) := if_neg (by omega)
      go_wp2_with fail
      go_loopw [16] (fun v wr => ∃ (q kq : Nat) (m : M), kq = q + 1 ∧ q ≤ nth + 3 ∧ v = .int .i64 kq ∧ Dv wr m p ∧ NI at' nth m q q (cN nth q) (6 * j + 6 * q) ∧ Same (Own p) w3 wr) (fun v _ => nth + 4 - (intOf v).toNat)
      case atStart => exact ⟨0, 1, m, rfl, by omega, rfl, HDr.out, by rw [HC0.out]; exact HNr.out, HSr.out⟩
      case round =>
        obtain ⟨q, kq, m, ekq, hq, rfl, hd, hni, sr⟩ := hrel
        have HDq : Hid _ := hd
        have HNq : Hid _ := hni
        have HSq : Hid _ := sr
        have EKQ : Hid _ := ekq
        clear HDr HNr HSr
        by_cases hle : kq ≤ nth + 3
        · have d1 : decide ((kq : Int) ≤ (nth : Int) + 3) = true := by simp only [decide_eq_true_eq]; omega
          have d1' : (kq : Int) ≤ (nth : Int) + 3 := by omega
          by_cases hk : kq = nth
          · obtain ⟨i1, i2, i3⟩ := ni_in_hit hni (by omega) (by omega)
            obtain ⟨s1, s2, s3⟩ := ni_sc_hit i3 (by omega) (by omega)
            have HR1 : Hid _ := readInput_any hd (at' : Int) (by have := hni.k; omega)
            have K2 : Hid ((m.readIn at').2.2.k + 1 < 4611686018427387904) := by have := i3.k; show _ < _; omega
            obtain ⟨y1, ey1⟩ : ∃ y, y = m.readIn at' := ⟨_, rfl⟩
            rw [← ey1] at HR1 i1 i2 i3 s1 s2 s3 K2
            obtain ⟨y2, ey2⟩ : ∃ y, y = y1.2.2.readSc at' := ⟨_, rfl⟩
            rw [← ey2] at s1 s2 s3
            have EY2 : Hid _ := ey2
            obtain ⟨yc, yb, ym⟩ := y1
            obtain ⟨zc, zb, zm⟩ := y2
            simp only at i1 i2 s1 s2
            subst i1 i2 s1 s2
            have NN : Hid (NI at' nth zm (q + 1) (q + 1) (cN nth (q + 1)) (6 * j + 6 * (q + 1))) := by
              have hc : cN nth (q + 1) = cN nth q + 1 + 1 := by
                unfold cN
                rw [if_pos (by omega), if_neg (by omega)]
              rw [hc]
              exact ⟨s3.B, s3.S, s3.inp, s3.scr, s3.down, s3.F, s3.R1, s3.R2, s3.cT, by have := s3.k; omega⟩
            have hkn : ((kq : Int) == (nth : Int)) = true := by rw [hk]; simp
            have hkn2 : ((kq : Int) != (nth : Int)) = false := by rw [hk]; simp
            have hkn3 : (kq : Int) = (nth : Int) := by omega
            clear i3 s3 ey1 ey2 hd hni sr hk ekq
            go_wp2_with fail
            refine Calls.mono HR1.out ?_
            rintro e w4 ⟨ra, rc, rfl, -, -, d4, s4⟩
            have HR2 : Hid _ := readScratch_any d4 (at' : Int) K2.out
            rw [← EY2.out] at HR2
            have S4 : Hid _ := s4
            clear d4 s4
            go_wp2_with fail
            refine Calls.mono HR2.out ?_
            rintro e w5 ⟨rb, rd, rfl, -, -, d5, s5⟩
            have D5 : Hid _ := d5
            have S5 : Hid _ := s5
            clear d5 s5
            go_wp2_with fail
            go_roundw
            case rel => exact ⟨q + 1, kq + 1, zm, by rw [EKQ.out], by have := EKQ.out; omega, by rw [Int.natCast_add, hkn3]; rfl, D5.out, NN.out, (Same.trans' HSq.out S4.out).trans' S5.out⟩
            case measure => simp only [intOf]; omega
          · obtain ⟨i1, i2, i3⟩ := ni_in_ok hni (by omega) (by omega)
            obtain ⟨s1, s2, s3⟩ := ni_sc_ok i3 (by omega) (by omega)
            have HR1 : Hid _ := readInput_any hd (at' : Int) (by have := hni.k; omega)
            have K2 : Hid ((m.readIn at').2.2.k + 1 < 4611686018427387904) := by have := i3.k; show _ < _; omega
            obtain ⟨y1, ey1⟩ : ∃ y, y = m.readIn at' := ⟨_, rfl⟩
            rw [← ey1] at HR1 i1 i2 i3 s1 s2 s3 K2
            obtain ⟨y2, ey2⟩ : ∃ y, y = y1.2.2.readSc at' := ⟨_, rfl⟩
            rw [← ey2] at s1 s2 s3
            have EY2 : Hid _ := ey2
            obtain ⟨yc, yb, ym⟩ := y1
            obtain ⟨zc, zb, zm⟩ := y2
            simp only at i1 i2 s1 s2
            subst i1 s1
            have NN : Hid (NI at' nth zm (q + 1) (q + 1) (cN nth (q + 1)) (6 * j + 6 * (q + 1))) := by
              have hc : cN nth (q + 1) = cN nth q := by
                unfold cN
                by_cases h : nth ≤ q
                · rw [if_pos h, if_pos (by omega)]
                · rw [if_neg h, if_neg (by omega)]
              rw [hc]
              exact ⟨s3.B, s3.S, s3.inp, s3.scr, s3.down, s3.F, s3.R1, s3.R2, s3.cT, by have := s3.k; omega⟩
            have hkn : ((kq : Int) == (nth : Int)) = false := by simp; omega
            have hkn2 : ((kq : Int) != (nth : Int)) = true := by simp; omega
            have hkn3 : ¬ (kq : Int) = (nth : Int) := by omega
            clear i3 s3 ey1 ey2 hd hni sr hk ekq
            go_wp2_with fail
            refine Calls.mono HR1.out ?_
            rintro e w4 ⟨ra, rc, rfl, -, -, d4, s4⟩
            have HR2 : Hid _ := readScratch_any d4 (at' : Int) K2.out
            rw [← EY2.out] at HR2
            have S4 : Hid _ := s4
            clear d4 s4
            go_wp2_with fail
            refine Calls.mono HR2.out ?_
            rintro e w5 ⟨rb, rd, rfl, -, -, d5, s5⟩
            have D5 : Hid _ := d5
            have S5 : Hid _ := s5
            clear d5 s5
            go_wp2_with fail
            go_roundw
            case rel => exact ⟨q + 1, kq + 1, zm, by rw [EKQ.out], by have := EKQ.out; omega, by rw [Int.natCast_add]; rfl, D5.out, NN.out, (Same.trans' HSq.out S4.out).trans' S5.out⟩
            case measure => simp only [intOf]; omega
        · have d1 : decide ((kq : Int) ≤ (nth : Int) + 3) = false := by simp only [decide_eq_false_iff_not]; omega
          have d1' : ¬ (kq : Int) ≤ (nth : Int) + 3 := by omega
          have HCT : Hid _ := counts_any hd
          have hct : m.cT = 2 := by rw [hni.cT]; exact if_pos (by omega)
          rw [hct] at HCT
          have hfc := field_counts m.cI m.cS m.cW 2
          clear hd hni sr ekq
          go_wp2_with fail
          refine Calls.mono HCT.out ?_
          rintro e w6 ⟨rfl, k6⟩
          have K6 : Hid _ := k6
          clear k6
          go_wp2_with fail
          go_ret
          exact ⟨rfl, (Same.trans (S' := Own p) K3.out HSq.out (fun i hi e => by have := HOW.out i e; omega)).trans' K6.out⟩
end Go.Proofs.Ytipfoognpenafaa
