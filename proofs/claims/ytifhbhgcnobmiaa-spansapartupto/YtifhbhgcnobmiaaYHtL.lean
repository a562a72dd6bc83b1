/- What is proved: the law on heights answers true for every number, stride and list; the forest lies in memory. -/
import Derived.Test.YtifhbhgcnobmiaaYHigh
import Derived.Test.YtifhbhgcnobmiaaYBndL
namespace Go.Proofs.Ytifhbhgcnobmiaa
open Go.RowKit

/-- The numbers l lie in w from address a on. -/
def NumsAt (w : World) (a : Option Addr) (l : List Int) : Prop :=
  ∀ i x, l[i]? = some x → ∃ b off, a = some ⟨b, off, none⟩ ∧ b < w.heap.size ∧ w.cell? ⟨b, off + i, none⟩ = some (.int .i64 x)
theorem NumsAt.on {w w' : World} {a : Option Addr} {l : List Int} (h : NumsAt w a l) (k : Kept w w') : NumsAt w' a l := fun i x hx => by
  obtain ⟨b, off, rfl, hb, hc⟩ := h i x hx
  exact ⟨b, off, rfl, Nat.lt_of_lt_of_le hb k.size, (k.cell (p := ⟨b, off + i, none⟩) hb (fun e => e)).trans hc⟩
def kk : ByteArray := ⟨#[107]⟩
def sp1 (i : Nat) : Sp := ⟨i, (i : Int) + 1, 0⟩
theorem sp1_inj {i j : Nat} (h : sp1 i = sp1 j) : i = j := by
  have := congrArg Sp.f h
  simp only [sp1] at this
  omega
theorem kk_right : rightK kk = true := by decide
theorem sp1_right {i : Nat} (h : i < 800) : rightS (sp1 i) = true := by
  have h9 : (i : Int) < 800 := by omega
  simp [rightS, sp1]
  omega
theorem kf_all {A : List Ks} {k : ByteArray} (h : ∀ y ∈ A, y.key.toList = k.toList) : (kf A k).length = A.length := by
  unfold kf
  rw [List.length_map, List.filter_eq_self.2 fun y hy => beq_iff_eq.2 (h y hy)]
theorem Fo.wks {F : Nat → Prop} {w : World} {fb : Nat} {A : List Ks} {bd : Nat} (h : Fo F w fb A bd) : Wks A ∧ ∀ k : ByteArray, Srt (kf A k) := by
  obtain ⟨nb, cap, fr, mb, e, N, D, R, FL, h1, h2, -⟩ := h
  exact ⟨h2.wks, h2.srt⟩
theorem codeI_ok {A : List Ks} {k : ByteArray} {x : Sp} (h1 : rightK k = true) (h2 : rightS x = true) (h3 : x ∉ kf A k) : codeI A k x = 0 ∧ insI A k x = rput A ⟨k, x⟩ := by
  have : codeI A k x = 0 := by
    unfold codeI
    rw [if_neg (by rw [h1]; decide), if_neg (by rw [h2]; decide), if_neg h3]
  exact ⟨this, by unfold insI; rw [if_pos this]⟩
theorem codeI_two {A : List Ks} {k : ByteArray} {x : Sp} (h1 : rightK k = true) (h2 : rightS x = true) (h3 : x ∈ kf A k) : codeI A k x = 141 ∧ insI A k x = A := by
  have : codeI A k x = 141 := by
    unfold codeI
    rw [if_neg (by rw [h1]; decide), if_neg (by rw [h2]; decide), if_pos h3]
  exact ⟨this, by unfold insI; rw [this, if_neg (by decide)]⟩
/-- Between two rounds. -/
structure HtS (w0 wr : World) (fb hb N : Nat) (hv : Nat → Bool) (A : List Ks) (F : Nat → Prop) (bd : Nat) : Prop where
  fo : Fo F wr fb A bd
  ff : ∀ b, F b → w0.heap.size ≤ b ∧ b ≠ hb
  row : wr.rowIs hb 4 N (fun i => .bool (hv i))
  hbl : w0.heap.size ≤ hb
  kept : Kept w0 wr
  keys : ∀ y ∈ A, y.key.toList = kk.toList
  mem : ∀ i, i < N → (sp1 i ∈ kf A kk ↔ hv i = true)
/-- Behind a step on the forest: what stands but the marks. -/
theorem HtS.step {w0 wr w' : World} {fb hb N : Nat} {hv : Nat → Bool} {A A' : List Ks} {F : Nat → Prop} {bd bd' : Nat} (h : HtS w0 wr fb hb N hv A F bd) (hs : StpP F wr fb A' bd' w') : ∃ F', Fo F' w' fb A' bd' ∧ (∀ b, F' b → w0.heap.size ≤ b ∧ b ≠ hb) ∧ w'.rowIs hb 4 N (fun i => .bool (hv i)) ∧ Kept w0 w' := by
  obtain ⟨F', f1, f2, f3⟩ := hs
  refine ⟨F', f1, fun b hb9 => ?_, h.row.of_block (f3.block hb h.row.lt fun e => (h.ff hb e).2 rfl), h.kept.trans f3 fun i hi e => by have := (h.ff i e).1; omega⟩
  rcases f2 b hb9 with h9 | h9
  · exact h.ff b h9
  · exact ⟨Nat.le_trans h.kept.size h9, by have := h.row.lt; omega⟩
theorem Fo.setRow {F : Nat → Prop} {w : World} {fb : Nat} {A : List Ks} {bd hb : Nat} (h : Fo F w fb A bd) (hF : ∀ b, F b → b ≠ hb) (i : Nat) (v : Value) : Fo F (w.setCell ⟨hb, i, none⟩ v) fb A bd :=
  h.off (Same.setCell (S := fun k => k = hb) (Same.refl _ w) ⟨hb, i, none⟩ (.inr rfl) v) fun b hb9 e => hF b hb9 e
/-- A span more. -/
theorem HtS.ins {w0 wr w' : World} {fb hb N : Nat} {hv : Nat → Bool} {A : List Ks} {F F' : Nat → Prop} {bd : Nat} (h : HtS w0 wr fb hb N hv A F bd) {j : Nat} (hj : j < N) (hf : hv j = false) (f1 : Fo F' w' fb (rput A ⟨kk, sp1 j⟩) (bd + 1)) (f2 : ∀ b, F' b → w0.heap.size ≤ b ∧ b ≠ hb) (f3 : w'.rowIs hb 4 N (fun i => .bool (hv i))) (f4 : Kept w0 w') :
    HtS w0 (w'.setCell ⟨hb, j, none⟩ (.bool true)) fb hb N (fun i => if i = j then true else hv i) (rput A ⟨kk, sp1 j⟩) F' (bd + 1) ∧ (rput A ⟨kk, sp1 j⟩).length = A.length + 1 := by
  refine ⟨⟨f1.setRow (fun b hb9 => (f2 b hb9).2) _ _, f2, (f3.set j (.bool true)).congr fun i _ => by split <;> rfl, h.hbl, Same.setCell f4 ⟨hb, j, none⟩ (.inl h.hbl) _, fun y hy => ?_, fun i hi => ?_⟩, rput_length _ _⟩
  · rcases rput_mem hy with rfl | hy
    · rfl
    · exact h.keys y hy
  · rw [rput_same h.fo.wks.1 rfl, putL_mem]
    by_cases e : i = j
    · subst e; simp
    · rw [if_neg e, ← h.mem i hi]
      exact ⟨fun h9 => h9.resolve_left fun e9 => e (sp1_inj e9), .inr⟩
/-- A span less. -/
theorem HtS.del {w0 wr w' : World} {fb hb N : Nat} {hv : Nat → Bool} {A : List Ks} {F F' : Nat → Prop} {bd : Nat} (h : HtS w0 wr fb hb N hv A F bd) {j : Nat} (f1 : Fo F' w' fb (rdel A kk (sp1 j)) bd) (f2 : ∀ b, F' b → w0.heap.size ≤ b ∧ b ≠ hb) (f3 : w'.rowIs hb 4 N (fun i => .bool (hv i))) (f4 : Kept w0 w') :
    HtS w0 (w'.setCell ⟨hb, j, none⟩ (.bool false)) fb hb N (fun i => if i = j then false else hv i) (rdel A kk (sp1 j)) F' bd := by
  refine ⟨f1.setRow (fun b hb9 => (f2 b hb9).2) _ _, f2, (f3.set j (.bool false)).congr fun i _ => by split <;> rfl, h.hbl, Same.setCell f4 ⟨hb, j, none⟩ (.inl h.hbl) _, fun y hy => h.keys y (List.mem_filter.1 hy).1, fun i hi => ?_⟩
  rw [rdel_same, List.mem_filter]
  by_cases e : i = j
  · subst e; simp
  · rw [if_neg e, ← h.mem i hi]
    exact ⟨fun h9 => h9.1, fun h9 => ⟨h9, by simp only [decide_eq_true_eq]; exact fun e9 => e (sp1_inj e9)⟩⟩
theorem HtS.on {w0 wr w' : World} {fb hb N : Nat} {hv : Nat → Bool} {A : List Ks} {F : Nat → Prop} {bd : Nat} (h : HtS w0 wr fb hb N hv A F bd) (k : Kept wr w') : HtS w0 w' fb hb N hv A F bd :=
  ⟨h.fo.on k, h.ff, h.row.of_block (k.block hb h.row.lt fun e => e), h.hbl, Same.trans' h.kept k, h.keys, h.mem⟩
theorem Try.infoBool : (Try.prog.info? 4).map (fun i => (i.zero, i.size, i.bytes)) = some (some (.bool false), 1, 1) := by kernel_rfl
set_option maxRecDepth 100000 in
set_option maxHeartbeats 6400000 in
theorem height_law (w : World) (n st : Int) (a : Option Addr) (cap : Nat) (l : List Int) (hl : NumsAt w a l) (hll : l.length < 4611686018427387904) :
    Calls Try.prog 5 #[.int .i64 n, .int .i64 st, .slice a l.length cap] w fun r w' => r = .returned (.bool true) ∧ Kept w w' := by
  have q := ptr_eql
  have HAN : Hid (∀ W, _) := anchor14
  have HNW : Hid (∀ W, _) := new14
  by_cases hno : n < 1 ∨ 800 < n ∨ st < 1 ∨ 800 < st
  · go_enter Try.func5, Try.ntmps5
    go_wp2_with fail
    refine Calls.mono (HAN.out w) ?_
    rintro r w1 ⟨rfl, k1⟩
    have K1 : Hid _ := k1
    clear k1
    rcases (by omega : n < 1 ∨ (¬ n < 1 ∧ 800 < n) ∨ (¬ n < 1 ∧ ¬ 800 < n ∧ st < 1) ∨ (¬ n < 1 ∧ ¬ 800 < n ∧ ¬ st < 1 ∧ 800 < st)) with h | ⟨h0, h⟩ | ⟨h0, h1, h⟩ | ⟨h0, h1, h2, h⟩
    all_goals
      clear hno
      go_wp2_with fail
      go_ret
      exact ⟨rfl, K1.out⟩
  · obtain ⟨N, rfl⟩ : ∃ N : Nat, n = N := ⟨n.toNat, by omega⟩
    obtain ⟨S, rfl⟩ : ∃ S : Nat, st = S := ⟨st.toNat, by omega⟩
    have n1 : ¬ ((N : Int) < 1) := by omega
    have n2 : ¬ ((800 : Int) < (N : Int)) := by omega
    have n3 : ¬ ((S : Int) < 1) := by omega
    have n4 : ¬ ((800 : Int) < (S : Int)) := by omega
    have n5 : 1 ≤ N ∧ N ≤ 800 ∧ 1 ≤ S ∧ S ≤ 800 := by omega
    have hmk : ∀ W, (Instr.makeSlice 48 (.int .i64 (N : Int)) (.int .i64 (N : Int))).run Try.prog W = .ok (.slice (some ⟨W.heap.size, 0, none⟩) N N) (W.alloc (.cells (madeCells #[.bool false] N) 4)) := fun W =>
      run_make_row' (P := Try.prog) 48 4 (.bool false) 1 Try.underlying48 Try.infoBool rfl .i64 .i64 N (by omega) (by omega) W
    have HN5 : Hid _ := n5
    have HL : Hid _ := hl
    clear hno n5 hl
    go_enter Try.func5, Try.ntmps5
    go_wp2_with fail
    refine Calls.mono (HAN.out w) ?_
    rintro r w1 ⟨rfl, k1⟩
    have K1 : Hid _ := k1
    clear k1 HAN
    go_wp2_with fail
    refine Calls.mono (HNW.out w1) ?_
    rintro r w2 ⟨fb, F, rfl, f2, hF, k2⟩
    have HS0 : Hid (HtS w (w2.alloc (.cells (madeCells #[.bool false] N) 4)) fb w2.heap.size N (fun _ => false) [] F 0) := ⟨f2.on ((Same.refl _ w2).alloc _), fun b hb => ⟨Nat.le_trans K1.out.size (hF b hb), by have := f2.lt b hb; omega⟩, World.rowIs_made w2 (.bool false) N 4, Nat.le_trans K1.out.size k2.size, (Same.trans' K1.out k2).alloc _, fun y hy => by simp at hy, fun i _ => by simp [kf]⟩
    clear f2 hF k2 HNW
    go_wp2_with fail
    generalize w2.alloc (.cells (madeCells #[.bool false] N) 4) = W at HS0 ⊢
    generalize w2.heap.size = hb at HS0 ⊢
    clear hmk q K1
    go_loopw [9, 10] (fun cv iv wr => ∃ (j : Nat) (hv : Nat → Bool) (A : List Ks) (F : Nat → Prop), j ≤ N ∧ iv = .int .i64 j ∧ cv = .int .i64 A.length ∧ A.length ≤ j ∧ HtS w wr fb hb N hv A F j) (fun _ iv _ => N - (intOf iv).toNat)
    case atStart => exact ⟨0, _, [], F, Nat.zero_le _, rfl, rfl, Nat.le_refl _, HS0.out⟩
    case round =>
      obtain ⟨j, hv, A, F, hj, rfl, rfl, hAj, hS⟩ := hrel
      have HSS : Hid (HtS w wr fb hb N hv A F j) := hS
      have HAJ : Hid _ := hAj
      clear hS hAj HS0
      by_cases hlt : j < N
      · have c1 : (j : Int) < (N : Int) := by omega
        obtain ⟨at_, hat⟩ : ∃ at_ : Nat, j * S % N = at_ := ⟨_, rfl⟩
        have hatN : at_ < N := by rw [← hat]; exact Nat.mod_lt _ (by omega)
        have hmod : (wrap64 ((j : Int) * (S : Int))).tmod (N : Int) = (at_ : Int) := by
          have h1 : j * S ≤ 800 * 800 := Nat.mul_le_mul (by have := HN5.out; omega) HN5.out.2.2.2
          have h2 : (j : Int) * (S : Int) = ((j * S : Nat) : Int) := by simp
          rw [h2, show wrap64 ((j * S : Nat) : Int) = ((j * S : Nat) : Int) by unfold wrap64; omega, ← hat]
          rfl
        have c2 : (at_ : Int) < (N : Int) := by omega
        have c3 : (at_ : Int) < 800 := by have := HN5.out; omega
        have a8 : at_ < 800 := by omega
        have wat : wrap64 ((at_ : Int) + 1) = (at_ : Int) + 1 := by unfold wrap64; omega
        clear hat
        have K4 : Hid _ := (Same.refl (fun _ => False) wr).alloc (spO (sp1 at_))
        have HSA : Hid (HtS w (wr.alloc (spO (sp1 at_))) fb hb N hv A F j) := ⟨HSS.out.fo.on K4.out, HSS.out.ff, HSS.out.row.alloc _, HSS.out.hbl, HSS.out.kept.alloc _, HSS.out.keys, HSS.out.mem⟩
        have HIN : Hid _ := insert14 HSA.out.fo kk (by decide) (sp1 at_) (by have := HN5.out; omega)
        have hA8 : (A.length : Int) ≤ 800 := by have := HN5.out; have := HAJ.out; omega
        have hA9 : A.length ≤ 800 := by omega
        have wA : wrap64 ((A.length : Int) + 1) = (A.length : Int) + 1 := by unfold wrap64; omega
        clear HSS K4
        go_wp2_with fail
        refine Calls.mono HIN.out ?_
        rintro r w4 ⟨rfl, h4⟩
        by_cases hin : hv at_ = true
        · have e1 := codeI_two kk_right (sp1_right a8) ((HSA.out.mem at_ hatN).2 hin)
          rw [e1.1]
          rw [e1.2] at h4
          obtain ⟨F4, f4, hf4, r4, k4⟩ := HSA.out.step h4
          have m0 : w4.cell? ⟨hb, at_, none⟩ = some (.bool true) := by rw [r4.cell hatN, hin]
          have HS4 : Hid (HtS w w4 fb hb N hv A F4 (j + 1)) := ⟨f4, hf4, r4, HSA.out.hbl, k4, HSA.out.keys, HSA.out.mem⟩
          have HHT : Hid _ := height14 f4 kk (by decide)
          rw [kf_all HSA.out.keys] at HHT
          clear e1 h4 f4 hf4 r4 k4 HIN HSA hin
          go_wp2_with fail
          refine Calls.mono HHT.out ?_
          rintro r w5 ⟨t, rfl, h5, h6, k5⟩
          have HHI : Hid _ := high14 _ t h5 h6 (by omega) w5
          have HS5 : Hid _ := HtS.on HS4.out k5
          clear h5 h6 k5 HHT HS4 m0
          go_wp2_with fail
          refine Calls.mono HHI.out ?_
          rintro r w6 ⟨rfl, rfl⟩
          clear HHI
          go_wp2_with fail
          go_roundw
          case rel => exact ⟨j + 1, hv, A, F4, by omega, by simp, rfl, by have := HAJ.out; omega, HS5.out⟩
          case measure => simp only [intOf]; omega
        · have hin' : hv at_ = false := by simpa using hin
          have e1 := codeI_ok kk_right (sp1_right a8) (fun h9 => hin ((HSA.out.mem at_ hatN).1 h9))
          rw [e1.1]
          rw [e1.2] at h4
          obtain ⟨F4, f4, hf4, r4, k4⟩ := HSA.out.step h4
          obtain ⟨hs5, hl5⟩ := HSA.out.ins hatN hin' f4 hf4 r4 k4
          have m0 : w4.cell? ⟨hb, at_, none⟩ = some (.bool false) := by rw [r4.cell hatN, hin']
          have m1 : w4.frozen? ⟨hb, at_, none⟩ = false := r4.frozen _
          have HS5 : Hid _ := hs5
          have HHT : Hid _ := height14 hs5.fo kk (by decide)
          rw [kf_all hs5.keys, hl5] at HHT
          have HL5 : Hid _ := hl5
          clear e1 h4 f4 hf4 r4 k4 HIN HSA hin hin' hs5 hl5
          go_wp2_with fail
          refine Calls.mono HHT.out ?_
          rintro r w5 ⟨t, rfl, h5, h6, k5⟩
          have HHI : Hid (Calls Try.prog 19 #[.int .i64 ((A.length : Int) + 1), .int .i64 t] w5 fun r w' => r = .returned (.bool true) ∧ w' = w5) := high14 (A.length + 1) t h5 h6 (by omega) w5
          have HS6 : Hid _ := HtS.on HS5.out k5
          clear h5 h6 k5 HHT HS5 m0 m1
          go_wp2_with fail
          refine Calls.mono HHI.out ?_
          rintro r w6 ⟨rfl, rfl⟩
          clear HHI
          go_wp2_with fail
          go_roundw
          case rel => exact ⟨j + 1, _, _, F4, by omega, by simp, by rw [show (rput A ⟨kk, sp1 at_⟩).length = A.length + 1 from HL5.out]; rfl, by have h9 : (rput A ⟨kk, sp1 at_⟩).length = A.length + 1 := HL5.out; have := HAJ.out; omega, HS6.out⟩
          case measure => simp only [intOf]; omega
      · have c1 : ¬ ((j : Int) < (N : Int)) := by omega
        have hA8 : A.length ≤ 800 := by have := HN5.out; have := HAJ.out; omega
        have HSZ : Hid _ := HSS.out
        clear HSS HAJ
        go_wp2_with fail
        go_loopw [9, 87] (fun cv iv wx => ∃ (z : Nat) (hv : Nat → Bool) (A : List Ks) (F : Nat → Prop), z ≤ l.length ∧ iv = .int .i64 z ∧ cv = .int .i64 A.length ∧ A.length ≤ 800 ∧ HtS w wx fb hb N hv A F j) (fun _ iv _ => l.length - (intOf iv).toNat)
        case atStart => exact ⟨0, hv, A, F, Nat.zero_le _, rfl, rfl, hA8, HSZ.out⟩
        case round =>
          obtain ⟨z, hv, A, F, hz, rfl, rfl, hA8, hS⟩ := hrel
          have HSS : Hid (HtS w wr fb hb N hv A F j) := hS
          clear hS HSZ
          by_cases hlt2 : z < l.length
          · have c2 : decide ((z : Int) < (l.length : Int)) = true := by simp only [decide_eq_true_eq]; omega
            have c3 : (z : Int) < (l.length : Int) := by omega
            have c4 : (z : Int) < 4611686018427387904 := by omega
            obtain ⟨x, hx⟩ : ∃ x, l[z]? = some x := ⟨_, List.getElem?_eq_getElem hlt2⟩
            obtain ⟨b, off, rfl, hbl, m0⟩ := HL.out z x hx
            have m1 : wr.cell? ⟨b, off + z, none⟩ = some (.int .i64 x) := (HSS.out.kept.cell (p := ⟨b, off + z, none⟩) hbl (fun e => e)).trans m0
            clear hx m0 hbl
            by_cases hr : x < 0 ∨ (N : Int) ≤ x
            · rcases (by omega : x < 0 ∨ (¬ x < 0 ∧ (N : Int) ≤ x)) with h | ⟨h0, h⟩
              all_goals
                clear hr
                go_wp2_with fail
                go_roundw
                case rel => exact ⟨z + 1, hv, A, F, by omega, by simp, rfl, hA8, HSS.out⟩
                case measure => simp only [intOf]; omega
            · obtain ⟨at_, rfl⟩ : ∃ at_ : Nat, x = at_ := ⟨x.toNat, by omega⟩
              have hatN : at_ < N := by omega
              have d1 : ¬ ((at_ : Int) < 0) := by omega
              have d2 : ¬ ((N : Int) ≤ (at_ : Int)) := by omega
              have d3 : (at_ : Int) < (N : Int) := by omega
              have d4 : (at_ : Int) < 800 := by have := HN5.out; omega
              have HW : Hid (IntKind.i64.wrap ((at_ : Int) + 1) = (at_ : Int) + 1) := by
                have h9 : IntKind.i64.wrap ((at_ : Int) + 1) = (at_ : Int) + 1 := by rw [IntKind.wrap_i64]; omega
                exact h9
              have hj9 : j ≤ 3500000000000 := by have := HN5.out; omega
              obtain ⟨v, hv0⟩ : ∃ v, hv at_ = v := ⟨_, rfl⟩
              have HRM : Hid (∀ W', Kept wr W' → Calls Try.prog 18 #[.pointer (some ⟨fb, 0, none⟩), .string ⟨#[107]⟩, .agg #[.int .i64 (at_ : Int), .int .i64 ((at_ : Int) + 1), .int .i64 0]] W' fun r w' => r = .returned (.bool v) ∧ w'.cell? ⟨hb, at_, none⟩ = some (.bool v) ∧ (∃ F', Fo F' w' fb (rdel A kk (sp1 at_)) j ∧ (∀ b, F' b → w.heap.size ≤ b ∧ b ≠ hb) ∧ w'.rowIs hb 4 N (fun i => .bool (hv i)) ∧ Kept w w')) := fun W' k9 => by
                refine Calls.mono (remove14 (HSS.out.fo.on k9) kk (by decide) (sp1 at_) hj9) ?_
                rintro r w' ⟨⟨b, rfl, hb9⟩, h9⟩
                obtain ⟨F', g1, g2, g3, g4⟩ := (HSS.out.on k9).step h9
                have eb : b = v := by
                  rw [← hv0]
                  exact Bool.eq_iff_iff.2 (hb9.trans (HSS.out.mem at_ hatN))
                exact ⟨by rw [eb], by rw [g3.cell hatN, hv0], F', g1, g2, g3, g4⟩
              have HBX : Hid (∀ W', Kept wr W' → W'.cell? ⟨hb, at_, none⟩ = some (.bool v)) := fun W' k9 => by
                rw [← hv0]
                exact (HSS.out.on k9).row.cell hatN
              have nv : (v != v) = false := by simp
              have HV0 : Hid _ := hv0
              clear hr hv0
              go_upto_region 27 with fail
              go_cut [108] (fun s108 wx => s108 = .bool false ∧ wx.cell? ⟨hb, at_, none⟩ = some (.bool v) ∧ ∃ F', Fo F' wx fb (rdel A kk (sp1 at_)) j ∧ (∀ b, F' b → w.heap.size ≤ b ∧ b ≠ hb) ∧ wx.rowIs hb 4 N (fun i => .bool (hv i)) ∧ Kept w wx)
              case first =>
                go_region_held3 (fun W' => W'.cell? ⟨hb, at_, none⟩ = some (.bool v))
                  (first | exact HB5.out _ (by (repeat (first | exact Same.refl _ _ | apply Same.drew | apply Same.drewN)); done) | exact HBX.out _ (by (repeat (first | exact Same.refl _ _ | apply Same.drew | apply Same.drewN)); done))
                  ((go_at_call 18; (try rw [show IntKind.i64.wrap ((at_ : Int) + 1) = (at_ : Int) + 1 from HW.out]); refine Calls.mono (HRM.out _ (by (repeat (first | exact Same.refl _ _ | apply Same.drew | apply Same.drewN)); done)) ?_; rintro e w5 ⟨rfl, b5, t5⟩; have T5 : Hid _ := t5; have HB5 : Hid (∀ W', Kept w5 W' → W'.cell? ⟨hb, at_, none⟩ = some (.bool v)) := (fun W' k9 => (k9.cell (p := ⟨hb, at_, none⟩) (World.block_lt_of_cell? _ _ b5) (fun e => e)).trans b5); clear t5 b5))
                all_goals
                  go_wp2_with fail
                  go_meet
                  obtain ⟨F', g1, g2, g3, g4⟩ := T5.out
                  have k9 : Kept w5 _ := (by (repeat (first | exact Same.refl _ _ | apply Same.drew | apply Same.drewN)); done)
                  exact ⟨rfl, HB5.out _ k9, F', g1.on k9, g2, g3.of_block (k9.block hb g3.lt fun e => e), Same.trans' g4 k9⟩
              case rest =>
                obtain ⟨rfl, m3, F', g1, g2, g3, g4⟩ := hcut
                rename World => wx
                clear HRM HBX
                cases v
                · have en := rdel_none (show sp1 at_ ∉ kf A kk from fun h9 => by
                    have h8 := (HSS.out.mem at_ hatN).1 h9
                    rw [show hv at_ = false from HV0.out] at h8
                    simp at h8)
                  rw [en] at g1
                  have HS4 : Hid (HtS w wx fb hb N hv A F' j) := ⟨g1, g2, g3, HSS.out.hbl, g4, HSS.out.keys, HSS.out.mem⟩
                  have HHT : Hid _ := height14 g1 kk (by decide)
                  rw [kf_all HSS.out.keys] at HHT
                  clear en g1 g2 g3 g4 HSS m1
                  go_wp2_with fail
                  refine Calls.mono HHT.out ?_
                  rintro r w5 ⟨t, rfl, h5, h6, k5⟩
                  have HHI : Hid _ := high14 _ t h5 h6 (by omega) w5
                  have HS5 : Hid _ := HtS.on HS4.out k5
                  have HCN : Hid _ := count14 HS5.out.fo
                  clear h5 h6 k5 HHT HS4 m3
                  go_wp2_with fail
                  refine Calls.mono HHI.out ?_
                  rintro r w6 ⟨rfl, rfl⟩
                  clear HHI
                  go_wp2_with fail
                  refine Calls.mono HCN.out ?_
                  rintro r w7 ⟨rfl, rfl⟩
                  clear HCN
                  go_wp2_with fail
                  go_roundw
                  case rel => exact ⟨z + 1, hv, A, F', by omega, by simp, rfl, hA8, HS5.out⟩
                  case measure => simp only [intOf]; omega
                · have en := rdel_length (HSS.out.fo.wks.2 kk) ((HSS.out.mem at_ hatN).2 HV0.out)
                  have hs5 := HSS.out.del g1 g2 g3 g4
                  have m4 : wx.frozen? ⟨hb, at_, none⟩ = false := g3.frozen _
                  obtain ⟨n', en'⟩ : ∃ n', n' = (rdel A kk (sp1 at_)).length := ⟨_, rfl⟩
                  rw [← en'] at en
                  have HS5 : Hid _ := hs5
                  have HHT : Hid _ := height14 hs5.fo kk (by decide)
                  rw [kf_all hs5.keys, ← en'] at HHT
                  have EN' : Hid _ := en'
                  rw [show ((A.length : Nat) : Int) = (n' : Int) + 1 by omega]
                  have hn8 : (n' : Int) < 800 := by omega
                  clear en g1 g2 g3 g4 HSS m1 hs5 en' hA8
                  go_wp2_with fail
                  refine Calls.mono HHT.out ?_
                  rintro r w5 ⟨t, rfl, h5, h6, k5⟩
                  have HHI : Hid _ := high14 n' t h5 h6 (by omega) w5
                  have HS6 : Hid _ := HtS.on HS5.out k5
                  have HCN : Hid _ := count14 HS6.out.fo
                  rw [← show n' = _ from EN'.out] at HCN
                  clear h5 h6 k5 HHT HS5 m3 m4
                  go_wp2_with fail
                  refine Calls.mono HHI.out ?_
                  rintro r w6 ⟨rfl, rfl⟩
                  clear HHI
                  go_wp2_with fail
                  refine Calls.mono HCN.out ?_
                  rintro r w7 ⟨rfl, rfl⟩
                  clear HCN
                  go_wp2_with fail
                  go_roundw
                  case rel => exact ⟨z + 1, _, _, F', by omega, by simp, by rw [← show n' = _ from EN'.out], by rw [← show n' = _ from EN'.out]; omega, HS6.out⟩
                  case measure => simp only [intOf]; omega
          · have c2 : decide ((z : Int) < (l.length : Int)) = false := by simp only [decide_eq_false_iff_not]; omega
            go_wp2_with fail
            go_ret
            exact ⟨rfl, HSS.out.kept⟩
end Go.Proofs.Ytifhbhgcnobmiaa
