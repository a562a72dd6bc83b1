/- What is proved: the document's device: strikes tells the first fault of a kind for a write; read notes a read and tells whether it is struck; the device lies in memory. -/
import Derived.Test.YtagkgenhgllglaaDRvA
import Derived.Deep.CutBlock
import Derived.Deep.DeepCutAuto
namespace Go.Proofs.Ytagkgenhgllglaa
open Go.RowKit

/-- A fault of that kind for that write. -/
def isK (kind n : Int) (f : Fl) : Bool := f.k == kind && f.n == n
theorem find_take {F : List Fl} {P : Fl → Bool} {j : Nat} {f : Fl} (hf : F[j]? = some f) (h : (F.take j).find? P = none) : (P f = true → F.find? P = some f) ∧ (P f = false → (F.take (j + 1)).find? P = none) := by
  constructor
  · intro hp
    have e : F = F.take j ++ (f :: F.drop (j + 1)) := by
      obtain ⟨hl, rfl⟩ := List.getElem?_eq_some_iff.1 hf
      rw [← List.drop_eq_getElem_cons hl, List.take_append_drop]
    rw [e, List.find?_append, h]
    simp [hp]
  · intro hp
    rw [List.take_add_one, hf, List.find?_append, h]
    simp [hp]
def Strk (F : List Fl) (kind n : Int) (r : Ending) : Prop :=
  (∃ (i : Nat) (f : Fl), r = .returned (.int .i64 i) ∧ F[i]? = some f ∧ F.find? (isK kind n) = some f) ∨ (r = .returned (.int .i64 (-1)) ∧ F.find? (isK kind n) = none)

set_option maxRecDepth 100000 in
set_option maxHeartbeats 400000 in
theorem strikes_any {w : World} {m : M} {p : RP} {Q : List Rb} (h : Rv w m p Q) (kind n : Int) : Calls Try.prog 41 #[.pointer (some ⟨p.db, 0, none⟩), .int .i64 kind, .int .i64 n] w fun e w' => Strk m.F kind n e ∧ Kept w w' := by
  have HR : Hid _ := h
  have hF : m.F.length ≤ 64 := h.good.F
  obtain ⟨nF, eF⟩ : ∃ nF, nF = m.F.length := ⟨_, rfl⟩
  rw [← eF] at hF
  have EF : Hid _ := eF
  clear h eF
  go_enter Try.func41, Try.ntmps41
  go_wp2_with fail
  go_loopw [7] (fun i wr => ∃ j : Nat, j ≤ nF ∧ i = .int .i64 j ∧ (m.F.take j).find? (isK kind n) = none ∧ Kept w wr) (fun i _ => nF - (intOf i).toNat)
  case atStart => exact ⟨0, Nat.zero_le _, rfl, rfl, Same.refl _ _⟩
  case round =>
    obtain ⟨j, hj, rfl, hno, kk⟩ := hrel
    have KK : Hid _ := kk
    have HNO : Hid _ := hno
    have hr := Rv.on HR.out kk
    obtain ⟨-, -, -, -, c4, -⟩ := hr.cells
    rw [← EF.out] at c4
    have hdl := lt_of_heap hr.dev
    by_cases hlt : j < nF
    · have a1 : decide ((j : Int) < (nF : Int)) = true := by simp only [decide_eq_true_eq]; omega
      have a2 : (j : Int) < (nF : Int) := by omega
      obtain ⟨f, hf⟩ : ∃ f, m.F[j]? = some f := ⟨_, List.getElem?_eq_getElem (by rw [← EF.out]; exact hlt)⟩
      obtain ⟨b, off, e1, hb, q0, q1, q2, q3⟩ := hr.flt j f hf
      rw [e1] at c4
      have HT : Hid _ := find_take hf hno
      have HF : Hid _ := hf
      clear kk hr hno hf e1
      by_cases h1 : f.k = kind
      · have h1' : (f.k == kind) = true := by simpa using h1
        by_cases h2 : f.n = n
        · have h2' : (f.n == n) = true := by simpa using h2
          have hP : isK kind n f = true := by simp [isK, h1, h2]
          have HP : Hid _ := HT.out.1 hP
          clear hP h1 h2
          go_wp2_with fail
          go_ret
          exact ⟨.inl ⟨j, f, rfl, HF.out, HP.out⟩, KK.out⟩
        · have h2' : (f.n == n) = false := by simpa using h2
          have hP : isK kind n f = false := by simp [isK, h2]
          have HP : Hid _ := HT.out.2 hP
          clear hP h1 h2
          go_wp2_with fail
          go_roundw
          case rel => exact ⟨j + 1, by omega, by simp, HP.out, KK.out⟩
          case measure => simp only [intOf]; omega
      · have h1' : (f.k == kind) = false := by simpa using h1
        have hP : isK kind n f = false := by simp [isK, h1]
        have HP : Hid _ := HT.out.2 hP
        clear hP h1
        go_wp2_with fail
        go_roundw
        case rel => exact ⟨j + 1, by omega, by simp, HP.out, KK.out⟩
        case measure => simp only [intOf]; omega
    · have a1 : decide ((j : Int) < (nF : Int)) = false := by simp only [decide_eq_false_iff_not]; omega
      obtain rfl : j = nF := by omega
      have HE : Hid (m.F.find? (isK kind n) = none) := by
        have := hno
        rw [EF.out, List.take_length] at this
        exact this
      clear kk hr hno
      go_wp2_with fail
      go_ret
      exact ⟨.inr ⟨rfl, HE.out⟩, KK.out⟩

/-- What a read leaves of where things lie. -/
def RNew (w : World) (p : RP) (v : Value) : Prop := v.ownBlock = p.sv.ownBlock ∨ ∃ k, v.ownBlock = some k ∧ w.heap.size ≤ k
def RdPost (w : World) (m : M) (p : RP) (Q : List Rb) (r b : Int) (e : Ending) (w' : World) : Prop :=
  ∃ v, e = .returned (.bool (Hits m.F r b (m.R r b + 1))) ∧ Rv w' (if Hits m.F r b (m.R r b + 1) = true then (m.rd r b).hit else m.rd r b) { p with sv := v } (Q ++ [⟨r, b⟩]) ∧ Same (ROwn p) w w' ∧ RNew w p v

set_option maxRecDepth 100000 in
set_option maxHeartbeats 400000 in
theorem rread_any {w : World} {m : M} {p : RP} {Q : List Rb} (h : Rv w m p Q) (r b : Int) (hq : Q.length + 1 ≤ 8796093022208) (hk : m.k < 4611686018427387904) : Calls Try.prog 40 #[.pointer (some ⟨p.db, 0, none⟩), .int .i64 r, .int .i64 b] w fun e w' => RdPost w m p Q r b e w' := by
  have HR : Hid _ := h
  have hF : m.F.length ≤ 64 := h.good.F
  obtain ⟨nF, eF⟩ : ∃ nF, nF = m.F.length := ⟨_, rfl⟩
  rw [← eF] at hF
  have EF : Hid _ := eF
  obtain ⟨nQ, eQ⟩ : ∃ nQ, nQ = Q.length := ⟨_, rfl⟩
  rw [← eQ] at hq
  have hq' : nQ ≤ 9000000000000000000 := by omega
  have HQ : Hid _ := hq
  have EQ : Hid _ := eQ
  have hT : (m.cT : Int) < 4611686018427387904 := by have := h.good.cT; omega
  have HCN : Hid (m.R r b = cntR Q r b) := h.cnt r b
  obtain ⟨g0, c0, sv0⟩ : ∃ g c, p.sv = Value.slice g nQ c := by
    rcases h.seen.2 with ⟨e, hn⟩ | ⟨g, cap, cur, e, _⟩
    · exact ⟨none, 0, by rw [e, eQ, hn]⟩
    · exact ⟨some ⟨g, 0, none⟩, cap, by rw [e, eQ]⟩
  have SV : Hid _ := sv0
  obtain ⟨nn, enn⟩ : ∃ nn, nn = m.R r b + 1 := ⟨_, rfl⟩
  have ENN : Hid _ := enn
  have hnn : (nn : Int) ≤ 4611686018427387904 := by have := h.good.R r b; omega
  clear h eF eQ sv0 enn hq
  go_enter Try.func40, Try.ntmps40
  go_wp2_with fail
  go_loopw [7, 8] (fun s i wr => ∃ j : Nat, j ≤ nQ ∧ i = .int .i64 j ∧ s = .int .i64 ((cntR (Q.take j) r b + 1 : Nat) : Int) ∧ Kept w wr) (fun _ i _ => nQ - (intOf i).toNat)
  case atStart => exact ⟨0, Nat.zero_le _, rfl, rfl, Same.refl _ _⟩
  case round =>
    obtain ⟨j, hj, rfl, rfl, kk⟩ := hrel
    have KK : Hid _ := kk
    have hr := Rv.on HR.out kk
    obtain ⟨-, -, -, -, -, c5⟩ := hr.cells
    rw [SV.out] at c5
    have hdl := lt_of_heap hr.dev
    have hcl : cntR (Q.take j) r b ≤ nQ := Nat.le_trans (cntR_le _ _ _) (by rw [List.length_take]; omega)
    by_cases hlt : j < nQ
    · have a1 : decide ((j : Int) < (nQ : Int)) = true := by simp only [decide_eq_true_eq]; omega
      have a2 : (j : Int) < (nQ : Int) := by omega
      obtain ⟨e, he⟩ : ∃ e, Q[j]? = some e := ⟨_, List.getElem?_eq_getElem (by rw [← EQ.out]; exact hlt)⟩
      obtain ⟨g, cap, e1, hgl, q0, q1⟩ := rb_cells hr.seen he
      rw [SV.out] at e1
      have e2 : g0 = some ⟨g, 0, none⟩ := by cases e1; rfl
      rw [e2] at c5
      have HT : Hid _ := cntR_take (r := r) (b := b) he
      obtain ⟨cj, ecj⟩ : ∃ cj, cj = cntR (Q.take j) r b := ⟨_, rfl⟩
      rw [← ecj] at HT hcl ⊢
      clear kk hr he e1 e2 ecj
      by_cases h1 : e.r = r
      · have h1' : (e.r == r) = true := by simpa using h1
        by_cases h2 : e.b = b
        · have h2' : (e.b == b) = true := by simpa using h2
          have ht2 : cntR (Q.take (j + 1)) r b = cj + 1 := by have := HT.out; rw [h1', h2'] at this; simpa using this
          have HT2 : Hid _ := ht2
          clear ht2
          clear h1 h2
          go_wp2_with fail
          go_roundw
          case rel => exact ⟨j + 1, by omega, by simp, by rw [HT2.out]; simp, KK.out⟩
          case measure => simp only [intOf]; omega
        · have h2' : (e.b == b) = false := by simpa using h2
          have ht2 : cntR (Q.take (j + 1)) r b = cj := by have := HT.out; rw [h1', h2'] at this; simpa using this
          have HT2 : Hid _ := ht2
          clear ht2
          clear h1 h2
          go_wp2_with fail
          go_roundw
          case rel => exact ⟨j + 1, by omega, by simp, by rw [HT2.out], KK.out⟩
          case measure => simp only [intOf]; omega
      · have h1' : (e.r == r) = false := by simpa using h1
        have ht2 : cntR (Q.take (j + 1)) r b = cj := by have := HT.out; rw [h1'] at this; simpa using this
        have HT2 : Hid _ := ht2
        clear ht2
        clear h1
        go_wp2_with fail
        go_roundw
        case rel => exact ⟨j + 1, by omega, by simp, by rw [HT2.out], KK.out⟩
        case measure => simp only [intOf]; omega
    · have a1 : decide ((j : Int) < (nQ : Int)) = false := by simp only [decide_eq_false_iff_not]; omega
      obtain rfl : j = nQ := by omega
      have en : cntR (Q.take j) r b + 1 = nn := by rw [EQ.out, List.take_length, ENN.out, HCN.out]
      rw [en]
      have HAP : Hid (∀ ty, ∃ v' w', (Builtin.append_ #[62, 62] ty #[.slice g0 j c0, .slice (some ⟨wr.heap.size, 0, none⟩) 1 1]).run Try.prog (wr.alloc (.cells #[.int .i64 r, .int .i64 b] 87 (0, 0))) = .ok v' w' ∧
          (w'.ownsRow 0 87 2 v' (Q ++ [(⟨r, b⟩ : Rb)]).length (rbs (Q ++ [(⟨r, b⟩ : Rb)])) ∧ Same (fun k => p.sv.ownBlock = some k) wr w' ∧ (v'.ownBlock = p.sv.ownBlock ∨ ∃ k, v'.ownBlock = some k ∧ wr.heap.size ≤ k))) := fun ty => by
        have := app_seen (x := ⟨r, b⟩) hr.seen (by rw [← EQ.out]; exact HQ.out) ty
        rw [SV.out] at this ⊢
        exact this
      have HRR : Hid _ := hr
      clear kk hr en hcl
      go_wp2_with (at_builtin; apply Hid.out)
      refine wpList_app rfl (.tmp 48) (.tmp 52) 62 rfl (.slice g0 j c0) (.slice (some ⟨wr.heap.size, 0, none⟩) 1 1) rfl rfl _ HAP.out ?_
      rintro v5 w5 ⟨o5, k5, n5⟩
      obtain ⟨g5, cap5, rfl⟩ : ∃ g cap, v5 = .slice (some ⟨g, 0, none⟩) (Q ++ [(⟨r, b⟩ : Rb)]).length cap := by
        rcases o5.2 with ⟨_, hn⟩ | ⟨g, cap, cur, e, _⟩
        · simp at hn
        · exact ⟨g, cap, e⟩
      have hd5 : w5.heap[p.db]? = some (rvObj m p) := (k5.block _ (lt_of_heap HRR.out.dev) HRR.out.db_sv).trans HRR.out.dev
      have x5 : w5.cell? ⟨p.db, 5, none⟩ = some (.slice g0 j c0) := (cell_of hd5 5).trans (by rw [← SV.out]; rfl)
      have f5 : w5.frozen? ⟨p.db, 5, none⟩ = false := frozen_of hd5 5
      have l5 := lt_of_heap hd5
      have R6 : Hid (Rv (w5.setCell ⟨p.db, 5, none⟩ (.slice (some ⟨g5, 0, none⟩) (Q ++ [(⟨r, b⟩ : Rb)]).length cap5)) (m.rd r b) { p with sv := .slice (some ⟨g5, 0, none⟩) (Q ++ [(⟨r, b⟩ : Rb)]).length cap5 } (Q ++ [⟨r, b⟩])) := HRR.out.note r b k5 o5 n5
      have N5 : Hid (RNew w p (.slice (some ⟨g5, 0, none⟩) (Q ++ [(⟨r, b⟩ : Rb)]).length cap5)) := n5.imp id fun ⟨k, q1, q2⟩ => ⟨k, q1, Nat.le_trans KK.out.size q2⟩
      have K6 : Hid (Same (ROwn p) w (w5.setCell ⟨p.db, 5, none⟩ (.slice (some ⟨g5, 0, none⟩) (Q ++ [(⟨r, b⟩ : Rb)]).length cap5))) := ((Kept.to KK.out _).trans' (k5.mono fun k _ e => .inr (.inr e))).setCell _ (.inr (.inl rfl)) _
      clear hd5 o5 k5 n5 HAP HRR
      generalize (Q ++ [(⟨r, b⟩ : Rb)]).length = n6 at R6 N5 K6 ⊢
      go_upto_block 2 with fail
      generalize w5.setCell ⟨p.db, 5, none⟩ (.slice (some ⟨g5, 0, none⟩) n6 cap5) = w6 at R6 K6 ⊢
      generalize (Value.slice (some ⟨g5, 0, none⟩) n6 cap5) = v6 at R6 N5 ⊢
      clear x5 f5 l5
      go_wp2_with fail
      go_loopw [9] (fun i wx => ∃ t : Nat, t ≤ nF ∧ i = .int .i64 t ∧ Hits (m.F.take t) r b nn = false ∧ Kept w6 wx) (fun i _ => nF - (intOf i).toNat)
      case atStart => exact ⟨0, Nat.zero_le _, rfl, rfl, Same.refl _ _⟩
      case round =>
        obtain ⟨t, ht, rfl, hno, kk6⟩ := hrel
        have KK6 : Hid _ := kk6
        have HNO : Hid _ := hno
        have hr6 := Rv.on R6.out kk6
        have c4 : wr.cell? ⟨p.db, 4, none⟩ = some (.slice p.fa nF p.fcap) := by rw [EF.out]; exact hr6.cells.2.2.2.2.1
        have c9 : wr.cell? ⟨p.db, 9, none⟩ = some (.int .i64 m.cT) := hr6.counts.2.2.2.1
        have f9 := hr6.frz 9
        have hdl6 : p.db < wr.heap.size := lt_of_heap hr6.dev
        by_cases hlt6 : t < nF
        · have a3 : decide ((t : Int) < (nF : Int)) = true := by simp only [decide_eq_true_eq]; omega
          have a4 : (t : Int) < (nF : Int) := by omega
          obtain ⟨f, hf⟩ : ∃ f, m.F[t]? = some f := ⟨_, List.getElem?_eq_getElem (by rw [← EF.out]; exact hlt6)⟩
          obtain ⟨fb, off, e1, hb, q0, q1, q2, q3⟩ : ∃ fb off, p.fa = some ⟨fb, off, none⟩ ∧ fb < wr.heap.size ∧ wr.cell? ⟨fb, off + t * 4, none⟩ = some (.int .i64 f.k) ∧ wr.cell? ⟨fb, off + t * 4 + 1, none⟩ = some (.int .i64 f.b) ∧ wr.cell? ⟨fb, off + t * 4 + 2, none⟩ = some (.int .i64 f.n) ∧ wr.cell? ⟨fb, off + t * 4 + 3, none⟩ = some (.int .i64 f.p) := hr6.flt t f hf
          rw [e1] at c4
          have HT : Hid _ := hits_take hf hno
          have HF : Hid (∀ h : (f.k == r && f.b == b && f.n == (nn : Int)) = true, Hits m.F r b nn = true) := fun h => hits_here hf h
          clear kk6 hr6 hno hf e1
          by_cases h1 : f.k = r
          · have h1' : (f.k == r) = true := by simpa using h1
            by_cases h2 : f.b = b
            · have h2' : (f.b == b) = true := by simpa using h2
              by_cases h3 : f.n = (nn : Int)
              · have h3' : (f.n == (nn : Int)) = true := by simpa using h3
                have HH : Hid (Hits m.F r b (m.R r b + 1) = true) := by
                  rw [← ENN.out]
                  exact HF.out (by rw [h1', h2', h3']; rfl)
                clear h1 h2 h3 HT HF
                go_wp2_with fail
                go_ret
                refine ⟨v6, by rw [show Hits m.F r b (m.R r b + 1) = true from HH.out]; rfl, ?_, ((K6.out.trans' (Kept.to KK6.out _)).setCell ⟨p.db, 9, none⟩ (.inr (.inl rfl)) _).alloc _, N5.out⟩
                rw [if_pos (show Hits m.F r b (m.R r b + 1) = true from HH.out)]
                exact Rv.on (Rv.hits (Rv.on R6.out KK6.out)) ((Same.refl _ _).alloc _)
              · have h3' : (f.n == (nn : Int)) = false := by simpa using h3
                have HT2 : Hid (Hits (m.F.take (t + 1)) r b nn = false) := by rw [HT.out, h1', h2', h3']; exact rfl
                clear h1 h2 h3 HT HF
                go_wp2_with fail
                go_roundw
                case rel => exact ⟨t + 1, by omega, by simp, HT2.out, KK6.out.alloc _⟩
                case measure => simp only [intOf]; omega
            · have h2' : (f.b == b) = false := by simpa using h2
              have HT2 : Hid (Hits (m.F.take (t + 1)) r b nn = false) := by rw [HT.out, h1', h2']; exact rfl
              clear h1 h2 HT HF
              go_wp2_with fail
              go_roundw
              case rel => exact ⟨t + 1, by omega, by simp, HT2.out, KK6.out.alloc _⟩
              case measure => simp only [intOf]; omega
          · have h1' : (f.k == r) = false := by simpa using h1
            have HT2 : Hid (Hits (m.F.take (t + 1)) r b nn = false) := by rw [HT.out, h1']; exact rfl
            clear h1 HT HF
            go_wp2_with fail
            go_roundw
            case rel => exact ⟨t + 1, by omega, by simp, HT2.out, KK6.out.alloc _⟩
            case measure => simp only [intOf]; omega
        · have a3 : decide ((t : Int) < (nF : Int)) = false := by simp only [decide_eq_false_iff_not]; omega
          obtain rfl : t = nF := by omega
          have HH : Hid (Hits m.F r b (m.R r b + 1) = false) := by
            have := hno
            rw [EF.out, List.take_length, ENN.out] at this
            exact this
          clear kk6 hr6 hno
          go_wp2_with fail
          go_ret
          refine ⟨v6, by rw [show Hits m.F r b (m.R r b + 1) = false from HH.out]; rfl, ?_, K6.out.trans' (Kept.to KK6.out _), N5.out⟩
          rw [if_neg (by rw [show Hits m.F r b (m.R r b + 1) = false from HH.out]; simp)]
          exact Rv.on R6.out KK6.out
end Go.Proofs.Ytagkgenhgllglaa
