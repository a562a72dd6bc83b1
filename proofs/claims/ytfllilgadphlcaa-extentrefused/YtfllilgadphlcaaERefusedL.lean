/- What is proved: ExtentRefused answers true for every number of blocks and every two scripts in memory. -/
import Derived.Test.YtfllilgadphlcaaETri
import Derived.Test.YtfllilgadphlcaaEPlaysL
namespace Go.Proofs.Ytfllilgadphlcaa
open Go.RowKit

set_option maxRecDepth 100000 in
theorem refused_no (N : Int) (sa sb : Option Addr) (len sc lenb sbc : Nat) (w : World) (hN : N < 0 ∨ 4096 < N) :
    Calls Try.prog 7 #[.int .i64 N, .slice sa len sc, .slice sb lenb sbc] w fun e w' => e = .returned (.bool true) ∧ Kept w w' := by
  have hnot : ∀ (x : Bool) (w : World), (Op.unary .not (.bool x)).run Try.prog w = .ok (.bool (!x)) w := fun _ _ => rfl
  have HA : Hid (∀ w', _) := fun w' => anchor_any w'
  have HN : Hid (∀ w', _) := fun w' => new_no N hN w'
  by_cases h1 : N < 0
  · have h1' : decide (N < 0) = true := decide_eq_true h1
    clear hN
    go_enter Try.func7, Try.ntmps7
    go_wp2_with fail
    refine Calls.mono (HA.out _) ?_
    rintro e w1 ⟨rfl, k1⟩
    go_wp2_with fail
    refine Calls.mono (HN.out _) ?_
    rintro e w2 ⟨rfl, h2⟩
    subst w2
    go_wp2_with fail
    refine Calls.mono (HN.out _) ?_
    rintro e w2 ⟨rfl, h2⟩
    subst w2
    go_wp2_with fail
    go_ret
    exact ⟨rfl, k1⟩
  · have h1' : decide (N < 0) = false := decide_eq_false h1
    have h2 : 4096 < N := by omega
    have h2' : decide (4096 < N) = true := decide_eq_true h2
    clear hN
    go_enter Try.func7, Try.ntmps7
    go_wp2_with fail
    refine Calls.mono (HA.out _) ?_
    rintro e w1 ⟨rfl, k1⟩
    go_wp2_with fail
    refine Calls.mono (HN.out _) ?_
    rintro e w2 ⟨rfl, h2⟩
    subst w2
    go_wp2_with fail
    refine Calls.mono (HN.out _) ?_
    rintro e w2 ⟨rfl, h2⟩
    subst w2
    go_wp2_with fail
    go_ret
    exact ⟨rfl, k1⟩

/-- Two new spaces and a new one of the document's. -/
theorem tri_new {w w1 w2 w3 w4 : World} {p t q g N : Nat} {L M : List Ex} (k1 : Kept w w1) (s2 : SpX (fun k => k < w1.heap.size) w2 p N L) (k2 : Kept w1 w2) (s3 : SpX (fun k => k < w2.heap.size) w3 t N M) (k3 : Kept w2 w3)
    (rs : RS w4 q g N (fun _ => false)) (hq : w3.heap.size ≤ q) (hg : w3.heap.size ≤ g) (k4 : Kept w3 w4) : Tri (fun k => k < w.heap.size) w4 p t q g N L M (fun _ => false) := by
  have z1 := k1.size
  have z2 := k2.size
  have z3 := k3.size
  obtain ⟨a, hb, c, h1, h2, h3⟩ := s3
  have l1 := h1.ltb
  have l2 := h1.lt
  have h2 : ¬ hb < w2.heap.size := h2
  have h3 : ¬ t < w2.heap.size := h3
  refine ⟨a, hb, c, h1.kept0 k4, ?_, ?_, ?_, rs, by show ¬ _ < _; omega, by show ¬ _ < _; omega⟩
  · show ¬ (_ < _ ∨ _); omega
  · show ¬ (_ < _ ∨ _); omega
  · refine ((s2.mono fun k hk e => ?_).on k3).on k4
    show k < w1.heap.size
    rcases e with (e | e | e) | e | e
    · exact Nat.lt_of_lt_of_le e z1
    · omega
    · omega
    · omega
    · omega
theorem sp_all {w : World} {N : Nat} {X Y : Nat → Prop} {p t : Nat} {w' : World} {L M : List Ex} (h : SpX X w p N L) (h' : SpX Y w' t N M) (a : ∀ b, Mm b L ↔ 0 ≤ b ∧ b < N) (b : ∀ b, Mm b M ↔ 0 ≤ b ∧ b < N) : M = L :=
  wf_eq h'.wf h.wf fun x => by rw [a, b]

/-- What holds of the three as the loop goes round. -/
def Rd (w : World) (wr : World) (p t q g N : Nat) (L : List Ex) (U : Nat → Bool) : Prop := Tri (fun k => k < w.heap.size) wr p t q g N L L U ∧ Ag U N L ∧ WF 0 N L ∧ Kept w wr

/-- The blocks that the calls leave alone while a step's box lies at b. -/
abbrev X1 (w : World) (b : Nat) : Nat → Prop := fun k => k < w.heap.size ∨ k = b
/-- .. and two boxes more. -/
abbrev X3 (w : World) (b : Nat) : Nat → Prop := fun k => (X1 w b k ∨ k = b + 1) ∨ k = b + 1 + 1

set_option maxRecDepth 100000 in
set_option maxHeartbeats 6400000 in
theorem refused_yes (N : Nat) (sa sb : Option Addr) (sc sbc : Nat) (ls lb : List O3) (w : World) (hN : N ≤ 4096) (hs : OpsAt w sa ls) (hsb : OpsAt w sb lb) (hlen : ls.length ≤ 9223372036854775807) :
    Calls Try.prog 7 #[.int .i64 (N : Int), .slice sa ls.length sc, .slice sb lb.length sbc] w fun e w' => e = .returned (.bool true) ∧ Kept w w' := by
  have hnot : ∀ (x : Bool) (w : World), (Op.unary .not (.bool x)).run Try.prog w = .ok (.bool (!x)) w := fun _ _ => rfl
  have HA : Hid (∀ w', _) := fun w' => anchor_any w'
  have HN : Hid (∀ w', _) := fun w' => new_x N hN w'
  have HR : Hid (∀ w', _) := fun w' => rnew_yes N hN w'
  have HO : Hid _ := hs
  have HOB : Hid _ := hsb
  obtain ⟨m, em⟩ : ∃ m, m = ls.length := ⟨_, rfl⟩
  obtain ⟨mb, emb⟩ : ∃ mb, mb = lb.length := ⟨_, rfl⟩
  rw [← em] at hlen ⊢
  rw [← emb]
  have EM : Hid _ := em
  have EMB : Hid _ := emb
  clear em hs emb hsb
  go_enter Try.func7, Try.ntmps7
  go_wp2_with fail
  refine Calls.mono (HA.out _) ?_
  rintro e w1 ⟨rfl, k1⟩
  have K1 : Hid _ := k1
  clear k1
  go_wp2_with fail
  refine Calls.mono (HN.out _) ?_
  rintro e w2 ⟨p, L0, rfl, hsp, hm0, k2⟩
  have S2 : Hid _ := hsp
  have M2 : Hid _ := hm0
  have K2 : Hid _ := k2
  clear hsp hm0 k2
  go_wp2_with fail
  refine Calls.mono (HN.out _) ?_
  rintro e w3 ⟨t, M0, rfl, hsp, hm0, k3⟩
  have S3 : Hid _ := hsp
  have K3 : Hid _ := k3
  have E0 : Hid (M0 = L0) := sp_all S2.out hsp M2.out hm0
  clear hsp hm0 k3
  go_wp2_with fail
  refine Calls.mono (HR.out _) ?_
  rintro e w4 ⟨q, g, rfl, rs4, hq, hg, k4⟩
  have R4 : Hid (Rd w w4 p t q g N L0 (fun _ => false)) := by
    refine ⟨?_, fun b hb => ⟨fun _ => (M2.out b).2 (by omega), fun _ => rfl⟩, SpX.wf S2.out, ((K1.out.trans' K2.out).trans' K3.out).trans' k4⟩
    have := tri_new K1.out S2.out K2.out S3.out K3.out rs4 hq hg k4
    rw [E0.out] at this
    exact this
  clear rs4 hq hg k4
  go_wp2_with fail
  go_loopw [58] (fun i wr => ∃ (j : Nat) (L : List Ex) (U : Nat → Bool), j ≤ m ∧ i = .int .i64 j ∧ Rd w wr p t q g N L U) (fun i _ => m - (intOf i).toNat)
  case atStart => exact ⟨0, L0, _, Nat.zero_le _, rfl, R4.out⟩
  case round =>
    obtain ⟨j, L, U, hj, rfl, hrd⟩ := hrel
    have HRD : Hid _ := hrd
    obtain ⟨htri, hag, hwf, kk⟩ := hrd
    by_cases hlt : j < m
    · have c1' : decide ((j : Int) < (m : Int)) = true := by simp only [decide_eq_true_eq]; omega
      have hlt2 : (j : Int) < (m : Int) := by omega
      obtain ⟨o, ho⟩ : ∃ o, ls[j]? = some o := ⟨_, List.getElem?_eq_getElem (by rw [← EM.out]; exact hlt)⟩
      obtain ⟨⟨b, off, rfl, hbl, q0, q1, q2⟩, q3⟩ := (OpsAt.on HO.out kk) j o ho
      have Q3 : Hid _ := q3
      have T1 : Hid (Tri (X1 w wr.heap.size) (wr.alloc (opO o)) p t q g N L L U) := htri.box _
      have KK : Hid _ := kk
      have KO : Hid (Kept w (wr.alloc (opO o))) := kk.alloc _
      have HOB1 : Hid _ := OpsAt.on HOB.out KO.out
      have HAG : Hid _ := hag
      have HWF : Hid _ := hwf
      clear ho q3 htri hag hwf kk
      go_upto_if 66 with fail
      go_cut [58] from 58 to 163 (fun s58 wx => s58 = .int .i64 j ∧ Tri (X1 w wr.heap.size) wx p t q g N L L U ∧ Same (fun k => ¬ X1 w wr.heap.size k) (wr.alloc (opO o)) wx)
      case first =>
        by_cases hjb : j < mb
        · have e1' : decide ((j : Int) < (mb : Int)) = true := by simp only [decide_eq_true_eq]; omega
          have e1 : (j : Int) < (mb : Int) := by omega
          obtain ⟨bo, hbo⟩ : ∃ bo, lb[j]? = some bo := ⟨_, List.getElem?_eq_getElem (by rw [← EMB.out]; exact hjb)⟩
          obtain ⟨⟨b2, off2, rfl, hbl2, r0, r1, r2⟩, r3⟩ := HOB1.out j bo hbo
          have R3 : Hid _ := r3
          have T3 : Hid (Tri (X3 w wr.heap.size) (((wr.alloc (opO o)).alloc (opO bo)).alloc (exO ⟨bo.f, bo.c⟩)) p t q g N L L U) := by
            have := ((T1.out).box (opO bo)).box (exO ⟨bo.f, bo.c⟩)
            simp only [World.size_alloc] at this
            exact this
          have HXS : Hid (∀ W, Same (fun k => ¬ X3 w wr.heap.size k) (((wr.alloc (opO o)).alloc (opO bo)).alloc (exO ⟨bo.f, bo.c⟩)) W → ∀ k, X3 w wr.heap.size k → k < W.heap.size) := fun W h k hk => by
            have h1 := h.size
            have h2 := KK.out.size
            simp only [World.size_alloc] at h1
            rcases hk with ((hk | hk) | hk) | hk <;> omega
          have HCL : Hid (∀ W, Same (fun k => ¬ X3 w wr.heap.size k) (((wr.alloc (opO o)).alloc (opO bo)).alloc (exO ⟨bo.f, bo.c⟩)) W → W.cell? ⟨wr.heap.size + 1, 0, none⟩ = some (.int .i64 bo.k) ∧ W.cell? ⟨wr.heap.size + 1, 1, none⟩ = some (.int .i64 bo.f) ∧ W.cell? ⟨wr.heap.size + 1, 2, none⟩ = some (.int .i64 bo.c) ∧ W.cell? ⟨wr.heap.size + 1 + 1, 0, none⟩ = some (.int .i64 bo.f) ∧ W.cell? ⟨wr.heap.size + 1 + 1, 1, none⟩ = some (.int .i64 bo.c)) := fun W h => by
            have g1 : (((wr.alloc (opO o)).alloc (opO bo)).alloc (exO ⟨bo.f, bo.c⟩)).heap[wr.heap.size + 1]? = some (opO bo) := (heap_old _ _ (by simp)).trans (by have := heap_new (wr.alloc (opO o)) (opO bo); rwa [World.size_alloc] at this)
            have g2 : (((wr.alloc (opO o)).alloc (opO bo)).alloc (exO ⟨bo.f, bo.c⟩)).heap[wr.heap.size + 1 + 1]? = some (exO ⟨bo.f, bo.c⟩) := by have := heap_new ((wr.alloc (opO o)).alloc (opO bo)) (exO ⟨bo.f, bo.c⟩); rwa [World.size_alloc, World.size_alloc] at this
            have f1 := (h.block _ (by simp) (fun e => e (.inl (.inr rfl)))).trans g1
            have f2 := (h.block _ (by simp) (fun e => e (.inr rfl))).trans g2
            obtain ⟨a0, a1, a2⟩ := op_cells f1
            exact ⟨a0, a1, a2, (cell_of f2 0).trans rfl, (cell_of f2 1).trans rfl⟩
          have HFN : Hid (∀ W, Same (fun k => ¬ X3 w wr.heap.size k) (((wr.alloc (opO o)).alloc (opO bo)).alloc (exO ⟨bo.f, bo.c⟩)) W → Tri (X3 w wr.heap.size) W p t q g N L L U → Tri (X1 w wr.heap.size) W p t q g N L L U ∧ Same (fun k => ¬ X1 w wr.heap.size k) (wr.alloc (opO o)) W) := fun W h ht =>
            ⟨ht.mono fun k e => .inl (.inl e), (Kept.to (((Same.refl _ _).alloc _).alloc _) _).trans' (h.mono fun k _ e e' => e (.inl (.inl e')))⟩
          clear hbo r3
          have HAL : Hid (∀ W, Kept (((wr.alloc (opO o)).alloc (opO bo)).alloc (exO ⟨bo.f, bo.c⟩)) W → _) := fun W (k : Kept (((wr.alloc (opO o)).alloc (opO bo)).alloc (exO ⟨bo.f, bo.c⟩)) W) => alloc_t (Tri.on T3.out k) (HXS.out _ (Kept.to k _)) bo.c
          have HTK : Hid (∀ W, Kept (((wr.alloc (opO o)).alloc (opO bo)).alloc (exO ⟨bo.f, bo.c⟩)) W → _) := fun W (k : Kept (((wr.alloc (opO o)).alloc (opO bo)).alloc (exO ⟨bo.f, bo.c⟩)) W) => take_t (Tri.on (Tri.swap T3.out) k) (HXS.out _ (Kept.to k _)) ⟨bo.f, bo.c⟩ R3.out
          have HFR : Hid (∀ W, Kept (((wr.alloc (opO o)).alloc (opO bo)).alloc (exO ⟨bo.f, bo.c⟩)) W → _) := fun W (k : Kept (((wr.alloc (opO o)).alloc (opO bo)).alloc (exO ⟨bo.f, bo.c⟩)) W) => free_t (Tri.on (Tri.swap T3.out) k) (HXS.out _ (Kept.to k _)) ⟨bo.f, bo.c⟩ R3.out
          by_cases k1 : bo.k = 1
          · have k1' : (bo.k == 1) = true := by simp [k1]
            have k2' : (bo.k == 2) = false := by simp [k1]
            have k3' : (bo.k == 3) = false := by simp [k1]
            clear k1 HTK HFR
            by_cases hc1 : bo.c < 1
            · have hc1' : decide (bo.c < 1) = true := decide_eq_true hc1
              unfold opO exO at *
              go_wp2_with fail
              go_quiet (fail)
              go_wp2_with fail
              refine Calls.mono (HAL.out _ ((Same.refl _ _).drewN _)) ?_
              rintro r w5 ⟨v, L', rfl, hR, -, t5, k5⟩
              have eL := hR.no (.inl hc1)
              subst eL
              have ks5 := (Kept.to ((Same.refl _ _).drewN nq) _).trans' k5
              obtain ⟨a0, a1, a2, a3, a4⟩ := HCL.out _ ks5
              have HF5 : Hid _ := HFN.out _ ks5 t5
              clear hR t5 k5 ks5
              go_wp2_with fail
              go_meet
              exact ⟨rfl, HF5.out⟩
            · have hc1' : decide (bo.c < 1) = false := decide_eq_false hc1
              have HLG : Hid (∀ W, Kept (((wr.alloc (opO o)).alloc (opO bo)).alloc (exO ⟨bo.f, bo.c⟩)) W → _) := fun W (k : Kept (((wr.alloc (opO o)).alloc (opO bo)).alloc (exO ⟨bo.f, bo.c⟩)) W) => rlargest_any (RS.on (by obtain ⟨_, _, _, _, _, _, _, h, _⟩ := T3.out; exact h) k) hN HWF.out HAG.out
              have HBL : Hid (∀ L', AllocR L bo.c L' → big L < bo.c → L' = L) := fun L' h h' => h.no (.inr h')
              have HCK : Hid (∀ W, Kept (((wr.alloc (opO o)).alloc (opO bo)).alloc (exO ⟨bo.f, bo.c⟩)) W → Kept (((wr.alloc (opO o)).alloc (opO bo)).alloc (exO ⟨bo.f, bo.c⟩)) W ∧ W.cell? ⟨wr.heap.size + 1, 0, none⟩ = some (.int .i64 bo.k) ∧ W.cell? ⟨wr.heap.size + 1, 2, none⟩ = some (.int .i64 bo.c)) := fun W k => by
                obtain ⟨a0, a1, a2, a3, a4⟩ := HCL.out _ (Kept.to k _)
                exact ⟨k, a0, a2⟩
              obtain ⟨B, eB⟩ : ∃ B, B = big L := ⟨_, rfl⟩
              rw [← eB] at HLG HBL
              clear eB
              by_cases hbg : B < bo.c
              · have hbg' : decide (B < bo.c) = true := decide_eq_true hbg
                unfold opO exO at *
                go_wp2_with fail
                generalize hW3 : (((wr.alloc (Obj.cells #[.int .i64 o.k, .int .i64 o.f, .int .i64 o.c] 32 (0, 0))).alloc (Obj.cells #[.int .i64 bo.k, .int .i64 bo.f, .int .i64 bo.c] 32 (0, 0))).alloc (Obj.cells #[.int .i64 bo.f, .int .i64 bo.c] 40 (0, 0))) = W3 at *
                clear hW3
                go_cut [90] (fun s90 wx => s90 = .bool true ∧ Kept W3 wx)
                case first =>
                  clear HAL HCL HFN HXS HBL T3 R3 T1 KK KO HOB1 HAG HWF Q3 HRD HO HOB EM EMB R4 S2 M2 S3 K1 K2 K3 E0 HA HN HR
                  refine wp_region_held_drew (S := fun w' => Kept W3 w' ∧ w'.cell? ⟨wr.heap.size + 1, 0, none⟩ = some (.int .i64 bo.k) ∧ w'.cell? ⟨wr.heap.size + 1, 2, none⟩ = some (.int .i64 bo.c)) (by kernel_rfl) (HCK.out _ ((Same.refl _ _).drew)) (fun hHeld => ?_)
                  refine wpAnyH_take (i := 0) (v := .pointer (some ⟨wr.heap.size + 1, 0, none⟩)) rfl (by kernel_rfl) (by kernel_rfl) (by kernel_rfl) (fun _ _ _ h => h) (Or.inl ⟨by rfl, fun w hSw => by (dsimp only at hSw; go_simp)⟩) hHeld ?_
                  (try simp only [Act.put, List.getElem_toArray, List.getElem_cons_zero, List.setIfInBounds_toArray, List.set_cons_zero, List.set_cons_succ])
                  refine wpAnyH_take (i := 1) (v := .int .i64 bo.k) rfl (by kernel_rfl) (by kernel_rfl) (by kernel_rfl) (fun _ _ _ h => h) (Or.inl ⟨by rfl, fun w hSw => by (dsimp only at hSw; go_simp)⟩) hHeld ?_
                  (try simp only [Act.put, List.getElem_toArray, List.getElem_cons_succ, List.getElem_cons_zero, List.setIfInBounds_toArray, List.set_cons_zero, List.set_cons_succ])
                  refine wpAnyH_take (i := 2) (v := .bool true) rfl (by kernel_rfl) (by kernel_rfl) (by kernel_rfl) (fun _ _ _ h => h) (Or.inl ⟨by rfl, fun w hSw => by (dsimp only at hSw; go_simp)⟩) hHeld ?_
                  (try simp only [Act.put, List.getElem_toArray, List.getElem_cons_succ, List.getElem_cons_zero, List.setIfInBounds_toArray, List.set_cons_zero, List.set_cons_succ])
                  refine wpAnyH_take (i := 3) (v := .bool true) rfl (by kernel_rfl) (by kernel_rfl) (by kernel_rfl) (fun _ _ _ h => h) (Or.inl ⟨by rfl, fun w hSw => by (dsimp only at hSw; go_simp)⟩) hHeld ?_
                  (try simp only [Act.put, List.getElem_toArray, List.getElem_cons_succ, List.getElem_cons_zero, List.setIfInBounds_toArray, List.set_cons_zero, List.set_cons_succ])
                  refine wpAnyH_take (i := 4) (v := .pointer (some ⟨wr.heap.size + 1, 2, none⟩)) rfl (by kernel_rfl) (by kernel_rfl) (by kernel_rfl) (fun _ _ _ h => h) (Or.inl ⟨by rfl, fun w hSw => by (dsimp only at hSw; go_simp)⟩) hHeld ?_
                  (try simp only [Act.put, List.getElem_toArray, List.getElem_cons_succ, List.getElem_cons_zero, List.setIfInBounds_toArray, List.set_cons_zero, List.set_cons_succ])
                  refine wpAnyH_take (i := 5) (v := .int .i64 bo.c) rfl (by kernel_rfl) (by kernel_rfl) (by kernel_rfl) (fun _ _ _ h => h) (Or.inl ⟨by rfl, fun w hSw => by (dsimp only at hSw; go_simp)⟩) hHeld ?_
                  (try simp only [Act.put, List.getElem_toArray, List.getElem_cons_succ, List.getElem_cons_zero, List.setIfInBounds_toArray, List.set_cons_zero, List.set_cons_succ])
                  refine wpAnyH_take (i := 6) (v := .bool false) rfl (by kernel_rfl) (by kernel_rfl) (by kernel_rfl) (fun _ _ _ h => h) (Or.inl ⟨by rfl, fun w hSw => by (dsimp only at hSw; go_simp)⟩) hHeld ?_
                  (try simp only [Act.put, List.getElem_toArray, List.getElem_cons_succ, List.getElem_cons_zero, List.setIfInBounds_toArray, List.set_cons_zero, List.set_cons_succ])
                  refine wpAnyH_take (i := 7) (v := .bool false) rfl (by kernel_rfl) (by kernel_rfl) (by kernel_rfl) (fun _ _ _ h => h) (Or.inl ⟨by rfl, fun w hSw => by (dsimp only at hSw; go_simp)⟩) hHeld ?_
                  (try simp only [Act.put, List.getElem_toArray, List.getElem_cons_succ, List.getElem_cons_zero, List.setIfInBounds_toArray, List.set_cons_zero, List.set_cons_succ])
                  refine wpAnyH_take (i := 8) (v := .pointer (some ⟨wr.heap.size + 1, 2, none⟩)) rfl (by kernel_rfl) (by kernel_rfl) (by kernel_rfl) (fun _ _ _ h => h) (Or.inl ⟨by rfl, fun w hSw => by (dsimp only at hSw; go_simp)⟩) hHeld ?_
                  (try simp only [Act.put, List.getElem_toArray, List.getElem_cons_succ, List.getElem_cons_zero, List.setIfInBounds_toArray, List.set_cons_zero, List.set_cons_succ])
                  refine wpAnyH_take (i := 9) (v := .int .i64 bo.c) rfl (by kernel_rfl) (by kernel_rfl) (by kernel_rfl) (fun _ _ _ h => h) (Or.inl ⟨by rfl, fun w hSw => by (dsimp only at hSw; go_simp)⟩) hHeld ?_
                  (try simp only [Act.put, List.getElem_toArray, List.getElem_cons_succ, List.getElem_cons_zero, List.setIfInBounds_toArray, List.set_cons_zero, List.set_cons_succ])
                  refine wpAnyH_take (i := 10) (v := .pointer (some ⟨q, 0, none⟩)) rfl (by kernel_rfl) (by kernel_rfl) (by kernel_rfl) (fun _ _ _ h => h) (Or.inl ⟨by rfl, fun w hSw => by (dsimp only at hSw; go_simp)⟩) hHeld ?_
                  (try simp only [Act.put, List.getElem_toArray, List.getElem_cons_succ, List.getElem_cons_zero, List.setIfInBounds_toArray, List.set_cons_zero, List.set_cons_succ])
                  refine wpAnyH_ready (rs := [11]) (by kernel_rfl) (by simp) (AllReadyH.cons rfl (fun K hK => ?_) AllReadyH.nil)
                  go_simp
                  refine Calls.mono (HLG.out _ ((Same.refl _ _).drew)) ?_
                  rintro r w5 ⟨rfl, k5⟩
                  go_wp2_with fail
                  refine hK.out _ _ (HCK.out _ (((Same.refl _ _).drew).trans' k5)) (fun hHeld1 => ?_)
                  clear hK K hHeld
                  (try simp only [Act.put, List.getElem_toArray, List.getElem_cons_succ, List.getElem_cons_zero, List.setIfInBounds_toArray, List.set_cons_zero, List.set_cons_succ])
                  refine wpAnyH_take (i := 12) (v := .bool true) rfl (by kernel_rfl) (by kernel_rfl) (by kernel_rfl) (fun _ _ _ h => h) (Or.inl ⟨by rfl, fun w hSw => by (dsimp only at hSw; go_simp)⟩) hHeld1 ?_
                  (try simp only [Act.put, List.getElem_toArray, List.getElem_cons_succ, List.getElem_cons_zero, List.setIfInBounds_toArray, List.set_cons_zero, List.set_cons_succ])
                  refine wpAnyH_take (i := 13) (v := .bool true) rfl (by kernel_rfl) (by kernel_rfl) (by kernel_rfl) (fun _ _ _ h => h) (Or.inl ⟨by rfl, fun w hSw => by (dsimp only at hSw; go_simp)⟩) hHeld1 ?_
                  (try simp only [Act.put, List.getElem_toArray, List.getElem_cons_succ, List.getElem_cons_zero, List.setIfInBounds_toArray, List.set_cons_zero, List.set_cons_succ])
                  refine wpAnyH_take (i := 14) (v := .bool true) rfl (by kernel_rfl) (by kernel_rfl) (by kernel_rfl) (fun _ _ _ h => h) (Or.inl ⟨by rfl, fun w hSw => by (dsimp only at hSw; go_simp)⟩) hHeld1 ?_
                  (try simp only [Act.put, List.getElem_toArray, List.getElem_cons_succ, List.getElem_cons_zero, List.setIfInBounds_toArray, List.set_cons_zero, List.set_cons_succ])
                  refine wpAnyH_done (by kernel_rfl) ?_ _
                  go_wp2_with fail
                  go_meet
                  exact ⟨rfl, ((Same.refl _ _).drew).trans' k5⟩
                case rest =>
                  obtain ⟨rfl, kz⟩ := hcut
                  have KZ : Hid _ := kz
                  obtain ⟨z0, z1, z2, z3, z4⟩ := HCL.out _ (Kept.to kz _)
                  clear kz
                  go_wp2_with fail
                  refine Calls.mono (HAL.out _ KZ.out) ?_
                  rintro r w6 ⟨v, L', rfl, hR, -, t6, k6⟩
                  have eL := HBL.out _ hR hbg
                  subst eL
                  have ks6 := (Kept.to KZ.out _).trans' k6
                  obtain ⟨a0, a1, a2, a3, a4⟩ := HCL.out _ ks6
                  have HF6 : Hid _ := HFN.out _ ks6 t6
                  clear hR t6 k6 ks6
                  go_wp2_with fail
                  go_meet
                  exact ⟨rfl, HF6.out⟩
              · have hbg' : decide (B < bo.c) = false := decide_eq_false hbg
                unfold opO exO at *
                go_wp2_with fail
                generalize hW3 : (((wr.alloc (Obj.cells #[.int .i64 o.k, .int .i64 o.f, .int .i64 o.c] 32 (0, 0))).alloc (Obj.cells #[.int .i64 bo.k, .int .i64 bo.f, .int .i64 bo.c] 32 (0, 0))).alloc (Obj.cells #[.int .i64 bo.f, .int .i64 bo.c] 40 (0, 0))) = W3 at *
                clear hW3
                go_cut [90] (fun s90 wx => s90 = .bool false ∧ Kept W3 wx)
                case first =>
                  clear HAL HCL HFN HXS HBL T3 R3 T1 KK KO HOB1 HAG HWF Q3 HRD HO HOB EM EMB R4 S2 M2 S3 K1 K2 K3 E0 HA HN HR
                  refine wp_region_held_drew (S := fun w' => Kept W3 w' ∧ w'.cell? ⟨wr.heap.size + 1, 0, none⟩ = some (.int .i64 bo.k) ∧ w'.cell? ⟨wr.heap.size + 1, 2, none⟩ = some (.int .i64 bo.c)) (by kernel_rfl) (HCK.out _ ((Same.refl _ _).drew)) (fun hHeld => ?_)
                  refine wpAnyH_take (i := 0) (v := .pointer (some ⟨wr.heap.size + 1, 0, none⟩)) rfl (by kernel_rfl) (by kernel_rfl) (by kernel_rfl) (fun _ _ _ h => h) (Or.inl ⟨by rfl, fun w hSw => by (dsimp only at hSw; go_simp)⟩) hHeld ?_
                  (try simp only [Act.put, List.getElem_toArray, List.getElem_cons_zero, List.setIfInBounds_toArray, List.set_cons_zero, List.set_cons_succ])
                  refine wpAnyH_take (i := 1) (v := .int .i64 bo.k) rfl (by kernel_rfl) (by kernel_rfl) (by kernel_rfl) (fun _ _ _ h => h) (Or.inl ⟨by rfl, fun w hSw => by (dsimp only at hSw; go_simp)⟩) hHeld ?_
                  (try simp only [Act.put, List.getElem_toArray, List.getElem_cons_succ, List.getElem_cons_zero, List.setIfInBounds_toArray, List.set_cons_zero, List.set_cons_succ])
                  refine wpAnyH_take (i := 2) (v := .bool true) rfl (by kernel_rfl) (by kernel_rfl) (by kernel_rfl) (fun _ _ _ h => h) (Or.inl ⟨by rfl, fun w hSw => by (dsimp only at hSw; go_simp)⟩) hHeld ?_
                  (try simp only [Act.put, List.getElem_toArray, List.getElem_cons_succ, List.getElem_cons_zero, List.setIfInBounds_toArray, List.set_cons_zero, List.set_cons_succ])
                  refine wpAnyH_take (i := 3) (v := .bool true) rfl (by kernel_rfl) (by kernel_rfl) (by kernel_rfl) (fun _ _ _ h => h) (Or.inl ⟨by rfl, fun w hSw => by (dsimp only at hSw; go_simp)⟩) hHeld ?_
                  (try simp only [Act.put, List.getElem_toArray, List.getElem_cons_succ, List.getElem_cons_zero, List.setIfInBounds_toArray, List.set_cons_zero, List.set_cons_succ])
                  refine wpAnyH_take (i := 4) (v := .pointer (some ⟨wr.heap.size + 1, 2, none⟩)) rfl (by kernel_rfl) (by kernel_rfl) (by kernel_rfl) (fun _ _ _ h => h) (Or.inl ⟨by rfl, fun w hSw => by (dsimp only at hSw; go_simp)⟩) hHeld ?_
                  (try simp only [Act.put, List.getElem_toArray, List.getElem_cons_succ, List.getElem_cons_zero, List.setIfInBounds_toArray, List.set_cons_zero, List.set_cons_succ])
                  refine wpAnyH_take (i := 5) (v := .int .i64 bo.c) rfl (by kernel_rfl) (by kernel_rfl) (by kernel_rfl) (fun _ _ _ h => h) (Or.inl ⟨by rfl, fun w hSw => by (dsimp only at hSw; go_simp)⟩) hHeld ?_
                  (try simp only [Act.put, List.getElem_toArray, List.getElem_cons_succ, List.getElem_cons_zero, List.setIfInBounds_toArray, List.set_cons_zero, List.set_cons_succ])
                  refine wpAnyH_take (i := 6) (v := .bool false) rfl (by kernel_rfl) (by kernel_rfl) (by kernel_rfl) (fun _ _ _ h => h) (Or.inl ⟨by rfl, fun w hSw => by (dsimp only at hSw; go_simp)⟩) hHeld ?_
                  (try simp only [Act.put, List.getElem_toArray, List.getElem_cons_succ, List.getElem_cons_zero, List.setIfInBounds_toArray, List.set_cons_zero, List.set_cons_succ])
                  refine wpAnyH_take (i := 7) (v := .bool false) rfl (by kernel_rfl) (by kernel_rfl) (by kernel_rfl) (fun _ _ _ h => h) (Or.inl ⟨by rfl, fun w hSw => by (dsimp only at hSw; go_simp)⟩) hHeld ?_
                  (try simp only [Act.put, List.getElem_toArray, List.getElem_cons_succ, List.getElem_cons_zero, List.setIfInBounds_toArray, List.set_cons_zero, List.set_cons_succ])
                  refine wpAnyH_take (i := 8) (v := .pointer (some ⟨wr.heap.size + 1, 2, none⟩)) rfl (by kernel_rfl) (by kernel_rfl) (by kernel_rfl) (fun _ _ _ h => h) (Or.inl ⟨by rfl, fun w hSw => by (dsimp only at hSw; go_simp)⟩) hHeld ?_
                  (try simp only [Act.put, List.getElem_toArray, List.getElem_cons_succ, List.getElem_cons_zero, List.setIfInBounds_toArray, List.set_cons_zero, List.set_cons_succ])
                  refine wpAnyH_take (i := 9) (v := .int .i64 bo.c) rfl (by kernel_rfl) (by kernel_rfl) (by kernel_rfl) (fun _ _ _ h => h) (Or.inl ⟨by rfl, fun w hSw => by (dsimp only at hSw; go_simp)⟩) hHeld ?_
                  (try simp only [Act.put, List.getElem_toArray, List.getElem_cons_succ, List.getElem_cons_zero, List.setIfInBounds_toArray, List.set_cons_zero, List.set_cons_succ])
                  refine wpAnyH_take (i := 10) (v := .pointer (some ⟨q, 0, none⟩)) rfl (by kernel_rfl) (by kernel_rfl) (by kernel_rfl) (fun _ _ _ h => h) (Or.inl ⟨by rfl, fun w hSw => by (dsimp only at hSw; go_simp)⟩) hHeld ?_
                  (try simp only [Act.put, List.getElem_toArray, List.getElem_cons_succ, List.getElem_cons_zero, List.setIfInBounds_toArray, List.set_cons_zero, List.set_cons_succ])
                  refine wpAnyH_ready (rs := [11]) (by kernel_rfl) (by simp) (AllReadyH.cons rfl (fun K hK => ?_) AllReadyH.nil)
                  go_simp
                  refine Calls.mono (HLG.out _ ((Same.refl _ _).drew)) ?_
                  rintro r w5 ⟨rfl, k5⟩
                  go_wp2_with fail
                  refine hK.out _ _ (HCK.out _ (((Same.refl _ _).drew).trans' k5)) (fun hHeld1 => ?_)
                  clear hK K hHeld
                  (try simp only [Act.put, List.getElem_toArray, List.getElem_cons_succ, List.getElem_cons_zero, List.setIfInBounds_toArray, List.set_cons_zero, List.set_cons_succ])
                  refine wpAnyH_take (i := 12) (v := .bool false) rfl (by kernel_rfl) (by kernel_rfl) (by kernel_rfl) (fun _ _ _ h => h) (Or.inl ⟨by rfl, fun w hSw => by (dsimp only at hSw; go_simp)⟩) hHeld1 ?_
                  (try simp only [Act.put, List.getElem_toArray, List.getElem_cons_succ, List.getElem_cons_zero, List.setIfInBounds_toArray, List.set_cons_zero, List.set_cons_succ])
                  refine wpAnyH_take (i := 13) (v := .bool false) rfl (by kernel_rfl) (by kernel_rfl) (by kernel_rfl) (fun _ _ _ h => h) (Or.inl ⟨by rfl, fun w hSw => by (dsimp only at hSw; go_simp)⟩) hHeld1 ?_
                  (try simp only [Act.put, List.getElem_toArray, List.getElem_cons_succ, List.getElem_cons_zero, List.setIfInBounds_toArray, List.set_cons_zero, List.set_cons_succ])
                  refine wpAnyH_take (i := 14) (v := .bool false) rfl (by kernel_rfl) (by kernel_rfl) (by kernel_rfl) (fun _ _ _ h => h) (Or.inl ⟨by rfl, fun w hSw => by (dsimp only at hSw; go_simp)⟩) hHeld1 ?_
                  (try simp only [Act.put, List.getElem_toArray, List.getElem_cons_succ, List.getElem_cons_zero, List.setIfInBounds_toArray, List.set_cons_zero, List.set_cons_succ])
                  refine wpAnyH_done (by kernel_rfl) ?_ _
                  go_wp2_with fail
                  go_meet
                  exact ⟨rfl, ((Same.refl _ _).drew).trans' k5⟩
                case rest =>
                  obtain ⟨rfl, kz⟩ := hcut
                  obtain ⟨a0, a1, a2, a3, a4⟩ := HCL.out _ (Kept.to kz _)
                  have HF6 : Hid _ := HFN.out _ (Kept.to kz _) (Tri.on T3.out kz)
                  clear kz
                  go_wp2_with fail
                  go_meet
                  exact ⟨rfl, HF6.out⟩
          · have k1' : (bo.k == 1) = false := by simpa using k1
            by_cases k2 : bo.k = 2
            · have k2' : (bo.k == 2) = true := by simp [k2]
              have k3' : (bo.k == 3) = false := by simp [k2]
              clear k1 k2 HAL HFR
              unfold opO exO exV at *
              go_wp2_with fail
              go_quiet (fail)
              go_wp2_with fail
              refine Calls.mono (HTK.out _ ((Same.refl _ _).drewN _)) ?_
              rintro r w5 ⟨e, M', rfl, hE, hR, hw5, t5, k5⟩
              have ks5 := (Kept.to ((Same.refl _ _).drewN nq) _).trans' k5
              have hx5 := HXS.out _ ks5
              obtain ⟨a0, a1, a2, a3, a4⟩ := HCL.out _ ks5
              rcases hE with ⟨rfl, hy⟩ | ⟨he0, hno⟩
              · have HC6 : Hid _ := free_t t5 hx5 ⟨bo.f, bo.c⟩ R3.out
                have HR5 : Hid _ := hR
                have HY5 : Hid _ := hy
                have KS5 : Hid _ := ks5
                clear hR hy ks5 hx5 t5 k5 hw5
                unfold exV at HC6
                go_wp2_with fail
                refine Calls.mono HC6.out ?_
                rintro r w6 ⟨e', M2, rfl, -, hR6, hw6, t6, k6⟩
                have eL : M2 = L := take_free HWF.out hw6 HY5.out HR5.out hR6
                subst eL
                have ks6 := KS5.out.trans' k6
                obtain ⟨a0, a1, a2, a3, a4⟩ := HCL.out _ ks6
                have HF6 : Hid _ := HFN.out _ ks6 t6.swap
                clear hR6 hw6 t6 k6 ks6
                go_wp2_with fail
                go_meet
                exact ⟨rfl, HF6.out⟩
              · have he0' : (e == 0) = false := by simpa using he0
                have eM := hR.no hno
                subst eM
                have HC6 : Hid _ := take_t t5.swap hx5 ⟨bo.f, bo.c⟩ R3.out
                have HNO : Hid _ := hno
                have KS5 : Hid _ := ks5
                clear hR hno ks5 hx5 t5 k5 hw5 he0
                unfold exV at HC6
                go_wp2_with fail
                refine Calls.mono HC6.out ?_
                rintro r w6 ⟨e', M2, rfl, -, hR6, hw6, t6, k6⟩
                have eL := hR6.no HNO.out
                subst eL
                have ks6 := KS5.out.trans' k6
                obtain ⟨a0, a1, a2, a3, a4⟩ := HCL.out _ ks6
                have HF6 : Hid _ := HFN.out _ ks6 t6
                clear hR6 hw6 t6 k6 ks6
                go_wp2_with fail
                go_meet
                exact ⟨rfl, HF6.out⟩
            · have k2' : (bo.k == 2) = false := by simpa using k2
              by_cases k3 : bo.k = 3
              · have k3' : (bo.k == 3) = true := by simp [k3]
                clear k1 k2 k3 HAL HTK
                unfold opO exO exV at *
                go_wp2_with fail
                go_quiet (fail)
                go_wp2_with fail
                refine Calls.mono (HFR.out _ ((Same.refl _ _).drewN _)) ?_
                rintro r w5 ⟨e, M', rfl, hE, hR, hw5, t5, k5⟩
                have ks5 := (Kept.to ((Same.refl _ _).drewN nq) _).trans' k5
                have hx5 := HXS.out _ ks5
                obtain ⟨a0, a1, a2, a3, a4⟩ := HCL.out _ ks5
                rcases hE with ⟨rfl, hy⟩ | ⟨he0, hno⟩
                · have HC6 : Hid _ := take_t t5 hx5 ⟨bo.f, bo.c⟩ R3.out
                  have HR5 : Hid _ := hR
                  have HY5 : Hid _ := hy
                  have KS5 : Hid _ := ks5
                  clear hR hy ks5 hx5 t5 k5 hw5
                  unfold exV at HC6
                  go_wp2_with fail
                  refine Calls.mono HC6.out ?_
                  rintro r w6 ⟨e', M2, rfl, -, hR6, hw6, t6, k6⟩
                  have eL : M2 = L := free_take HWF.out hw6 HY5.out HR5.out hR6
                  subst eL
                  have ks6 := KS5.out.trans' k6
                  obtain ⟨a0, a1, a2, a3, a4⟩ := HCL.out _ ks6
                  have HF6 : Hid _ := HFN.out _ ks6 t6.swap
                  clear hR6 hw6 t6 k6 ks6
                  go_wp2_with fail
                  go_meet
                  exact ⟨rfl, HF6.out⟩
                · have he0' : (e == 0) = false := by simpa using he0
                  have eM := hR.no hno
                  subst eM
                  have HC6 : Hid _ := free_t t5.swap hx5 ⟨bo.f, bo.c⟩ R3.out
                  have HNO : Hid _ := hno
                  have KS5 : Hid _ := ks5
                  clear hR hno ks5 hx5 t5 k5 hw5 he0
                  unfold exV at HC6
                  go_wp2_with fail
                  refine Calls.mono HC6.out ?_
                  rintro r w6 ⟨e', M2, rfl, -, hR6, hw6, t6, k6⟩
                  have eL := hR6.no HNO.out
                  subst eL
                  have ks6 := KS5.out.trans' k6
                  obtain ⟨a0, a1, a2, a3, a4⟩ := HCL.out _ ks6
                  have HF6 : Hid _ := HFN.out _ ks6 t6
                  clear hR6 hw6 t6 k6 ks6
                  go_wp2_with fail
                  go_meet
                  exact ⟨rfl, HF6.out⟩
              · have k3' : (bo.k == 3) = false := by simpa using k3
                clear k1 k2 k3 HAL HTK HFR
                unfold opO exO at *
                go_wp2_with fail
                go_quiet (fail)
                go_wp2_with fail
                go_meet
                exact ⟨rfl, HFN.out _ (Kept.to ((Same.refl _ _).drewN _) _) (Tri.on T3.out ((Same.refl _ _).drewN _))⟩
        · have e1' : decide ((j : Int) < (mb : Int)) = false := by simp only [decide_eq_false_iff_not]; omega
          unfold opO at *
          go_wp2_with fail
          go_meet
          exact ⟨rfl, T1.out, Same.refl _ _⟩
      case rest =>
        obtain ⟨rfl, ht, ks⟩ := hcut
        have hop : wc.heap[wr.heap.size]? = some (opO o) := (ks.block _ (by simp) (fun h => h (.inr rfl))).trans (heap_new _ _)
        obtain ⟨a0, a1, a2⟩ := op_cells hop
        have hopl := lt_of_heap hop
        have hX1 : ∀ k, X1 w wr.heap.size k → k < wc.heap.size := fun k hk => by
          rcases hk with hk | hk
          · have h1 := ks.size; have h2 := KK.out.size; simp only [World.size_alloc] at h1; omega
          · omega
        obtain ⟨Y, y1, y2, y3⟩ := ht.both hX1 HAG.out
        have HS : Hid _ := step_any y1 y2 o Q3.out
        have HY3 : Hid _ := y3
        have KS : Hid _ := ks
        have HOPC : Hid _ := hop
        unfold opV at HS
        clear hop hX1 y1 y2 y3 ht ks
        go_wp2_with fail
        refine Calls.mono HS.out ?_
        rintro e w6 ⟨rfl, L', V, hb6, k6, hst⟩
        obtain ⟨t6, kx6⟩ := HY3.out _ _ _ hb6 k6
        have hop6 : w6.heap[wr.heap.size]? = some (opO o) := (kx6.block _ hopl (fun h => h (.inr rfl))).trans HOPC.out
        obtain ⟨b0, b1, b2⟩ := op_cells hop6
        have hop6l := lt_of_heap hop6
        have K6 : Hid (Same (fun k => ¬ X1 w wr.heap.size k) (wr.alloc (opO o)) w6) := KS.out.trans' kx6
        have hX6 : ∀ k, X1 w wr.heap.size k → k < w6.heap.size := fun k hk => by
          rcases hk with hk | hk
          · have h1 := K6.out.size; have h2 := KK.out.size; simp only [World.size_alloc] at h1; omega
          · omega
        have T6 : Hid _ := t6
        have AG6 : Hid _ := hb6.ag
        have WF6 : Hid _ := hb6.sp.wf
        have HST : Hid _ := hst
        have HDN : Hid (∀ W, Same (fun k => ¬ X1 w wr.heap.size k) w6 W → Tri (X1 w wr.heap.size) W p t q g N L' L' V → Rd w W p t q g N L' V) := fun W k h =>
          ⟨h.mono fun k e => .inl e, AG6.out, WF6.out, KO.out.trans (K6.out.trans' k) fun i hi e => e (.inl hi)⟩
        by_cases k1 : o.k = 1
        · have k1' : (o.k == 1) = true := by simp [k1]
          have k2' : (o.k == 2) = false := by simp [k1]
          have k3' : (o.k == 3) = false := by simp [k1]
          have HC : Hid _ := alloc_t t6.swap hX6 o.c
          have HK : Hid _ := hst.k1 k1
          clear k1 t6 kx6 hb6 k6 hst hop6 hX6
          go_wp2_with fail
          refine Calls.mono HC.out ?_
          rintro r w7 ⟨v, M', rfl, hR, hw7, t7, k7⟩
          have eM : M' = L' := hR.one hw7 WF6.out HK.out
          subst eM
          have hop7 : w7.heap[wr.heap.size]? = some (opO o) := (k7.block _ hop6l (fun h => h (.inr rfl))).trans ((K6.out.block _ (by simp) (fun h => h (.inr rfl))).trans (heap_new _ _))
          obtain ⟨d0, d1, d2⟩ := op_cells hop7
          have HD : Hid _ := HDN.out _ k7 t7.swap
          clear hR hw7 t7 k7 hop7
          go_wp2_with fail
          go_roundw
          case rel => exact ⟨j + 1, _, V, by omega, by simp, HD.out⟩
          case measure => simp only [intOf]; omega
        · have k1' : (o.k == 1) = false := by simpa using k1
          by_cases k2 : o.k = 2
          · have k2' : (o.k == 2) = true := by simp [k2]
            have k3' : (o.k == 3) = false := by simp [k2]
            have HC : Hid _ := take_t t6.swap hX6 ⟨o.f, o.c⟩ Q3.out
            have HK : Hid _ := hst.k2 k2
            unfold exV at HC
            clear k1 k2 t6 kx6 hb6 k6 hst hop6 hX6
            go_wp2_with fail
            refine Calls.mono HC.out ?_
            rintro r w7 ⟨e, M', rfl, -, hR, hw7, t7, k7⟩
            have eM : M' = L' := hR.one hw7 WF6.out HK.out
            subst eM
            have hop7 : w7.heap[wr.heap.size]? = some (opO o) := (k7.block _ hop6l (fun h => h (.inr rfl))).trans ((K6.out.block _ (by simp) (fun h => h (.inr rfl))).trans (heap_new _ _))
            obtain ⟨d0, d1, d2⟩ := op_cells hop7
            have HD : Hid _ := HDN.out _ k7 t7.swap
            clear hR hw7 t7 k7 hop7
            go_wp2_with fail
            go_roundw
            case rel => exact ⟨j + 1, _, V, by omega, by simp, HD.out⟩
            case measure => simp only [intOf]; omega
          · have k2' : (o.k == 2) = false := by simpa using k2
            by_cases k3 : o.k = 3
            · have k3' : (o.k == 3) = true := by simp [k3]
              have HC : Hid _ := free_t t6.swap hX6 ⟨o.f, o.c⟩ Q3.out
              have HK : Hid _ := hst.k3 k3
              unfold exV at HC
              clear k1 k2 k3 t6 kx6 hb6 k6 hst hop6 hX6
              go_wp2_with fail
              refine Calls.mono HC.out ?_
              rintro r w7 ⟨e, M', rfl, -, hR, hw7, t7, k7⟩
              have eM : M' = L' := hR.one hw7 WF6.out HK.out
              subst eM
              have HD : Hid _ := HDN.out _ k7 t7.swap
              clear hR hw7 t7 k7
              go_wp2_with fail
              go_roundw
              case rel => exact ⟨j + 1, _, V, by omega, by simp, HD.out⟩
              case measure => simp only [intOf]; omega
            · have k3' : (o.k == 3) = false := by simpa using k3
              have eL : L' = L := hst.k4 k1 k2 k3
              have HD : Hid (Rd w w6 p t q g N L' V) := HDN.out _ (Same.refl _ _) (by have := T6.out; rw [eL] at this ⊢; exact this)
              clear k1 k2 k3 t6 kx6 hb6 k6 hst hop6 hX6 eL
              go_wp2_with fail
              go_roundw
              case rel => exact ⟨j + 1, _, V, by omega, by simp, HD.out⟩
              case measure => simp only [intOf]; omega
    · have c1' : decide ((j : Int) < (m : Int)) = false := by simp only [decide_eq_false_iff_not]; omega
      have HB1 : Hid (∀ W, Kept wr W → ∃ Y, Both Y W p q g N L U) := fun W k => by
        obtain ⟨Y, y1, _⟩ := (htri.on k).both (fun k' hk => Nat.lt_of_lt_of_le hk (Nat.le_trans kk.size k.size)) hag
        exact ⟨Y, y1⟩
      have HB2 : Hid (∀ W, Kept wr W → ∃ Y, Both Y W t q g N L U) := fun W k => by
        obtain ⟨Y, y1, _⟩ := (htri.swap.on k).both (fun k' hk => Nat.lt_of_lt_of_le hk (Nat.le_trans kk.size k.size)) hag
        exact ⟨Y, y1⟩
      have KK : Hid _ := kk
      clear htri hag hwf kk
      obtain ⟨Y1, y1⟩ := HB1.out _ (Same.refl _ _)
      have HT1 : Hid _ := tells_any y1
      clear y1
      go_wp2_with fail
      refine Calls.mono HT1.out ?_
      rintro e w5 ⟨rfl, k5⟩
      obtain ⟨Y2, y2⟩ := HB2.out _ k5
      have HT2 : Hid _ := tells_any y2
      clear y2
      go_wp2_with fail
      refine Calls.mono HT2.out ?_
      rintro e w6 ⟨rfl, k6⟩
      go_wp2_with fail
      go_ret
      exact ⟨rfl, (KK.out.trans' k5).trans' k6⟩
end Go.Proofs.Ytfllilgadphlcaa
