/- What is proved: Insert answers as the document says and puts a right span in, or leaves the forest as it is; the forest lies in memory, no more spans were put in than memory lets. -/
import Derived.Test.YtaiaahcblohknaaYNew
import Derived.Test.YtaiaahcblohknaaYPut
import Derived.Deep.RegionWith
namespace Go.Proofs.Ytaiaahcblohknaa
open Go.RowKit

/-- Which keys are right. -/
def rightK (k : ByteArray) : Bool := decide (0 < k.size ∧ k.size ≤ 8)
open Classical in
/-- What Insert answers. -/
noncomputable def codeI (A : List Ks) (k : ByteArray) (x : Sp) : Int := if rightK k = false then 130 else if rightS x = false then 140 else if x ∈ kf A k then 141 else 0
open Classical in
/-- What Insert leaves. -/
noncomputable def insI (A : List Ks) (k : ByteArray) (x : Sp) : List Ks := if codeI A k x = 0 then rput A ⟨k, x⟩ else A
theorem empty_iff (v : ByteArray) : v.toList.isEmpty = true ↔ v.size = 0 := by
  rw [ByteArray.toList_eq]
  obtain ⟨⟨l⟩⟩ := v
  cases l <;> simp [ByteArray.size]
theorem empty_false {k : ByteArray} (h : k.size ≠ 0) : k.toList.isEmpty = false := by
  cases e : k.toList.isEmpty
  · rfl
  · exact absurd ((empty_iff k).1 e) h
/-- Behind grow. -/
structure Gs (F : Nat → Prop) (w w1 : World) (fb mb : Nat) (c e : Int) (D : DataW Value) (R : List UInt8 → PT) (q : Nat) (x : Sp) (bd g : Nat) : Prop where
  box : w1.heap[g]? = some (spO x)
  ex : ∃ nb' cap' fr' N' FL' F', (∀ b, F' b → b ≠ g) ∧ Fm F' w1 fb nb' cap' fr' mb c e N' D R ∧ Grown N' fr' R FL' q x ∧ N'.length ≤ bd + 2 ∧ (∀ b, F' b → F b ∨ w.heap.size ≤ b) ∧ Same F w w1
/-- Behind the new root. -/
structure Ps (F : Nat → Prop) (w w3 : World) (fb mb : Nat) (c e : Int) (A' : List Ks) (bd g : Nat) (x : Sp) : Prop where
  box : w3.heap[g]? = some (spO x)
  ex : ∃ nb' cap' fr' N' D' R' FL' F', Fm F' w3 fb nb' cap' fr' mb c e N' D' R' ∧ Fp N' fr' R' FL' A' ∧ N'.length ≤ bd + 2 ∧ (∀ b, F' b → F b ∨ w.heap.size ≤ b) ∧ Same F w w3
theorem Ps.cells {F : Nat → Prop} {w w3 : World} {fb mb : Nat} {c e : Int} {A' : List Ks} {bd g : Nat} {x : Sp} (h : Ps F w w3 fb mb c e A' bd g x) : (w3.cell? ⟨fb, 3, none⟩ = some (.int .i64 c) ∧ w3.cell? ⟨fb, 4, none⟩ = some (.int .i64 e)) ∧ (∀ o, w3.frozen? ⟨fb, o, none⟩ = false) ∧ fb < w3.heap.size := by
  obtain ⟨nb', cap', fr', N', D', R', FL', F', h1, -⟩ := h.ex
  obtain ⟨⟨-, -, -, c3, c4⟩, hb, -⟩ := h1.ar.cells
  exact ⟨⟨c3, c4⟩, fun o => h1.ar.unfrozen o, hb⟩
theorem Fm.setC {F : Nat → Prop} {w : World} {fb nb cap fr mb : Nat} {c e : Int} {N : List Nd} {D : DataW Value} {R : List UInt8 → PT} (h : Fm F w fb nb cap fr mb c e N D R) (f : Int) : Fm F (w.setCell ⟨fb, 3, none⟩ (.int .i64 f)) fb nb cap fr mb f e N D R :=
  h.turn0 (h.ar.setC f) (Same.setCell (S := fun k => k = nb ∨ k = fb) (Same.refl _ w) ⟨fb, 3, none⟩ (.inr (.inr rfl)) _)
theorem Fm.setE {F : Nat → Prop} {w : World} {fb nb cap fr mb : Nat} {c e : Int} {N : List Nd} {D : DataW Value} {R : List UInt8 → PT} (h : Fm F w fb nb cap fr mb c e N D R) (f : Int) : Fm F (w.setCell ⟨fb, 4, none⟩ (.int .i64 f)) fb nb cap fr mb c f N D R :=
  h.turn0 (h.ar.setE f) (Same.setCell (S := fun k => k = nb ∨ k = fb) (Same.refl _ w) ⟨fb, 4, none⟩ (.inr (.inr rfl)) _)
theorem Fm.same_in {F : Nat → Prop} {w : World} {fb nb cap fr mb : Nat} {c e : Int} {N : List Nd} {D : DataW Value} {R : List UInt8 → PT} (h : Fm F w fb nb cap fr mb c e N D R) {S : Nat → Prop} {a b : World} (hs : Same S a b) (hS : ∀ k, S k → k = nb ∨ k = fb ∨ k = mb) : Same F a b :=
  hs.mono fun k _ hk => by
    rcases hS k hk with rfl | rfl | rfl
    · exact h.fn
    · exact h.ff
    · exact h.fm
theorem mem_dec {A : List Ks} {k : ByteArray} {x : Sp} {T : PT} (hl : T.tr.list = kf A k) (hs : Srt (kf A k)) : T.tr.has x = true ↔ x ∈ kf A k := by
  rw [← hl] at hs ⊢
  exact Tr.has_iff hs x
/-- The last two stores. -/
theorem Ps.done {F : Nat → Prop} {w w3 : World} {fb mb : Nat} {e : Int} {A : List Ks} {k : ByteArray} {x : Sp} {bd g : Nat} (h : Ps F w w3 fb mb A.length e (rput A ⟨k, x⟩) bd g x) (hf : F fb) (he : ∀ y ∈ A, e ≤ y.s.t) (hr : ∀ y ∈ A, rightS y.s = true) (hx : rightS x = true) (hA : A.length ≤ bd) :
    StpP F w fb (rput A ⟨k, x⟩) (bd + 1) (World.drew ((w3.setCell ⟨fb, 3, none⟩ (.int .i64 ((A.length : Int) + 1))).setCell ⟨fb, 4, none⟩ (.int .i64 (min e x.t)))) := by
  obtain ⟨nb', cap', fr', N', D', R', FL', F', h1, h2, h3, h4, h5⟩ := h.ex
  have h6 := ((h1.setC ((A.length : Int) + 1)).setE (min e x.t)).on (Same.refl _ _).drew
  have hlen : ((rput A ⟨k, x⟩).length : Int) = (A.length : Int) + 1 := by rw [rput_length]; simp
  rw [← hlen] at h6
  refine ⟨F', ⟨nb', cap', fr', mb, min e x.t, N', D', R', FL', by rw [← hlen]; exact h6, h2, fun y hy => ?_, fun y hy => ?_, by omega, by rw [rput_length]; omega⟩, h4, ?_⟩
  · rcases rput_mem hy with rfl | hy
    · exact Int.min_le_right _ _
    · exact Int.le_trans (Int.min_le_left _ _) (he y hy)
  · rcases rput_mem hy with rfl | hy
    · exact hx
    · exact hr y hy
  · exact Same.drew (Same.setCell (Same.setCell h5 ⟨fb, 3, none⟩ (.inr hf) _) ⟨fb, 4, none⟩ (.inr hf) _)
set_option maxRecDepth 100000 in
set_option maxHeartbeats 3200000 in
theorem insert14 {F : Nat → Prop} {w : World} {fb : Nat} {A : List Ks} {bd : Nat} (h : Fo F w fb A bd) (k : ByteArray) (hk : k.size ≤ maxLen) (x : Sp) (hbd : bd + 2 ≤ 3500000000000) :
    Calls Try.prog 12 #[.pointer (some ⟨fb, 0, none⟩), .string k, spV x] w fun r w' => r = .returned (.int .i64 (codeI A k x)) ∧ StpP F w fb (insI A k x) (bd + 1) w' := by
  have HK0 : Hid _ := (Same.refl (fun _ => False) w).alloc (spO x)
  have HG : Hid _ := heap_new w (spO x)
  have HS : Hid _ := h
  clear h
  have HKL : Hid _ := hk
  have hks : (k.size : Int) ≤ 9223372036854775807 := by unfold maxLen at hk; omega
  by_cases h1 : rightK k = false
  · have hc : codeI A k x = 130 := by unfold codeI; rw [if_pos h1]
    have hi : insI A k x = A := by unfold insI; rw [if_neg (by rw [hc]; decide)]
    rw [hc, hi]
    have h1' : ¬ (0 < k.size ∧ k.size ≤ 8) := by simpa [rightK] using h1
    clear hc hi h1 hbd
    by_cases h0 : k.size = 0
    · have e0 : k.toList.isEmpty = true := (empty_iff k).2 h0
      clear h0 h1'
      go_enter Try.func12, Try.ntmps12
      go_wp2_with fail
      go_ret
      exact ⟨rfl, (StpP.stays HS.out HK0.out).up (by omega)⟩
    · have e0 : k.toList.isEmpty = false := empty_false h0
      have e1 : (8 : Int) < (k.size : Int) := by omega
      have e2 : decide ((8 : Int) < (k.size : Int)) = true := decide_eq_true e1
      clear h0 h1'
      go_enter Try.func12, Try.ntmps12
      go_wp2_with fail
      go_ret
      exact ⟨rfl, (StpP.stays HS.out HK0.out).up (by omega)⟩
  · have h1' : 0 < k.size ∧ k.size ≤ 8 := by simpa [rightK] using h1
    have e0 : k.toList.isEmpty = false := empty_false (by omega)
    have e1 : ¬ (8 : Int) < (k.size : Int) := by omega
    have e2 : decide ((8 : Int) < (k.size : Int)) = false := decide_eq_false e1
    have HR : Hid (∀ W, _) := fun W => right14 x W
    clear h1'
    generalize hcd : codeI A k x = cd
    generalize hin : insI A k x = B
    have HCD : Hid _ := hcd
    have HIN : Hid _ := hin
    have HBD : Hid _ := hbd
    clear hcd hin hbd
    have HH : Hid (∀ W, Kept w W → _) := fun W kk => (show Fo F W fb A bd from Fo.on HS.out kk)
    obtain ⟨xf, xt, xi⟩ := x
    unfold spV
    simp only at HK0 HG ⊢
    go_enter Try.func12, Try.ntmps12
    go_upto_region 3 with fail
    generalize w.alloc (spO ⟨xf, xt, xi⟩) = W at HK0 HG ⊢
    generalize hgg : w.heap.size = g at HG ⊢
    have HGG : Hid _ := hgg
    clear hgg
    obtain ⟨x0, x1, x2⟩ := sp_cells HG.out
    simp only at x0 x1 x2
    by_cases h2 : rightS ⟨xf, xt, xi⟩ = false
    · have hc : codeI A k ⟨xf, xt, xi⟩ = 140 := by unfold codeI; rw [if_neg h1, if_pos h2]
      have hi : insI A k ⟨xf, xt, xi⟩ = A := by unfold insI; rw [if_neg (by rw [hc]; decide)]
      have EC : Hid (cd = 140) := (show codeI A k _ = cd from HCD.out).symm.trans hc
      have EB : Hid (B = A) := (show insI A k _ = B from HIN.out).symm.trans hi
      rw [h2] at HR
      clear hc hi h1 h2
      go_wp2_with fail
      refine Calls.mono (HR.out _) ?_
      rintro r w1 ⟨rfl, k1⟩
      go_wp2_with fail
      go_ret
      exact ⟨by rw [show cd = 140 from EC.out]; rfl, by rw [show B = A from EB.out]; exact (StpP.stays HS.out (Same.trans' HK0.out k1)).up (by omega)⟩
    · have h2' : rightS ⟨xf, xt, xi⟩ = true := by simpa using h2
      rw [h2'] at HR
      have H2 : Hid _ := h2'
      have H1 : Hid (rightK k = true) := by
        show rightK k = true
        simpa using h1
      clear h2 h2' h1
      go_wp2_with fail
      refine Calls.mono (HR.out _) ?_
      rintro r w1 ⟨rfl, k1⟩
      have K1 : Hid (Kept w w1) := Same.trans' HK0.out k1
      have HG1 : Hid (w1.heap[g]? = some (spO ⟨xf, xt, xi⟩)) := (k1.block g (lt_of_heap HG.out) (fun e => e)).trans HG.out
      clear k1 x0 x1 x2 HR
      obtain ⟨nb, cap, fr, mb, e, N, D, R, FL, hm, hp, he, hr, hN, hA⟩ := HS.out
      obtain ⟨⟨-, -, f2, -⟩, hfl, -⟩ := (hm.on K1.out).ar.cells
      have hfd : ∀ W, Kept w W → (Instr.lookup 53 (.map (some mb)) (.string k) false).run Try.prog W = .ok (.int .i64 ((R k.toList).root : Nat)) W := fun W kk => (hm.on kk).find HKL.out
      have hfd1 := hfd w1 K1.out
      have HHAS : Hid (∀ W, Kept w W → Calls Try.prog 28 #[.pointer (some ⟨fb, 0, none⟩), .int .i64 ((R k.toList).root : Nat), spV ⟨xf, xt, xi⟩] W fun r w' => r = .returned (.bool ((R k.toList).tr.has ⟨xf, xt, xi⟩)) ∧ Kept w w') := fun W kk => (has14 (hm.on kk).ar (hp.lay k.toList) hp.z ⟨xf, xt, xi⟩).mono fun r w' h9 => ⟨h9.1, Same.trans' kk h9.2⟩
      have hmem := mem_dec (x := ⟨xf, xt, xi⟩) (hp.lst k) (hp.srt k)
      have HE : Hid _ := he
      have HRT : Hid _ := hr
      have HBX : Hid (∀ W1, Kept w1 W1 → Kept w1 W1 ∧ W1.cell? ⟨g, 0, none⟩ = some (.int .i64 xf) ∧ W1.cell? ⟨g, 1, none⟩ = some (.int .i64 xt) ∧ W1.cell? ⟨g, 2, none⟩ = some (.int .i64 xi)) := fun W1 k9 => ⟨k9, sp_cells ((k9.block g (lt_of_heap HG1.out) (fun e => e)).trans HG1.out)⟩
      have HHAS2 : Hid (∀ W1, Kept w1 W1 → Calls Try.prog 28 #[.pointer (some ⟨fb, 0, none⟩), .int .i64 ((R k.toList).root : Nat), .agg #[.int .i64 xf, .int .i64 xt, .int .i64 xi]] W1 fun r w' => r = .returned (.bool ((R k.toList).tr.has ⟨xf, xt, xi⟩)) ∧ Kept w w' ∧ Kept w1 w') := fun W1 k9 => (has14 (hm.on (Same.trans' K1.out k9)).ar (hp.lay k.toList) hp.z ⟨xf, xt, xi⟩).mono fun r w' h9 => ⟨h9.1, Same.trans' (Same.trans' K1.out k9) h9.2, Same.trans' k9 h9.2⟩
      obtain ⟨-, x0, x1, x2⟩ := HBX.out w1 (Same.refl _ w1)
      have HM : Hid _ := hm
      have HP : Hid _ := hp
      have HNL : Hid (N.length ≤ bd + 1 ∧ A.length ≤ bd) := ⟨hN, hA⟩
      have HFF : Hid (F fb) := hm.ff
      by_cases h3 : (R k.toList).tr.has ⟨xf, xt, xi⟩ = true
      · have hc : codeI A k ⟨xf, xt, xi⟩ = 141 := by unfold codeI; rw [if_neg (by rw [show rightK k = true from H1.out]; decide), if_neg (by rw [show rightS _ = true from H2.out]; decide), if_pos (hmem.1 h3)]
        have hi : insI A k ⟨xf, xt, xi⟩ = A := by unfold insI; rw [if_neg (by rw [hc]; decide)]
        have EC : Hid (cd = 141) := (show codeI A k _ = cd from HCD.out).symm.trans hc
        have EB : Hid (B = A) := (show insI A k _ = B from HIN.out).symm.trans hi
        rw [h3] at HHAS2
        clear hc hi h3 hmem hm hp he hr hN hA hfd HHAS
        generalize (R k.toList).root = rr at *
        go_wp2_with fail
        go_region_held3 (fun w' => Kept w1 w' ∧ w'.cell? ⟨g, 0, none⟩ = some (.int .i64 xf) ∧ w'.cell? ⟨g, 1, none⟩ = some (.int .i64 xt) ∧ w'.cell? ⟨g, 2, none⟩ = some (.int .i64 xi))
          (exact HBX.out _ (by (repeat (first | assumption | exact Same.refl _ _ | apply Same.alloc | apply Same.drew | apply Same.drewN)); done))
          ((go_at_call 28; refine Calls.mono (HHAS2.out _ (by (repeat (first | assumption | exact Same.refl _ _ | apply Same.alloc | apply Same.drew | apply Same.drewN)); done)) ?_; rintro r w2 ⟨rfl, k2, k3⟩))
        all_goals
          go_wp2_with fail
          go_ret
          exact ⟨by rw [show cd = 141 from EC.out]; rfl, by rw [show B = A from EB.out]; exact (StpP.stays HS.out k2).up (by omega)⟩
      · have hn3 : ¬ (⟨xf, xt, xi⟩ : Sp) ∈ kf A k := fun h9 => h3 (hmem.2 h9)
        have hc : codeI A k ⟨xf, xt, xi⟩ = 0 := by unfold codeI; rw [if_neg (by rw [show rightK k = true from H1.out]; decide), if_neg (by rw [show rightS _ = true from H2.out]; decide), if_neg hn3]
        have hi : insI A k ⟨xf, xt, xi⟩ = rput A ⟨k, ⟨xf, xt, xi⟩⟩ := by unfold insI; rw [if_pos hc]
        have EC : Hid (cd = 0) := (show codeI A k _ = cd from HCD.out).symm.trans hc
        have EB : Hid (B = rput A ⟨k, ⟨xf, xt, xi⟩⟩) := (show insI A k _ = B from HIN.out).symm.trans hi
        have h3' : (R k.toList).tr.has ⟨xf, xt, xi⟩ = false := by simpa using h3
        have hxr : 0 ≤ xf ∧ xf ≤ xt ∧ xt ≤ 1099511627776 ∧ 0 ≤ xi ∧ xi < 4096 := by have h9 := H2.out; simpa [rightS] using h9
        have hsz : Go.Maps.size D ≤ A.length := hm.keys_le hp.lst
        have hbd : bd + 2 ≤ 3500000000000 := HBD.out
        have hlen : (R k.toList).tr.sz ≤ A.length := by
          unfold Tr.sz
          rw [hp.lst]
          unfold kf
          rw [List.length_map]
          exact List.length_filter_le _ _
        rw [h3'] at HHAS2
        have HGR : Hid (∀ W, Kept w W → W.heap[g]? = some (spO ⟨xf, xt, xi⟩) → Calls Try.prog 30 #[.pointer (some ⟨fb, 0, none⟩), .agg #[.int .i64 xf, .int .i64 xt, .int .i64 xi]] W fun r w2 => ∃ q : Nat, r = .returned (.int .i64 q) ∧ w2.cell? ⟨fb, 2, none⟩ = some (.map (some mb)) ∧ fb < w2.heap.size ∧ Gs F w w2 fb mb A.length e D R q ⟨xf, xt, xi⟩ bd g) := fun W kk hbox => by
          have hmW := hm.on kk
          have hgw : w.heap.size = g := HGG.out
          have hFg : ∀ b, F b → b ≠ g := fun b hb => by have := hm.lt b hb; omega
          have fin : ∀ (q nb' cap' fr' : Nat) (N' : List Nd) FL' (w2 : World), Ar w2 fb nb' cap' fr' (.map (some mb)) A.length e N' → (nb' = nb ∨ W.heap.size ≤ nb') → Same (fun k => k = nb ∨ k = fb) W w2 → Grown N' fr' R FL' q ⟨xf, xt, xi⟩ → N'.length ≤ bd + 2 → w2.cell? ⟨fb, 2, none⟩ = some (.map (some mb)) ∧ fb < w2.heap.size ∧ Gs F w w2 fb mb A.length e D R q ⟨xf, xt, xi⟩ bd g := fun q nb' cap' fr' N' FL' w2 a2 a3 a4 a5 a6 => by
            have hsF : Same F W w2 := hmW.same_in a4 fun k hk => by rcases hk with hk | hk; exact .inl hk; exact .inr (.inl hk)
            refine ⟨a2.cells.1.2.2.1, a2.cells.2.1, (hsF.block g (lt_of_heap hbox) (fun h9 => hFg g h9 rfl)).trans hbox, ⟨nb', cap', fr', N', FL', _, fun b hb => ?_, hmW.turn a2 a4 a3, a5, a6, fun b hb => ?_, (Kept.to kk _).trans' hsF⟩⟩
            · rcases hb with hb | rfl
              · exact hFg b hb
              · rcases a3 with rfl | a3
                · exact hFg _ hmW.fn
                · have := lt_of_heap hbox; omega
            · rcases hb with hb | rfl
              · exact .inl hb
              · rcases a3 with rfl | a3
                · exact .inl hmW.fn
                · exact .inr (Nat.le_trans kk.size a3)
          by_cases hf0 : fr = 0
          · subst hf0
            refine (Ytaiaahcblohknaa.grow_new hmW.ar ⟨xf, xt, xi⟩ ⟨by show xt < _; omega, by show _ < xt; omega⟩ (by omega)).mono ?_
            rintro r w2 ⟨q, nb', cap', fr', N', rfl, a2, -, a3, a4, a5⟩
            rcases a5 with ⟨-, rfl, rfl, rfl⟩ | ⟨hne, -⟩
            · exact ⟨_, rfl, fin _ _ _ _ _ [] w2 a2 a3 a4 (hp.grow_new _) (by simp; omega)⟩
            · exact absurd rfl hne
          · obtain ⟨m, hm9⟩ := hp.free_node hf0
            refine (Ytaiaahcblohknaa.grow_free hmW.ar ⟨xf, xt, xi⟩ ⟨by show xt < _; omega, by show _ < xt; omega⟩ hf0 m hm9).mono ?_
            rintro r w2 ⟨q, nb', cap', fr', N', rfl, a2, -, a3, a4, a5⟩
            rcases a5 with ⟨h9, -⟩ | ⟨-, rfl, rfl, rfl, m', hm', rfl⟩
            · exact absurd h9 hf0
            · obtain ⟨FL', hgw⟩ := hp.grow_free hf0 hm' ⟨xf, xt, xi⟩
              exact ⟨_, rfl, fin _ _ _ _ _ FL' w2 a2 a3 a4 hgw (by simp; omega)⟩
        have HPT : Hid (∀ (w2 : World) (q : Nat), Gs F w w2 fb mb A.length e D R q ⟨xf, xt, xi⟩ bd g → Calls Try.prog 29 #[.pointer (some ⟨fb, 0, none⟩), .int .i64 ((R k.toList).root : Nat), .int .i64 q] w2 fun r w3 => ∃ (v : Nat) (w4 : World), r = .returned (.int .i64 v) ∧ w3.cell? ⟨fb, 2, none⟩ = some (.map (some mb)) ∧ fb < w3.heap.size ∧ (Instr.mapUpdate 53 (.map (some mb)) (.string k) (.int .i64 v)).run Try.prog w3 = .ok () w4 ∧ Ps F w w4 fb mb A.length e (rput A ⟨k, ⟨xf, xt, xi⟩⟩) bd g ⟨xf, xt, xi⟩) := fun w2 q G => by
          obtain ⟨nb', cap', fr', N', FL', F', gg, g1, g2, g3, g4, g5⟩ := G.ex
          have hLf : Lay N' (leaf q ⟨xf, xt, xi⟩) := ⟨g2.q0, g2.at_, trivial, trivial⟩
          refine (put14 fb nb' cap' fr' _ _ _ q ⟨xf, xt, xi⟩ (R k.toList) w2 N' g1.ar (g2.lay _) g2.z hLf (List.nodup_cons.2 ⟨g2.qR _, hp.nd _⟩) (by rw [hp.lst]; exact hn3) (by omega)).mono ?_
          rintro r w3 ⟨T', N'', rfl, f1, f2', f3⟩
          have g6 := g1.turn0 f1.ar (f1.same.mono fun _ _ h9 => .inl h9)
          have hT' : T' ≠ .nil := fun e9 => by rw [e9] at f3; simpa [PT.prs] using f3.length_eq
          obtain ⟨w4, hrun, g7, g8⟩ := g6.lays HKL.out (by unfold maxLen; omega) T' hT'
          have hin : ∀ b, b < w.heap.size → F' b → F b := fun b hb hF' => by
            rcases g4 b hF' with h9 | h9
            · exact h9
            · omega
          have s1 : Same F' w2 w3 := g1.same_in f1.same (fun k hk => .inl hk)
          have s2 : Same F' w3 w4 := g1.same_in g8 (fun k hk => .inr (.inr hk))
          exact ⟨_, w4, rfl, g6.ar.cells.1.2.2.1, g6.ar.cells.2.1, hrun, (s2.block g (Nat.lt_of_lt_of_le (lt_of_heap G.box) s1.size) (fun h9 => gg g h9 rfl)).trans ((s1.block g (lt_of_heap G.box) (fun h9 => gg g h9 rfl)).trans G.box), ⟨nb', cap', fr', N'', _, _, FL', F', g7, hp.insert g2 f1.ch f1.lay f2' f3 hn3, by rw [f1.ch.len]; exact g3, g4, (g5.trans s1 hin).trans s2 hin⟩⟩
        have HDN : Hid (∀ w4, Ps F w w4 fb mb A.length e (rput A ⟨k, ⟨xf, xt, xi⟩⟩) bd g ⟨xf, xt, xi⟩ → StpP F w fb (rput A ⟨k, ⟨xf, xt, xi⟩⟩) (bd + 1) (World.drew ((w4.setCell ⟨fb, 3, none⟩ (.int .i64 ((A.length : Int) + 1))).setCell ⟨fb, 4, none⟩ (.int .i64 (min e xt))))) := fun w4 hP => hP.done hm.ff he hr H2.out hA
        have hal : A.length < 4611686018427387904 := by omega
        clear hc hi h3 h3' hmem hm hp he hr hN hA hfd HHAS hn3 hxr hsz hbd hlen
        generalize (R k.toList).root = rr at *
        generalize hAL : A.length = al at *
        clear hAL
        go_wp2_with fail
        go_region_held3 (fun w' => Kept w1 w' ∧ w'.cell? ⟨g, 0, none⟩ = some (.int .i64 xf) ∧ w'.cell? ⟨g, 1, none⟩ = some (.int .i64 xt) ∧ w'.cell? ⟨g, 2, none⟩ = some (.int .i64 xi))
          (exact HBX.out _ (by (repeat (first | assumption | exact Same.refl _ _ | apply Same.alloc | apply Same.drew | apply Same.drewN)); done))
          ((go_at_call 28; refine Calls.mono (HHAS2.out _ (by (repeat (first | assumption | exact Same.refl _ _ | apply Same.alloc | apply Same.drew | apply Same.drewN)); done)) ?_; rintro r w2 ⟨rfl, k2, k3⟩))
        all_goals
          have hbx2 := (k3.block g (lt_of_heap HG1.out) (fun e => e)).trans HG1.out
          have HBX2 : Hid _ := hbx2
          have K2 : Hid _ := k2
          clear x0 x1 x2
          obtain ⟨x0, x1, x2⟩ := sp_cells hbx2
          simp only at x0 x1 x2
          have hm2 := Fm.on HM.out k2
          clear f2
          obtain ⟨⟨-, -, f2, -⟩, hfl2, -⟩ := hm2.ar.cells
          clear hm2 hbx2 k2 k3
          go_wp2_with fail
          go_region_with ((first
            | (go_at_call 30; refine Calls.mono (HGR.out _ (by (repeat (first | exact K2.out | apply Same.drew | apply Same.drewN)); done) HBX2.out) ?_; rintro r w5 ⟨q, rfl, q2, q3, G⟩; have HG5 : Hid _ := HPT.out _ _ G; clear G)
            | (go_at_call 29; refine Calls.mono HG5.out ?_; rintro r w6 ⟨v, w7, rfl, p2, p3, p4, P7⟩; have HP7 : Hid (Ps F w w7 fb mb al e _ bd g _) := P7; clear P7)))
          all_goals
            clear x0 x1 x2 f2 q2 q3 p2 p3 p4 hfl2 HG5
            obtain ⟨⟨c3, c4⟩, cz, cb⟩ := HP7.out.cells
            obtain ⟨x0, x1, x2⟩ := sp_cells HP7.out.box
            simp only at x0 x1 x2
            have HFN := HDN.out _ HP7.out
            have HFN2 : Hid _ := HFN
            have nfg : ¬ fb = g := by
              have h8 : w.heap.size = g := HGG.out
              have h9 := (Fm.lt HM.out) fb HFF.out
              omega
            have nfg2 : ¬ g = fb := fun e9 => nfg e9.symm
            clear HFN HP7
            go_wp2_with fail
            go_region
            all_goals
              go_wp2_with fail
              go_ret
              exact ⟨by rw [show cd = 0 from EC.out]; rfl, by rw [show B = _ from EB.out]; exact HFN2.out⟩
end Go.Proofs.Ytaiaahcblohknaa
