/- What is proved: the law's own first call answers true and leaves what was there; the bounds that a machine's memory sets. -/
import Derived.Test.YtaiaahcblohknaaYRem
import Derived.Test.YtaiaahcblohknaaYFst
namespace Go.Proofs.Ytaiaahcblohknaa
open Go.RowKit

theorem kf_nil (k : ByteArray) : kf [] k = [] := rfl
theorem kf_one (k : ByteArray) (x : Sp) : kf [⟨k, x⟩] k = [x] := by simp [kf]
theorem codeI_nil {k : ByteArray} {x : Sp} (h1 : rightK k = true) (h2 : rightS x = true) : codeI [] k x = 0 := by
  unfold codeI
  rw [if_neg (by rw [h1]; decide), if_neg (by rw [h2]; decide), if_neg (by rw [kf_nil]; simp)]
theorem insI_nil {k : ByteArray} {x : Sp} (h1 : rightK k = true) (h2 : rightS x = true) : insI [] k x = [⟨k, x⟩] := by
  unfold insI
  rw [if_pos (codeI_nil h1 h2)]
  rfl
theorem High.one {t : Nat} (h : High 1 t) (h2 : t ≤ 1) : t = 1 := by
  obtain ⟨_, h3⟩ := h
  rcases (by omega : t = 0 ∨ t = 1) with rfl | rfl
  · simp at h3
  · rfl
theorem High.zero {t : Nat} (h2 : t ≤ 0) : t = 0 := by omega
def ka : ByteArray := ⟨#[97]⟩
def xa : Sp := ⟨2, 5, 0⟩
theorem StpP.kept {F : Nat → Prop} {w0 w w' : World} {fb : Nat} {A : List Ks} {bd : Nat} (h : StpP F w fb A bd w') (k : Kept w0 w) (hF : ∀ b, F b → w0.heap.size ≤ b) : ∃ F', Fo F' w' fb A bd ∧ (∀ b, F' b → w0.heap.size ≤ b) ∧ Kept w0 w' := by
  obtain ⟨F', h1, h2, h3⟩ := h
  refine ⟨F', h1, fun b hb => ?_, ?_⟩
  · rcases h2 b hb with h9 | h9
    · exact hF b h9
    · exact Nat.le_trans k.size h9
  · exact k.trans h3 fun i hi h9 => by have := hF i h9; omega
set_option maxRecDepth 100000 in
set_option maxHeartbeats 1600000 in
theorem anchor14 (w : World) : Calls Try.prog 5 #[] w fun r w' => r = .returned (.bool true) ∧ Kept w w' := by
  have HN : Hid _ := new14 w
  have q : ∀ (w : World) (a : Addr), (binOp .eql 24 (.pointer (some a)) (.pointer none)).run Try.prog w = .ok (.bool false) w := fun w a => by go_simp
  go_enter Try.func5, Try.ntmps5
  go_wp2_with fail
  refine Calls.mono HN.out ?_
  rintro r w1 ⟨fb, F, rfl, hf, hF, k1⟩
  have r1 : rightK ka = true := by decide
  have r2 : rightS xa = true := by decide
  have HI : Hid _ := insert14 hf ka (by decide) xa (by omega)
  rw [codeI_nil r1 r2, insI_nil r1 r2] at HI
  have HK : Hid (∀ w', StpP F w1 fb [⟨ka, xa⟩] 1 w' → ∃ F', Fo F' w' fb [⟨ka, xa⟩] 1 ∧ (∀ b, F' b → w.heap.size ≤ b) ∧ Kept w w') := fun w' h9 => h9.kept k1 hF
  clear hf hF k1 HN r1 r2
  go_wp2_with fail
  refine Calls.mono HI.out ?_
  rintro r w2 ⟨rfl, h2⟩
  obtain ⟨F', f2, -, k2⟩ := HK.out _ h2
  have hov : ovK [⟨ka, xa⟩] ka 4 9 = [xa] := by rw [ovK, kf_one]; decide
  have HFI : Hid _ := first14 f2 ka (by decide) 4 9
  rw [hov] at HFI
  have HK2 : Hid _ := k2
  have HF2 : Hid _ := f2
  clear h2 f2 k2 HK HI hov
  go_wp2_with fail
  refine Calls.mono HFI.out ?_
  rintro r w3 ⟨rfl, k3⟩
  have HK3 : Hid (Kept w w3) := Same.trans' HK2.out k3
  have HF3 : Hid (Fo F' w3 fb [⟨ka, xa⟩] 1) := Fo.on HF2.out k3
  have e1 : bst [xa] = some xa := rfl
  rw [e1]
  have e2 : spV (fst (some xa)) = .agg #[.int .i64 2, .int .i64 5, .int .i64 0] := rfl
  rw [e2]
  have HA4 : Hid _ := (Same.refl (fun _ => False) w3).alloc (spO ⟨2, 5, 0⟩)
  have HC4 : Hid _ := count14 (Fo.on HF3.out HA4.out)
  have HH4 : Hid _ := height14 (Fo.on HF3.out HA4.out) ka (by decide)
  rw [kf_one] at HH4
  clear k3 e1 e2 HFI
  simp only [Option.isSome_some]
  go_wp2_with fail
  refine Calls.mono HC4.out ?_
  rintro r w4 ⟨rfl, rfl⟩
  go_wp2_with fail
  refine Calls.mono HH4.out ?_
  rintro r w5 ⟨t, rfl, h5, h6, k5⟩
  obtain rfl : t = 1 := h5.one h6
  have HK5 : Hid _ := k5
  clear h5 h6 k5
  go_wp2_with fail
  go_ret
  exact ⟨rfl, Same.trans' (Same.trans' HK3.out HA4.out) HK5.out⟩
end Go.Proofs.Ytaiaahcblohknaa
