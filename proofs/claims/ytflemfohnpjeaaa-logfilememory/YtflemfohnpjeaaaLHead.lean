/- What is proved: a scanner's readHead, readTotal and readBody: what they leave; the bounds that a machine's memory sets. -/
import Derived.Test.YtflemfohnpjeaaaLNum
import Derived.Test.YtflemfohnpjeaaaRArg
namespace Go.Proofs.Ytflemfohnpjeaaa
open Go.RowKit

section
variable {base : Nat} {w : World} {sb : Nat} {v : Value} {part : Int} {r : List Int} {rd ct : Nat} {en : Bool} {er : Int}
theorem mg_step {i : Nat} {x y : Int} (hx : head4[i]? = some x) (hy : r[i]? = some y) : mg (head4.drop i) (r.drop i) i = if y = x then mg (head4.drop (i + 1)) (r.drop (i + 1)) (i + 1) else some (i, 70) := by
  have e1 : head4.drop i = x :: head4.drop (i + 1) := by
    obtain ⟨h, rfl⟩ := List.getElem?_eq_some_iff.1 hx
    exact List.drop_eq_getElem_cons h
  have e2 : r.drop i = y :: r.drop (i + 1) := by
    obtain ⟨h, rfl⟩ := List.getElem?_eq_some_iff.1 hy
    exact List.drop_eq_getElem_cons h
  rw [e1, e2]
  rfl
theorem mg_end {i : Nat} (hi : i < 4) (h : r.length = i) : mg (head4.drop i) (r.drop i) i = some (i, 51) := by
  have e2 : r.drop i = [] := List.drop_eq_nil_of_le (by omega)
  rw [e2]
  match i, hi with
  | 0, _ => rfl
  | 1, _ => rfl
  | 2, _ => rfl
  | 3, _ => rfl
/-- What readHead leaves. -/
def HeadR (base : Nat) (w : World) (sb : Nat) (v : Value) (r : List Int) (rd ct : Nat) (en : Bool) (w' : World) : Prop :=
  match mg head4 r 0 with
  | none => (∃ v', Sn base w' sb v' 1 (r.drop 4) (rd + 4) ct en 0 ∧ v'.ownBlock = v.ownBlock) ∧ Same (fun k => k = sb) w w'
  | some (p, e) => if e = 51 then Lk base w sb v 0 r rd ct en 0 p w' else Sn base w' sb (.slice none 0 0) 3 [] (rd + p) ct en e ∧ Same (fun k => k = sb) w w'
theorem HeadR.lk {w' : World} {k : Nat} (hk : k < 4) (hr : r.length = k) (hm : mg head4 r 0 = mg (head4.drop k) (r.drop k) k) (h : Lk base w sb v 0 r rd ct en 0 k w') : HeadR base w sb v r rd ct en w' := by
  unfold HeadR
  rw [hm, mg_end hk hr]
  exact h
theorem HeadR.bad {w' : World} {k : Nat} {x y : Int} (hm : mg head4 r 0 = mg (head4.drop k) (r.drop k) k) (hx : head4[k]? = some x) (hy : r[k]? = some y) (hne : ¬ y = x) (h : Sn base w' sb (.slice none 0 0) 3 [] (rd + k) ct en 70) (hs : Same (fun k => k = sb) w w') : HeadR base w sb v r rd ct en w' := by
  unfold HeadR
  rw [hm, mg_step hx hy, if_neg hne]
  exact ⟨h, hs⟩
theorem HeadR.all {w' : World} (hm : mg head4 r 0 = mg (head4.drop 4) (r.drop 4) 4) (h : (∃ v', Sn base w' sb v' 1 (r.drop 4) (rd + 4) ct en 0 ∧ v'.ownBlock = v.ownBlock) ∧ Same (fun k => k = sb) w w') : HeadR base w sb v r rd ct en w' := by
  unfold HeadR
  rw [hm]
  exact h
theorem mg_next {k : Nat} {x y : Int} (hm : mg head4 r 0 = mg (head4.drop k) (r.drop k) k) (hx : head4[k]? = some x) (hy : r[k]? = some y) (he : y = x) : mg head4 r 0 = mg (head4.drop (k + 1)) (r.drop (k + 1)) (k + 1) := by
  rw [hm, mg_step hx hy, if_pos he]
set_option maxRecDepth 100000 in
set_option maxHeartbeats 1600000 in
theorem shead_any (h : Sn base w sb v 0 r rd ct en 0) : Calls Try.prog 21 #[.pointer (some ⟨sb, 0, none⟩)] w fun x w' => x = .returned (.tuple #[]) ∧ HeadR base w sb v r rd ct en w' := by
  obtain ⟨a, cap, rfl, hd, hcap, hmax, hz, hsp⟩ := h.row.bytes
  obtain ⟨-, c1, -, -, -, -⟩ := h.cells
  have hlen := h.len
  have hlt := h.lt
  have H : Hid _ := h
  have HD : Hid _ := hd
  have HBY : Hid _ := h.byts
  have HK : Hid (∀ W, Kept w W → ∀ m, m ≤ r.length → _) := fun W (k : Kept w W) m (hm : m ≤ r.length) => slack_any (h.on k) m (by omega)
  have HF : Hid (∀ W, Kept w W → ∀ m, m ≤ r.length → ∀ z, _) := fun W (k : Kept w W) m (hm : m ≤ r.length) z => sfail_any (h.on k) m (by omega) z
  have HP : Hid (∀ W, Kept w W → ∀ m, m ≤ r.length → ∀ z, _) := fun W (k : Kept w W) m (hm : m ≤ r.length) z => spass_any (h.on k) m hm z
  clear h hd hz hsp
  go_enter Try.func21, Try.ntmps21
  go_wp2_with fail
  go_loopw [3] (fun i W => ∃ k : Nat, i = .int .i64 k ∧ k ≤ 4 ∧ k ≤ r.length ∧ Kept w W ∧ mg head4 r 0 = mg (head4.drop k) (r.drop k) k) (fun i _ => 4 - (intOf i).toNat)
  case atStart => exact ⟨0, rfl, by omega, by omega, Same.refl _ _, rfl⟩
  case round =>
    obtain ⟨k, rfl, hk4, hkr, hkw, hmg⟩ := hrel
    have c1' : wr.cell? ⟨sb, 1, none⟩ = some (.slice a r.length cap) := (hkw.cell (p := ⟨sb, 1, none⟩) hlt (fun h => h)).trans c1
    have hltw : sb < wr.heap.size := Nat.lt_of_lt_of_le hlt hkw.size
    have KW : Hid _ := hkw
    have MG : Hid _ := hmg
    have HKR : Hid _ := hkr
    clear hkw hmg
    by_cases hk : k < 4
    · have d1 : decide ((k : Int) < 4) = true := decide_eq_true (by omega)
      have HK4 : Hid _ := hk
      by_cases he : r.length = k
      · have e1 : ((k : Int) == (r.length : Int)) = true := by rw [he]; simp
        have HE : Hid _ := he
        clear he hk hk4
        go_wp2_with fail
        refine Calls.mono (HK.out _ KW.out _ HKR.out) ?_
        rintro e w1 ⟨rfl, s1⟩
        have S1 : Hid _ := Lk.old KW.out s1
        clear s1
        go_wp2_with fail
        refine bodyPost_ret (results_none rfl _ _ _) rfl ?_
        exact ⟨rfl, HeadR.lk HK4.out HE.out MG.out S1.out⟩
      · have e1 : ((k : Int) == (r.length : Int)) = false := by simpa using fun h => he (by omega)
        obtain ⟨y, hy⟩ : ∃ y, r[k]? = some y := ⟨_, List.getElem?_eq_getElem (by omega)⟩
        obtain ⟨g, off, rfl, hgl, hcell⟩ := HD.out _ _ hy
        have hc' : wr.cell? ⟨g, off + k, none⟩ = some (.int .u8 y) := (KW.out.cell (p := ⟨g, off + k, none⟩) hgl (fun h => h)).trans hcell
        have hkl : k < r.length := by omega
        have hglw : g < wr.heap.size := Nat.lt_of_lt_of_le hgl KW.out.size
        obtain ⟨y0, y1⟩ := Byts.get HBY.out hy
        have HY : Hid _ := hy
        clear hcell hgl hy
        have hki : (k : Int) < 4 := by omega
        clear he hk4
        go_wp2_with fail
        go_quiet (fail)
        generalize hX : ((({ data := #[80, 82, 79, 1] } : ByteArray)[k]'(by exact hk)).toNat : Int) = x
        have HX : Hid (head4[k]? = some x) := by
          show head4[k]? = some x
          rcases (by omega : k = 0 ∨ k = 1 ∨ k = 2 ∨ k = 3) with rfl | rfl | rfl | rfl <;> rw [← hX] <;> rfl
        have KW2 : Hid (Kept w (wr.drewN nq)) := KW.out.drewN nq
        generalize (wr.drewN nq) = wq at KW2 ⊢
        clear hX hc' c1' hglw hltw KW
        by_cases hyx : y = x
        · have HN : Hid _ := mg_next MG.out HX.out HY.out hyx
          have hyx' : (y != x) = false := by simpa using hyx
          have hk5 : k + 1 ≤ 4 ∧ k + 1 ≤ r.length := by omega
          clear HX HY MG hyx
          go_wp2_with fail
          go_roundw
          case rel => exact ⟨k + 1, by congr 1, hk5.1, hk5.2, KW2.out, HN.out⟩
          case measure => simp only [intOf]; omega
        · have hyx' : (y != x) = true := by simpa using hyx
          have HYX : Hid _ := hyx
          clear hyx
          go_wp2_with fail
          refine Calls.mono (HF.out _ KW2.out _ HKR.out _) ?_
          rintro e w1 ⟨rfl, s1, k1⟩
          have S1 : Hid _ := s1
          have K1 : Hid _ := (Kept.to KW2.out _).trans' k1
          clear s1 k1
          go_wp2_with fail
          refine bodyPost_ret (results_none rfl _ _ _) rfl ?_
          exact ⟨rfl, HeadR.bad MG.out HX.out HY.out HYX.out S1.out K1.out⟩
    · obtain rfl : k = 4 := by omega
      clear hk hk4
      go_wp2_with fail
      refine Calls.mono (HP.out _ KW.out _ HKR.out _) ?_
      rintro e w1 ⟨rfl, s1, k1⟩
      have S1 : Hid _ := s1
      have K1 : Hid _ := (Kept.to KW.out _).trans' k1
      clear s1 k1
      go_wp2_with fail
      go_end0
      exact ⟨rfl, HeadR.all MG.out ⟨S1.out, K1.out⟩⟩
end
end Go.Proofs.Ytflemfohnpjeaaa
