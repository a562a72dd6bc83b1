/- What is proved: the document's Log of a list of right transactions that lies in memory; the bounds that a machine's memory sets. -/
import Derived.Test.YthnhfahkanpjjaaLOpenT
import Derived.Test.YthnhfahkanpjjaaRRBody
import Derived.Test.YthnhfahkanpjjaaLEnc
namespace Go.Proofs.Ythnhfahkanpjjaa
open Go.RowKit

theorem own_head (w : World) : OwnB w.heap.size (w.alloc (.cells #[.int .u8 80, .int .u8 82, .int .u8 79, .int .u8 1] 5 (0, 0))) (.slice (some ⟨w.heap.size, 0, none⟩) 4 4) head4 :=
  ⟨rfl, .inr ⟨w.heap.size, 4, _, rfl, Nat.le_refl _, heap_new w _, Nat.le_refl _, by unfold maxLen; omega, rfl, rfl⟩⟩
theorem Wrt.start2 (w : World) (l : List TxR) : Wrt w (w.alloc (.cells #[.int .u8 80, .int .u8 82, .int .u8 79, .int .u8 1] 5 (0, 0))) l (.slice (some ⟨w.heap.size, 0, none⟩) 4 4) 0 := by
  have e : head4 ++ ents ((l.take 0).map TxR.t) = head4 := by simp [ents]
  refine ⟨?_, fun t h => (by simp at h), (Same.refl _ w).alloc _⟩
  rw [e]
  exact .inl (own_head w)
section
variable {w : World} {oa : Option Addr} {c : Nat} {l : List TxR}
theorem log_two {b0 : Nat} {wr w2 w3 : World} {v v3 : Value} {xs xs2 bd : List Int} {ua : Option Addr} {uc : Nat} (hx : RowX w.heap.size wr v xs) (hsz : w.heap.size ≤ wr.heap.size) (k2 : Kept wr w2) (hb0 : wr.heap.size ≤ b0) (o2 : OwnB b0 w2 (.slice ua bd.length uc) bd) (h3 : AppK w.heap.size w2 v xs2 v3 w3) (hb : xs2.length + bd.length ≤ 140737488355328) (ty : TypeId) :
    ∃ v' w', (Builtin.append_ #[22, 22] ty #[v3, .slice ua bd.length uc]).run Try.prog w3 = .ok v' w' ∧ AppK w.heap.size w3 v3 (xs2 ++ bd) v' w' := by
  have o3 := OwnB.kept o2 h3.2.1 (fun i e e2 => by have := (hx.block e2).2; have := (o2.block e).1; omega)
  obtain ⟨ua', uc', e2, d2, -, n2, -, -⟩ := OwnB.bytes o3
  simp only [Value.slice.injEq, true_and] at e2
  obtain ⟨rfl, rfl⟩ := e2
  exact app_bytesK (c := uc) h3.1 d2 n2 hb (Nat.le_trans hsz (Nat.le_trans k2.size h3.2.1.size)) ty
set_option maxRecDepth 100000 in
set_option maxHeartbeats 1600000 in
theorem log_ref (h : ArgL w oa c l) (hright : ∀ t ∈ l.map TxR.t, Right t) (hl4 : l.length ≤ 4096) : Calls Try.prog 17 #[.slice oa l.length c] w fun x w' => ∃ v, x = .returned v ∧ OwnB w.heap.size w' v (log7 (l.map TxR.t)) ∧ Kept w w' := by
  have HD : Hid _ := h.txs
  have HDP : Hid _ := h.deep
  have HL : Hid _ := hl4
  have HRT : Hid _ := hright
  obtain ⟨L, eL⟩ : ∃ L, L = l.length := ⟨_, rfl⟩
  have EL : Hid _ := eL
  have hLi : (L : Int) ≤ 4096 := by omega
  have HS : Hid _ := Wrt.start2 w l
  rw [← eL]
  clear h hright hl4 eL
  go_enter Try.func17, Try.ntmps17
  go_wp2_with fail
  go_loopw [3, 4] (fun v i W => ∃ k : Nat, i = .int .i64 k ∧ k ≤ L ∧ Wrt w W l v k) (fun _ i _ => L - (intOf i).toNat)
  case atStart => exact ⟨0, rfl, Nat.zero_le _, HS.out⟩
  case round =>
    obtain ⟨k, rfl, hk, hw⟩ := hrel
    have HW : Hid _ := hw
    have hlen2 := hw.len HL.out
    obtain ⟨xs, exs⟩ : ∃ xs, xs = head4 ++ ents ((l.take k).map TxR.t) := ⟨_, rfl⟩
    have hown := hw.own
    rw [← exs] at hown hlen2
    obtain ⟨va, vc, rfl⟩ := hown.val
    have HOW : Hid _ := hown
    have EXS : Hid _ := exs
    have HLN : Hid _ := hlen2
    have hsz := hw.kept.size
    clear hw HS hlen2 hown exs
    by_cases hkl : k < L
    · have d1 : decide ((k : Int) < (L : Int)) = true := decide_eq_true (by omega)
      have hkl2 : (k : Int) < (L : Int) := by omega
      obtain ⟨r, hr⟩ : ∃ r, l[k]? = some r := ⟨_, List.getElem?_eq_getElem (by rw [← EL.out]; exact hkl)⟩
      obtain ⟨b, off, rfl, hbl, -⟩ := HD.out _ _ hr
      obtain ⟨x0, x1, x2, x3, x4, x5, x6, x7⟩ := TxsAt.get (TxsAt.on HD.out HW.out.kept) hr
      have hbl2 : b < wr.heap.size := Nat.lt_of_lt_of_le hbl hsz
      have hrt : Right r.t := HRT.out _ (List.mem_map.2 ⟨r, List.mem_of_getElem? hr, rfl⟩)
      have HB : Hid _ := body_ref wr r.t r.v (TxA.on (Deep.get HDP.out hr) HW.out.kept) hrt
      obtain ⟨bl1, bl2⟩ := body_len hrt
      have BL : Hid _ := bl1
      have HRR : Hid _ := hrt
      have HR : Hid _ := hr
      have HKL : Hid _ := hkl
      clear hr hbl hkl hrt
      go_wp2_with fail
      refine Calls.mono HB.out ?_
      rintro x w1 ⟨u, rfl, o1, k1⟩
      obtain ⟨ua, uc, rfl, -⟩ := OwnB.bytes o1
      have K1 : Hid (Kept wr w1) := k1
      have O1 : Hid _ := o1
      obtain ⟨BN, eBN⟩ : ∃ BN, BN = (body r.t).length := ⟨_, rfl⟩
      have EB : Hid _ := eBN
      have HF : Hid _ := form_ref w1 BN (by omega)
      rw [← eBN]
      have hbn : (BN : Int) ≤ 512 := by omega
      clear o1 k1 eBN bl1 bl2 HB
      go_wp2_with fail
      refine Calls.mono HF.out ?_
      rintro x w2 ⟨f, rfl, o2, k2⟩
      obtain ⟨fa, fc, rfl, d2, -, n2, -, -⟩ := OwnB.bytes o2
      have K2 : Hid (Kept wr w2) := K1.out.trans' k2
      have O2 : Hid (OwnB wr.heap.size w2 (.slice ua (body r.t).length uc) (body r.t)) := OwnB.kept O1.out k2 (fun _ _ h => h)
      have h8 := form_two (n := BN) (by omega)
      have HR1 : Hid (∀ ty, _) := fun ty => RowX.app (c := fc) (RowX.on HOW.out K2.out) d2 n2 (form_pos BN) (by have := HLN.out; omega) (Nat.le_trans hsz K2.out.size) ty
      obtain ⟨FN, eFN⟩ : ∃ FN, FN = (form BN).length := ⟨_, rfl⟩
      rw [← eFN] at HR1 h8 ⊢
      clear o2 k2 d2 n2 HF eFN h8
      have HLT : Hid (∀ v3 w3, AppK w.heap.size w2 (.slice va xs.length vc) (xs ++ form BN) v3 w3 → ∀ ty, _) := fun v3 w3 (h3 : AppK w.heap.size w2 (.slice va xs.length vc) (xs ++ form BN) v3 w3) ty => log_two HOW.out hsz K2.out (Nat.le_refl _) O2.out h3 (by have h1 := HLN.out; have h2 := form_two (n := BN) (by omega); have h4 := BL.out; rw [List.length_append]; omega) ty
      rw [← EB.out] at HLT
      go_wp2_with (first
        | (at_builtin; refine wpList_app rfl (.tmp 23) (.tmp 24) 22 22 rfl _ _ rfl rfl _ HR1.out ?_; intro v3 w3 hR; have R3 : Hid _ := hR; have HR2 : Hid _ := HLT.out _ _ hR; clear hR)
        | (at_builtin; refine wpList_app rfl (.tmp 26) (.tmp 27) 22 22 rfl _ _ rfl rfl _ HR2.out ?_; intro v4 w4 hR; have R4 : Hid _ := hR; clear hR))
      go_roundw
      case rel =>
        refine ⟨k + 1, by congr 1, HKL.out, Wrt.next HW.out HR.out HRR.out K2.out (v2 := v3) (w2 := w3) ?_ ?_⟩
        · rw [← EXS.out, ← EB.out]
          exact R3.out
        · rw [← EXS.out, ← EB.out]
          exact R4.out
      case measure => simp only [intOf]; have := HKL.out; omega
    · obtain rfl : k = L := by omega
      have d1 : decide ((k : Int) < (k : Int)) = false := decide_eq_false (by omega)
      have HF : Hid _ := form_ref wr k (by omega)
      clear hkl hk
      go_wp2_with fail
      refine Calls.mono HF.out ?_
      rintro x w1 ⟨f, rfl, o1, k1⟩
      obtain ⟨fa, fc, rfl, -⟩ := OwnB.bytes o1
      have K1 : Hid _ := k1
      have HR1 : Hid (∀ ty, _) := fun ty => RowX.app (c := 1) (RowX.on (RowX.on HOW.out k1) ((Same.refl (fun _ => False) w1).alloc (.cells (byt [0]).toArray 5 (0, 0)))) (bytes_new w1 [0]) (fun e => by cases e) (by simp) (by have := HLN.out; simp; omega) (by rw [World.size_alloc]; have := k1.size; omega) ty
      have HLT : Hid (∀ v3 w3, AppK w.heap.size (w1.alloc (.cells (byt [0]).toArray 5 (0, 0))) (.slice va xs.length vc) (xs ++ [0]) v3 w3 → ∀ ty, _) := fun v3 w3 (h3 : AppK w.heap.size (w1.alloc (.cells (byt [0]).toArray 5 (0, 0))) (.slice va xs.length vc) (xs ++ [0]) v3 w3) ty => log_two (bd := form k) HOW.out hsz (k1.trans' ((Same.refl (fun _ => False) w1).alloc (.cells (byt [0]).toArray 5 (0, 0)))) (Nat.le_refl _) (OwnB.kept o1 ((Same.refl (fun _ => False) w1).alloc (.cells (byt [0]).toArray 5 (0, 0))) (fun _ _ h => h)) h3 (by have h1 := HLN.out; have h2 := form_two (n := k) (by omega); simp only [List.length_append, List.length_singleton]; omega) ty
      obtain ⟨FN, eFN⟩ : ∃ FN, FN = (form k).length := ⟨_, rfl⟩
      rw [← eFN] at HLT ⊢
      clear o1 k1 eFN HF
      go_wp2_with (first
        | (at_builtin; refine wpList_app rfl (.tmp 32) (.tmp 33) 22 22 rfl _ _ rfl rfl _ HR1.out ?_; intro v3 w3 hR; have R3 : Hid _ := hR; have HR2 : Hid _ := HLT.out _ _ hR; clear hR)
        | (at_builtin; refine wpList_app rfl (.tmp 35) (.tmp 36) 22 22 rfl _ _ rfl rfl _ HR2.out ?_; intro v4 w4 hR; have R4 : Hid _ := hR; clear hR))
      go_ret
      have hall : l.take k = l := by rw [EL.out]; exact List.take_length
      have e3 : log7 (l.map TxR.t) = xs ++ [0] ++ form k := by
        rw [log7, EXS.out, hall, List.length_map, EL.out]
        simp
      refine ⟨_, rfl, by rw [e3]; exact R4.out.1, ?_⟩
      have hv0 : ∀ i, (Value.slice va xs.length vc).ownBlock = some i → w.heap.size ≤ i := fun i e => (RowX.block HOW.out e).1
      have hv3 : ∀ i, v3.ownBlock = some i → w.heap.size ≤ i := fun i e => (OwnB.block R3.out.1 e).1
      exact (((HW.out.kept.trans' K1.out).alloc _).trans R3.out.2.1 (fun i hi e => absurd (hv0 i e) (Nat.not_le.2 hi))).trans R4.out.2.1 (fun i hi e => absurd (hv3 i e) (Nat.not_le.2 hi))
end
end Go.Proofs.Ythnhfahkanpjjaa
