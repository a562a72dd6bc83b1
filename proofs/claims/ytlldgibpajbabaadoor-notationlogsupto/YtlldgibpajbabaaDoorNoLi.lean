/- What is proved: the document's Lines of a list of right transactions that lies in memory; condition: the list's length. -/
import Derived.Test.YtlldgibpajbabaaDoorNoPg
import Derived.Test.YtlldgibpajbabaaDoorNoLn
namespace Go.Proofs.YtlldgibpajbabaaDoor
open Go.RowKit

set_option maxRecDepth 100000 in
set_option maxHeartbeats 3200000 in
theorem rlines_any {w : World} {oa : Option Addr} {c : Nat} {l : List TxR} (ht : TxsAt w oa l) (hd : Deep w l) (hl : l.length ≤ 4096) (hr : ∀ t ∈ l.map TxR.t, Right t) :
    Calls Tryd.prog 13 #[.slice oa l.length c] w fun e w' => ∃ v', e = .returned v' ∧ OwnB w.heap.size w' v' (nu (linesL (l.map TxR.t))) ∧ Kept w w' := by
  have HD : Hid _ := ht
  obtain ⟨L, eL⟩ : ∃ L, L = l.length := ⟨_, rfl⟩
  have EL : Hid (L = l.length) := eL
  have hLi : (L : Int) ≤ 4096 := by omega
  have HLN : Hid (∀ k, (nu (linesL ((l.map TxR.t).take k))).length ≤ 4096 * 1026) := fun k => by
    have h9 := lines_len (l := (l.map TxR.t).take k) (fun t ht => hr t (List.mem_of_mem_take ht))
    have h8 : ((l.map TxR.t).take k).length ≤ 4096 := by rw [List.length_take, List.length_map]; omega
    rw [nu_len]
    omega
  have HEND : Hid ((l.map TxR.t).take L = l.map TxR.t) := List.take_of_length_le (by rw [List.length_map, eL]; exact Nat.le_refl _)
  have HL : Hid (∀ W, Kept w W → ∀ k (r : TxR), l[k]? = some r → Calls Tryd.prog 24 #[r.v] W fun e w' => ∃ v', e = .returned v' ∧ OwnB W.heap.size w' v' (nu (line r.t)) ∧ Kept W w') := fun W k i r h => rline_any r.t r.a r.c (hr r.t (List.mem_map.2 ⟨r, List.mem_of_getElem? h, rfl⟩)) ((hd r (List.mem_of_getElem? h)).on k)
  have HLE : Hid (∀ k (r : TxR), l[k]? = some r → (line r.t).length ≤ 1025) := fun i r h => line_len (hr r.t (List.mem_map.2 ⟨r, List.mem_of_getElem? h, rfl⟩))
  rw [← eL]
  clear ht hd hl eL hr
  go_enter Tryd.func13, Tryd.ntmps13
  go_wp2_with fail
  go_loopw [4, 3] (fun i v W => ∃ k : Nat, i = .int .i64 k ∧ k ≤ L ∧ Kept w W ∧ OwnB w.heap.size W v (nu (linesL ((l.map TxR.t).take k)))) (fun i _ _ => L - (intOf i).toNat)
  case atStart => exact ⟨0, rfl, Nat.zero_le _, Same.refl _ _, OwnB.nil _ _⟩
  case round =>
    obtain ⟨k, rfl, hk, hkw, hown⟩ := hrel
    have KW : Hid (Kept w wr) := hkw
    have HO : Hid (OwnB w.heap.size wr u3 (nu (linesL ((l.map TxR.t).take k)))) := hown
    have hsz := hkw.size
    clear hkw hown
    by_cases hkl : k < L
    · have d1 : decide ((k : Int) < (L : Int)) = true := decide_eq_true (by omega)
      have hkl2 : (k : Int) < (L : Int) := by omega
      obtain ⟨r, hr⟩ : ∃ r, l[k]? = some r := ⟨_, List.getElem?_eq_getElem (by rw [← EL.out]; exact hkl)⟩
      obtain ⟨b, off, rfl, hbl, -⟩ := HD.out _ _ hr
      obtain ⟨x0, x1, x2, x3, x4, x5, x6, x7⟩ := TxsAt.get (TxsAt.on HD.out KW.out) hr
      have hbl2 : b < wr.heap.size := Nat.lt_of_lt_of_le hbl hsz
      have HR : Hid (l[k]? = some r) := hr
      have HKL : Hid _ := hkl
      clear hr hbl hkl hk
      go_wp2_with fail
      refine Calls.mono (HL.out _ KW.out k r HR.out) ?_
      rintro x w1 ⟨v1, rfl, o1, k1⟩
      have K1 : Hid (Kept w w1) := KW.out.trans' k1
      have O1 : Hid (OwnB w.heap.size w1 u3 (nu (linesL ((l.map TxR.t).take k)))) := HO.out.kept k1 (fun _ _ h => h)
      have HADD : Hid (Calls Tryd.prog 25 #[u3, v1] w1 fun e w' => ∃ v', e = .returned v' ∧ ApO w.heap.size w1 (nu (linesL ((l.map TxR.t).take k)) ++ nu (line r.t)) v' w') := by
        obtain ⟨a1, c1, e1, h1, -, h3, -⟩ := OwnB.bytes o1
        rw [e1]
        exact radd_any O1.out h1 h3 (by rw [nu_len (line r.t)]; have h9 := HLN.out k; have h8 := HLE.out k r HR.out; omega) K1.out.size
      clear o1 k1 x0 x1 x2 x3 x4 x5 x6 x7 hbl2
      go_wp2_with fail
      refine Calls.mono HADD.out ?_
      rintro x w2 ⟨v2, rfl, o2, q2⟩
      have K2 : Hid (Kept w w2) := Same.trans K1.out q2.1 (fun i hi e => by omega)
      have HAP : Hid _ := app1O 10 o2 (by rw [List.length_append, nu_len (line r.t)]; have h9 := HLN.out k; have h8 := HLE.out k r HR.out; omega) K2.out.size
      clear o2 q2 K1 O1 HADD
      go_wp2_with (at_builtin; refine wpList_app rfl (.tmp 20) (.tmp 21) 39 39 rfl v2 (.slice (some ⟨_, 0, none⟩) 1 1) rfl rfl _ (HAP.out _ (by first | rfl | simp)) ?_; rintro v3 w3 ⟨o3, q3⟩)
      have K3 : Hid (Kept w w3) := Same.trans K2.out q3.1 (fun i hi e => by omega)
      have O3 : Hid (OwnB w.heap.size w3 v3 (nu (linesL ((l.map TxR.t).take (k + 1))))) := by
        rw [map_take_next HR.out, lines_snoc, nu_app, nu_app]
        exact o3
      clear o3 q3 K2 HAP
      go_roundw
      case rel => exact ⟨k + 1, by congr 1, HKL.out, K3.out, O3.out⟩
      case measure => simp only [intOf]; have := HKL.out; omega
    · obtain rfl : k = L := by omega
      have d1 : decide ((k : Int) < (k : Int)) = false := decide_eq_false (by omega)
      clear hkl hk
      go_wp2_with fail
      go_ret
      rw [HEND.out] at HO
      exact ⟨u3, rfl, HO.out, KW.out⟩
end Go.Proofs.YtlldgibpajbabaaDoor
