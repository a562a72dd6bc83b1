/- What is proved: the code's PrintLog of a list of transactions that lies in memory; conditions: the list's length, and that the library's table of powers lies as its text lays it. -/
import Derived.Test.YtlldgibpajbabaaDoorNoCk
import Derived.Test.YtlldgibpajbabaaDoorNoPr
namespace Go.Proofs.YtlldgibpajbabaaDoor
open Go.RowKit

/-- The lines of a log. -/
def linesL (l : List TxM) : List UInt8 := l.flatMap fun t => line t ++ [10]
/-- What PrintLog answers: the text, the place, the error. -/
def plogT (l : List TxM) : List UInt8 × Nat × Int := if (check7 l).2 ≠ 0 then ([], (check7 l).1, (check7 l).2) else (linesL l, 0, 0)
theorem lines_snoc (l : List TxM) (t : TxM) : linesL (l ++ [t]) = linesL l ++ line t ++ [10] := by simp [linesL]
theorem lines_app (a b : List TxM) : linesL (a ++ b) = linesL a ++ linesL b := by simp [linesL]
theorem lines_len {l : List TxM} (h : ∀ t ∈ l, Right t) : (linesL l).length ≤ l.length * 1026 := by
  induction l with
  | nil => simp [linesL]
  | cons t l ih =>
    have h1 := line_len (h t List.mem_cons_self)
    have h2 := ih fun x hx => h x (List.mem_cons_of_mem _ hx)
    have e : linesL (t :: l) = line t ++ [10] ++ linesL l := by simp [linesL]
    rw [e, List.length_append, List.length_append]
    simp only [List.length_cons, List.length_nil]
    omega
theorem map_take_next {l : List TxR} {k : Nat} {r : TxR} (h : l[k]? = some r) : (l.map TxR.t).take (k + 1) = (l.map TxR.t).take k ++ [r.t] := by
  rw [List.take_add_one, List.getElem?_map, h]
  rfl
set_option maxRecDepth 100000 in
set_option maxHeartbeats 3200000 in
theorem printLog_any {w : World} {oa : Option Addr} {c : Nat} {l : List TxR} (ht : TxsAt w oa l) (hd : Deep w l) (hn : l.length ≤ 140737488355328) (htab : Tab w.heap.size w) :
    Calls Tryd.prog 10 #[.slice oa l.length c] w fun e w' => e = .returned (.tuple #[tx (plogT (l.map TxR.t)).1, .int .i64 ((plogT (l.map TxR.t)).2.1 : Nat), .int .i64 (plogT (l.map TxR.t)).2.2]) ∧ Kept w w' := by
  have HD : Hid _ := ht
  have HDP : Hid _ := hd
  obtain ⟨L, eL⟩ : ∃ L, L = l.length := ⟨_, rfl⟩
  have EL : Hid _ := eL
  by_cases hl : 4096 < l.length
  · have hl3 : decide ((L : Int) > 4096) = true := decide_eq_true (by omega)
    have hl2 : 4096 < (L : Int) := by omega
    have hc : check7 (l.map TxR.t) = (0, 71) := by unfold check7; rw [if_pos (by rw [List.length_map]; exact hl)]
    have hp : plogT (l.map TxR.t) = ([], 0, 71) := by unfold plogT; rw [hc]; rfl
    rw [hp, ← eL]
    clear ht hd hl eL hc hp
    go_enter Tryd.func10, Tryd.ntmps10
    go_wp2_with fail
    go_ret3
    exact ⟨rfl, Same.refl _ _⟩
  · have hl3 : decide ((L : Int) > 4096) = false := decide_eq_false (by omega)
    have hLi : (L : Int) ≤ 4096 := by omega
    obtain ⟨Z, eZ⟩ : ∃ Z, Z = plogT (l.map TxR.t) := ⟨_, rfl⟩
    have hc : check7 (l.map TxR.t) = bad7 (l.map TxR.t) 0 := by unfold check7; rw [if_neg (by rw [List.length_map]; exact hl)]
    have HBAD : Hid (∀ k (r : TxR), l[k]? = some r → (∀ t ∈ (l.map TxR.t).take k, Right t) → valid r.t ≠ 0 → Z = ([], k, valid r.t)) := fun k r hr hrt hv => by
      have e := bad7_at (l := l.map TxR.t) (i := k) (j := 0) (t := r.t) (by rw [List.getElem?_map, hr]; rfl) hrt hv
      rw [Nat.zero_add] at e
      rw [eZ]
      unfold plogT
      rw [hc, e, if_pos hv]
    have HOK : Hid (∀ k, l.length ≤ k → (∀ t ∈ (l.map TxR.t).take k, Right t) → Z = (linesL ((l.map TxR.t).take k), 0, 0)) := fun k hk hrt => by
      have e := bad7_all (j := 0) hrt (by rw [List.length_map]; exact hk)
      rw [eZ]
      unfold plogT
      rw [hc, e, if_neg (by simp), List.take_of_length_le (by rw [List.length_map]; exact hk)]
    have HV : Hid (∀ W, Kept w W → ∀ k (r : TxR), l[k]? = some r → Calls Tryd.prog 19 #[r.v] W fun e w' => e = .returned (.int .i64 (valid r.t)) ∧ Kept W w') := fun W k i r hr => valid_any W r.t r.v ((Deep.get hd hr).on k)
    have HA : Hid (∀ W v ys, Kept w W → OwnB w.heap.size W v ys → ys.length ≤ 4096 * 1026 → ∀ k (r : TxR), l[k]? = some r → Right r.t → Calls Tryd.prog 22 #[v, r.v] W fun e w' => ∃ v', e = .returned v' ∧ ApO w.heap.size W (ys ++ nu (line r.t)) v' w') := fun W v ys k o hy i r hr hrt =>
      appendTxn_any (w := W) (base := w.heap.size) r.t r.a r.c hrt ((hd r (List.mem_of_getElem? hr)).on k) (fun j hj => OpsAt.lt (hd r (List.mem_of_getElem? hr)) hj) o (by omega) k.size (htab.on ((Kept.to k _).below (Nat.le_refl _) (fun _ e => e)))
    rw [← eZ, ← eL]
    clear ht hd hl eL hc eZ htab hn
    go_enter Tryd.func10, Tryd.ntmps10
    go_wp2_with fail
    go_loopw [14, 5] (fun i v W => ∃ k : Nat, i = .int .i64 k ∧ k ≤ L ∧ Kept w W ∧ OwnB w.heap.size W v (nu (linesL ((l.map TxR.t).take k))) ∧ ∀ t ∈ (l.map TxR.t).take k, Right t) (fun i _ _ => L - (intOf i).toNat)
    case atStart => exact ⟨0, rfl, Nat.zero_le _, Same.refl _ _, OwnB.nil _ _, fun t ht => (by simp at ht)⟩
    case round =>
      obtain ⟨k, rfl, hk, hkw, hown, hrt⟩ := hrel
      have KW : Hid (Kept w wr) := hkw
      have HO : Hid (OwnB w.heap.size wr u5 (nu (linesL ((l.map TxR.t).take k)))) := hown
      have HRT : Hid _ := hrt
      have hsz := hkw.size
      clear hkw hrt hown
      by_cases hkl : k < L
      · have d1 : decide ((k : Int) < (L : Int)) = true := decide_eq_true (by omega)
        have hkl2 : (k : Int) < (L : Int) := by omega
        obtain ⟨r, hr⟩ : ∃ r, l[k]? = some r := ⟨_, List.getElem?_eq_getElem (by rw [← EL.out]; exact hkl)⟩
        obtain ⟨b, off, rfl, hbl, -⟩ := HD.out _ _ hr
        obtain ⟨x0, x1, x2, x3, x4, x5, x6, x7⟩ := TxsAt.get (TxsAt.on HD.out KW.out) hr
        have hbl2 : b < wr.heap.size := Nat.lt_of_lt_of_le hbl hsz
        have B0 : Hid _ := heap_new wr r.obj
        have HR : Hid (l[k]? = some r) := hr
        have HKL : Hid _ := hkl
        have HLN : Hid ((nu (linesL ((l.map TxR.t).take k))).length ≤ 4095 * 1026) := by
          show _ ≤ _
          have h9 := lines_len HRT.out
          have h8 := List.length_take_le k (l.map TxR.t)
          rw [nu_len]
          omega
        clear hr hbl hkl hk
        unfold TxR.obj at B0
        go_wp2_with fail
        refine Calls.mono (HV.out _ (KW.out.alloc _) k r HR.out) ?_
        rintro x w1 ⟨rfl, k1⟩
        have K1 : Hid (Kept w w1) := (KW.out.alloc _).trans' k1
        have O1 : Hid (OwnB w.heap.size w1 u5 (nu (linesL ((l.map TxR.t).take k)))) := HO.out.kept (((Same.refl _ wr).alloc _).trans' k1) (fun _ _ h => h)
        have B1 : Hid _ := (k1.block _ (lt_of_heap B0.out) (fun e => e)).trans B0.out
        obtain ⟨⟨d0, d1, d2, d3, d4, d5, d6, d7⟩, -⟩ := tx_obj B1.out
        have ld := lt_of_heap B1.out
        clear k1 B0 x0 x1 x2 x3 x4 x5 x6 x7 hbl2
        by_cases hv : valid r.t = 0
        · have hv' : (valid r.t != 0) = false := by simpa using hv
          have HVV : Hid _ := hv
          clear hv
          go_wp2_with fail
          refine Calls.mono (HA.out _ u5 _ K1.out O1.out (Nat.le_trans HLN.out (by decide)) k r HR.out (right_of HVV.out)) ?_
          rintro x w2 ⟨v2, rfl, o2, q2⟩
          have K2 : Hid (Kept w w2) := Same.trans K1.out q2.1 (fun i hi e => by omega)
          have O2 : Hid _ := o2
          have HAP : Hid _ := app_txO [10] o2 (by have h9 := HLN.out; have h8 := line_len (right_of HVV.out); rw [List.length_append, nu_len (line r.t)]; simp only [List.length_cons, List.length_nil]; omega) K2.out.size
          clear o2 q2 K1 O1 B1 d0 d1 d2 d3 d4 d5 d6 d7 ld
          go_wp2_with (at_builtin; refine wpList_app rfl (.tmp 27) (.const (.string ⟨#[10]⟩)) 39 9 rfl v2 (tx [10]) rfl rfl _ HAP.out ?_; rintro v3 w3 ⟨o3, q3⟩)
          have K3 : Hid (Kept w w3) := Same.trans K2.out q3.1 (fun i hi e => by omega)
          have O3 : Hid (OwnB w.heap.size w3 v3 (nu (linesL ((l.map TxR.t).take (k + 1))))) := by
            rw [map_take_next HR.out, lines_snoc, nu_app, nu_app]
            exact o3
          clear o3 q3 K2 O2 HAP
          go_roundw
          case rel =>
            refine ⟨k + 1, by congr 1, HKL.out, K3.out, O3.out, fun t ht => ?_⟩
            rw [map_take_next HR.out] at ht
            rcases List.mem_append.1 ht with ht | ht
            · exact HRT.out t ht
            · obtain rfl : t = r.t := by simpa using ht
              exact valid_zero.1 HVV.out
          case measure => simp only [intOf]; have := HKL.out; omega
        · have hv' : (valid r.t != 0) = true := by simpa using hv
          have HVV : Hid _ := hv
          have EZ : Hid (Z = ([], k, valid r.t)) := HBAD.out k r HR.out HRT.out hv
          clear hv
          go_wp2_with fail
          go_ret3
          rw [EZ.out]
          exact ⟨rfl, K1.out⟩
      · obtain rfl : k = L := by omega
        have d1 : decide ((k : Int) < (k : Int)) = false := decide_eq_false (by omega)
        have EZ : Hid (Z = (linesL ((l.map TxR.t).take k), 0, 0)) := HOK.out k (Nat.le_of_eq EL.out.symm) HRT.out
        clear hkl hk
        have hst := own_str HO.out
        go_wp2_with fail
        go_ret3
        rw [EZ.out]
        exact ⟨rfl, KW.out⟩
end Go.Proofs.YtlldgibpajbabaaDoor
