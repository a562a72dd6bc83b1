/- What is proved: WireCut answers true for every list of bytes and all numbers. -/
import Derived.Test.YtfedenfnkimngaaWStickL
namespace Go.Proofs.Ytfedenfnkimngaa
open Go.RowKit

theorem append_own {base : Nat} {w : World} {v : Value} {l : List Int} (o : OwnB base w v l) (n : Nat) (hb : l.length + 8 ≤ 140737488355328) (hn : n ≤ 72057594037927935) : Calls Try.prog 17 #[v, .int .i64 (n : Int)] w fun e w' => ∃ v, e = .returned (.tuple #[v, .int .i64 0]) ∧ OwnB w.heap.size w' v (l ++ form n) ∧ Kept w w' := by
  obtain ⟨a, cap, rfl, hd, -, hn', -, -⟩ := OwnB.bytes o
  exact append_any w a cap l n hd hn' hb hn

set_option maxRecDepth 100000 in
set_option maxHeartbeats 1600000 in
theorem cut_no (oa : Option Addr) (c : Nat) (l : List Int) (n cut : Int) (w : World) (h : ArgB w oa c l) (hn : n < 0 ∨ 72057594037927935 < n) :
    Calls Try.prog 7 #[.slice oa l.length c, .int .i64 n, .int .i64 cut] w fun e w' => e = .returned (.bool true) ∧ Kept w w' := by
  have hnot : ∀ (x : Bool) (w : World), (Op.unary .not (.bool x)).run Try.prog w = .ok (.bool (!x)) w := fun _ _ => rfl
  have hle := h.le
  have HA : Hid _ := anchor_any w
  have HR : Hid (∀ W, Kept w W → _) := fun W (k : Kept w W) => app_lit (c := c) (h.on k).data h.nil (by omega)
  have HN : Hid (∀ W v, _) := fun W v => append_no W v n hn
  generalize l.length = L at HR ⊢
  by_cases h0 : n < 0
  · have d0 : decide (n < 0) = true := decide_eq_true h0
    clear h hle hn
    go_enter Try.func7, Try.ntmps7
    go_wp2_with fail
    refine Calls.mono HA.out ?_
    rintro e w1 ⟨rfl, k1⟩
    have K1 : Hid _ := k1
    clear k1
    go_wp2_with (at_builtin; refine wpList_app rfl (.tmp 17) (.tmp 18) 22 22 rfl _ _ rfl rfl _ (HR.out _ K1.out) ?_; rintro v2 w2 ⟨o2, k2⟩)
    have K2 : Hid (Kept w w2) := Same.trans' K1.out k2
    clear o2 k2
    refine Calls.mono (HN.out _ _) ?_
    rintro e w3 ⟨rfl, rfl⟩
    go_wp2_with fail
    go_ret
    exact ⟨rfl, K2.out⟩
  · have d0 : decide (n < 0) = false := decide_eq_false h0
    have h1 : 72057594037927935 < n := by omega
    have d1 : decide (72057594037927935 < n) = true := decide_eq_true h1
    clear h hle hn
    go_enter Try.func7, Try.ntmps7
    go_wp2_with fail
    refine Calls.mono HA.out ?_
    rintro e w1 ⟨rfl, k1⟩
    have K1 : Hid _ := k1
    clear k1
    go_wp2_with (at_builtin; refine wpList_app rfl (.tmp 17) (.tmp 18) 22 22 rfl _ _ rfl rfl _ (HR.out _ K1.out) ?_; rintro v2 w2 ⟨o2, k2⟩)
    have K2 : Hid (Kept w w2) := Same.trans' K1.out k2
    clear o2 k2
    refine Calls.mono (HN.out _ _) ?_
    rintro e w3 ⟨rfl, rfl⟩
    go_wp2_with fail
    go_ret
    exact ⟨rfl, K2.out⟩

set_option maxRecDepth 100000 in
set_option maxHeartbeats 1600000 in
theorem cut_out (oa : Option Addr) (c : Nat) (l : List Int) (n : Nat) (cut : Int) (w : World) (h : ArgB w oa c l) (hn : n ≤ 72057594037927935) (hc : cut < 0 ∨ ((form n).length : Int) ≤ cut) :
    Calls Try.prog 7 #[.slice oa l.length c, .int .i64 (n : Int), .int .i64 cut] w fun e w' => e = .returned (.bool true) ∧ Kept w w' := by
  have hnot : ∀ (x : Bool) (w : World), (Op.unary .not (.bool x)).run Try.prog w = .ok (.bool (!x)) w := fun _ _ => rfl
  have hle := h.le
  have HA : Hid _ := anchor_any w
  have HR : Hid (∀ W, Kept w W → _) := fun W (k : Kept w W) => app_lit (c := c) (h.on k).data h.nil (by omega)
  have HP : Hid (∀ base W v, OwnB base W v l → _) := fun base W v (o : OwnB base W v l) => append_own o n (by omega) hn
  have h8 := form8 hn
  have hp := form_pos n
  obtain ⟨L, eL⟩ : ∃ L, L = l.length := ⟨_, rfl⟩
  obtain ⟨F, eF⟩ : ∃ F, F = (form n).length := ⟨_, rfl⟩
  have HL : Hid ((l ++ form n).length = L + F) := by rw [eL, eF]; exact List.length_append
  rw [← eF] at h8 hp hc
  rw [← eL] at HR hle ⊢
  have d0 : decide ((n : Int) < 0) = false := decide_eq_false (by omega)
  have d1 : decide (72057594037927935 < (n : Int)) = false := decide_eq_false (by omega)
  have d0' : ¬ (n : Int) < 0 := by omega
  have d1' : ¬ 72057594037927935 < (n : Int) := by omega
  obtain ⟨T, eT⟩ : ∃ T, T = L + F := ⟨_, rfl⟩
  rw [← eT] at HL
  have d2 : decide ((T : Int) ≤ (L : Int)) = false := decide_eq_false (by omega)
  have d2' : ¬ (T : Int) ≤ (L : Int) := by omega
  have hTL : (T : Int) - (L : Int) = (F : Int) := by omega
  have hF : (F : Int) ≤ 8 := by omega
  by_cases h0 : cut < 0
  · have d3 : decide (cut < 0) = true := decide_eq_true h0
    clear h hle hn hc eL eF eT h8 hp
    go_enter Try.func7, Try.ntmps7
    go_wp2_with fail
    refine Calls.mono HA.out ?_
    rintro e w1 ⟨rfl, k1⟩
    have K1 : Hid _ := k1
    clear k1
    go_wp2_with (at_builtin; refine wpList_app rfl (.tmp 17) (.tmp 18) 22 22 rfl _ _ rfl rfl _ (HR.out _ K1.out) ?_; rintro v2 w2 ⟨o2, k2⟩)
    have K2 : Hid (Kept w w2) := Same.trans' K1.out k2
    refine Calls.mono (HP.out _ _ _ o2) ?_
    rintro e w3 ⟨v3, rfl, o3, k3⟩
    have K3 : Hid (Kept w w3) := Same.trans' K2.out k3
    obtain ⟨a3, c3, rfl, -, -, -, -, -⟩ := OwnB.bytes o3
    rw [HL.out]
    clear o2 k2 o3 k3
    go_wp2_with fail
    go_ret
    exact ⟨rfl, K3.out⟩
  · have d3 : decide (cut < 0) = false := decide_eq_false h0
    have d4 : (F : Int) ≤ cut := by omega
    have d5 : decide ((F : Int) ≤ cut) = true := decide_eq_true d4
    clear h hle hn hc eL eF eT h8 hp
    go_enter Try.func7, Try.ntmps7
    go_wp2_with fail
    refine Calls.mono HA.out ?_
    rintro e w1 ⟨rfl, k1⟩
    have K1 : Hid _ := k1
    clear k1
    go_wp2_with (at_builtin; refine wpList_app rfl (.tmp 17) (.tmp 18) 22 22 rfl _ _ rfl rfl _ (HR.out _ K1.out) ?_; rintro v2 w2 ⟨o2, k2⟩)
    have K2 : Hid (Kept w w2) := Same.trans' K1.out k2
    refine Calls.mono (HP.out _ _ _ o2) ?_
    rintro e w3 ⟨v3, rfl, o3, k3⟩
    have K3 : Hid (Kept w w3) := Same.trans' K2.out k3
    obtain ⟨a3, c3, rfl, -, -, -, -, -⟩ := OwnB.bytes o3
    rw [HL.out]
    clear o2 k2 o3 k3
    go_wp2_with fail
    go_ret
    exact ⟨rfl, K3.out⟩

theorem rTake_head (l t : List Int) : rTake (l ++ t) 0 0 (l.length : Int) = ((l, 0), (l.length, 0)) := by
  unfold rTake
  rw [if_neg (by decide), if_neg (by omega), if_neg (by simp; omega)]
  simp
theorem rNum_cut {l : List Int} {n k : Nat} (hn : n ≤ 72057594037927935) (hk : k < (form n).length) : rNum (l ++ (form n).take k) l.length 0 (n : Int) = ((0, 51), (l.length, 51)) := by
  unfold rNum
  rw [List.drop_append_of_le_length (Nat.le_refl _), List.drop_length, List.nil_append, num_cut (by decide) (by omega) hk]
  exact rNumQ_err (by decide)

set_option maxRecDepth 100000 in
set_option maxHeartbeats 1600000 in
theorem cut_in (oa : Option Addr) (c : Nat) (l : List Int) (n k : Nat) (w : World) (h : ArgB w oa c l) (hn : n ≤ 72057594037927935) (hk : k < (form n).length) :
    Calls Try.prog 7 #[.slice oa l.length c, .int .i64 (n : Int), .int .i64 (k : Int)] w fun e w' => e = .returned (.bool true) ∧ Kept w w' := by
  have hnot : ∀ (x : Bool) (w : World), (Op.unary .not (.bool x)).run Try.prog w = .ok (.bool (!x)) w := fun _ _ => rfl
  have hle := h.le
  have HA : Hid _ := anchor_any w
  have HR : Hid (∀ W, Kept w W → _) := fun W (k : Kept w W) => app_lit (c := c) (h.on k).data h.nil (by omega)
  have HP : Hid (∀ base W v, OwnB base W v l → _) := fun base W v (o : OwnB base W v l) => append_own o n (by omega) hn
  have h8 := form8 hn
  obtain ⟨L, eL⟩ : ∃ L, L = l.length := ⟨_, rfl⟩
  obtain ⟨F, eF⟩ : ∃ F, F = (form n).length := ⟨_, rfl⟩
  obtain ⟨T, eT⟩ : ∃ T, T = L + F := ⟨_, rfl⟩
  obtain ⟨M, eM⟩ : ∃ M, M = L + k := ⟨_, rfl⟩
  have HL : Hid ((l ++ form n).length = T) := by rw [eT, eL, eF]; exact List.length_append
  have htk : (l ++ form n).take M = l ++ (form n).take k := by rw [eM, eL, List.take_append]; simp [List.take_of_length_le]
  have hml : (l ++ (form n).take k).length = M := by rw [List.length_append, List.length_take]; omega
  have HO : Hid (∀ (W : World) (g cc : Nat), BytesAt W (some ⟨g, 0, none⟩) (l ++ form n) → Calls Try.prog 10 #[.slice (some ⟨g, 0, none⟩) M cc] W fun e w' => ∃ v, e = .returned v ∧ NewCu W.heap.size (l ++ (form n).take k) v w' ∧ Kept W w') := fun W g cc hb => by
    have := open_any W (some ⟨g, 0, none⟩) cc (l ++ (form n).take k) (by rw [← htk]; exact bytes_take hb M) (fun e => by cases e) (by omega) (h.byts.append ((byts_form n).take k))
    rwa [hml] at this
  have HT : Hid (∀ base W cb, CuN base W cb (l ++ (form n).take k) 0 0 → _) := fun base W cb (u : CuN base W cb (l ++ (form n).take k) 0 0) => u.take (l.length : Int)
  rw [rTake_head] at HT
  have HN : Hid (∀ base W cb, CuN base W cb (l ++ (form n).take k) l.length 0 → _) := fun base W cb (u : CuN base W cb (l ++ (form n).take k) l.length 0) => u.number (n : Int)
  rw [rNum_cut hn hk] at HN
  have H5 : Hid (∀ base W cb, CuN base W cb (l ++ (form n).take k) l.length 51 → _) := fun base W cb (u : CuN base W cb (l ++ (form n).take k) l.length 51) => u.offset
  have H6 : Hid (∀ base W cb, CuN base W cb (l ++ (form n).take k) l.length 51 → _) := fun base W cb (u : CuN base W cb (l ++ (form n).take k) l.length 51) => u.left
  rw [hml] at H6
  rw [← eF] at h8 hk
  rw [← eL] at HR hle HT HN H5 H6 ⊢
  have hMk : M - L = k := by omega
  rw [hMk] at H6
  have d0 : decide ((n : Int) < 0) = false := decide_eq_false (by omega)
  have d1 : decide (72057594037927935 < (n : Int)) = false := decide_eq_false (by omega)
  have d0' : ¬ (n : Int) < 0 := by omega
  have d1' : ¬ 72057594037927935 < (n : Int) := by omega
  have d2 : decide ((T : Int) ≤ (L : Int)) = false := decide_eq_false (by omega)
  have d2' : ¬ (T : Int) ≤ (L : Int) := by omega
  have hTL : (T : Int) - (L : Int) = (F : Int) := by omega
  have hF : (F : Int) ≤ 8 := by omega
  have d3 : decide ((k : Int) < 0) = false := decide_eq_false (by omega)
  have d3' : ¬ (k : Int) < 0 := by omega
  have d4 : decide ((F : Int) ≤ (k : Int)) = false := decide_eq_false (by omega)
  have d4' : ¬ (F : Int) ≤ (k : Int) := by omega
  have hLM : (L : Int) + (k : Int) = (M : Int) := by omega
  have hM : (M : Int) ≤ 140737488355328 := by omega
  have hMT : M ≤ T := by omega
  have hT0 : 0 < T := by omega
  have e1 : ((L : Int) == (L : Int)) = true := by simp
  have e2 : ((k : Int) == (k : Int)) = true := by simp
  clear h hle hn eL eF eT eM h8 hk htk hml hMk
  go_enter Try.func7, Try.ntmps7
  go_wp2_with fail
  refine Calls.mono HA.out ?_
  rintro e w1 ⟨rfl, k1⟩
  have K1 : Hid _ := k1
  clear k1
  go_wp2_with (at_builtin; refine wpList_app rfl (.tmp 17) (.tmp 18) 22 22 rfl _ _ rfl rfl _ (HR.out _ K1.out) ?_; rintro v2 w2 ⟨o2, k2⟩)
  have K2 : Hid (Kept w w2) := Same.trans' K1.out k2
  refine Calls.mono (HP.out _ _ _ o2) ?_
  rintro e w3 ⟨v3, rfl, o3, k3⟩
  have K3 : Hid (Kept w w3) := Same.trans' K2.out k3
  obtain ⟨a3, c3, rfl, b3, l3, -, ha3, -⟩ := OwnB.bytes o3
  rw [HL.out] at l3 ⊢
  obtain ⟨g3, rfl⟩ : ∃ g, a3 = some ⟨g, 0, none⟩ := by
    obtain ⟨b', off', rfl, -, -⟩ := b3 0 _ (List.getElem?_eq_getElem (by rw [HL.out]; exact hT0))
    exact ⟨b', by rw [(ha3 b' off' rfl).2]⟩
  have H4 : Hid _ := HO.out w3 g3 c3 b3
  have q1 : (M : Int) ≤ (c3 : Int) := by omega
  have q2 : ¬ c3 = 0 := by omega
  clear o2 k2 o3 k3 b3 ha3 l3 hMT
  go_wp2_with fail
  refine Calls.mono H4.out ?_
  rintro e w4 ⟨v4, rfl, n4, k4⟩
  obtain ⟨cb, rfl, u4⟩ := CuN.of n4
  have K4 : Hid (Kept w w4) := Same.trans' K3.out k4
  have U4 : Hid _ := u4
  have HBS : Hid (w.heap.size ≤ w3.heap.size) := K3.out.size
  clear n4 k4 u4
  go_wp2_with fail
  refine Calls.mono (HT.out _ _ _ U4.out) ?_
  rintro e w5 ⟨v5, rfl, -, u5, s5⟩
  have K5 : Hid (Kept w w5) := CuN.keeps U4.out HBS.out K4.out s5
  have U5 : Hid _ := u5
  clear u5 s5
  go_wp2_with fail
  refine Calls.mono (HN.out _ _ _ U5.out) ?_
  rintro e w6 ⟨rfl, u6, s6⟩
  have K6 : Hid (Kept w w6) := CuN.keeps U5.out HBS.out K5.out s6
  have U6 : Hid _ := u6
  clear u6 s6
  go_wp2_with fail
  refine Calls.mono (H5.out _ _ _ U6.out) ?_
  rintro e w7 ⟨rfl, rfl⟩
  go_wp2_with fail
  refine Calls.mono (H6.out _ _ _ U6.out) ?_
  rintro e w8 ⟨rfl, k8⟩
  have K8 : Hid (Kept w w8) := Same.trans' K6.out k8
  clear k8
  go_wp2_with fail
  go_ret
  exact ⟨rfl, K8.out⟩
end Go.Proofs.Ytfedenfnkimngaa
