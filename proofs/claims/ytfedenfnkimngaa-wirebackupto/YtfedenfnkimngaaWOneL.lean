/- What is proved: WireOne answers true for every list of bytes. -/
import Derived.Test.YtfedenfnkimngaaWAnch
namespace Go.Proofs.Ytfedenfnkimngaa
open Go.RowKit

/-- What is known of an argument that is a list of bytes. -/
structure ArgB (w : World) (oa : Option Addr) (c : Nat) (l : List Int) : Prop where
  data : BytesAt w oa l
  nil : oa = none → l.length = 0 ∧ c = 0
  cap : l.length ≤ c
  byts : Byts l
  len : l.length ≤ reachBytes
theorem ArgB.le {w : World} {oa : Option Addr} {c : Nat} {l : List Int} (h : ArgB w oa c l) : l.length ≤ 140737488351232 := by
  have := h.len
  unfold reachBytes at this
  omega
theorem ArgB.on {w w' : World} {oa : Option Addr} {c : Nat} {l : List Int} (h : ArgB w oa c l) (k : Kept w w') : ArgB w' oa c l := ⟨h.data.kept k (fun _ _ h => h), h.nil, h.cap, h.byts, h.len⟩

/-- Open over a clone of an argument. -/
theorem open_own {base : Nat} {w : World} {v : Value} {l : List Int} (o : OwnB base w v l) (hby : Byts l) (hb : l.length ≤ 140737488355328) : Calls Try.prog 10 #[v] w fun e w' => ∃ v, e = .returned v ∧ NewCu w.heap.size l v w' ∧ Kept w w' := by
  obtain ⟨a, cap, rfl, hd, -, hn, -, -⟩ := OwnB.bytes o
  exact open_any w a cap l hd hn hb hby

set_option maxRecDepth 100000 in
set_option maxHeartbeats 1600000 in
theorem one_err (w : World) (oa : Option Addr) (c : Nat) (l : List Int) (h : ArgB w oa c l) (he : (num 8 l).2.2 ≠ 0) :
    Calls Try.prog 6 #[.slice oa l.length c] w fun e w' => e = .returned (.bool true) ∧ Kept w w' := by
  have hnot : ∀ (x : Bool) (w : World), (Op.unary .not (.bool x)).run Try.prog w = .ok (.bool (!x)) w := fun _ _ => rfl
  have hle := h.le
  have HA : Hid _ := anchor_any w
  have HR : Hid (∀ W, Kept w W → _) := fun W (k : Kept w W) => app_lit (c := c) (h.on k).data h.nil (by omega)
  have HO : Hid (∀ base W v, OwnB base W v l → _) := fun base W v (o : OwnB base W v l) => open_own o h.byts (by omega)
  have ER : rNum l 0 0 72057594037927935 = ((0, (num 8 l).2.2), (0, (num 8 l).2.2)) := by
    unfold rNum rNumQ
    rw [if_neg (by decide), List.drop_zero, if_pos he]
  obtain ⟨z, ez⟩ : ∃ z, z = (num 8 l).2.2 := ⟨_, rfl⟩
  rw [← ez] at ER he
  have HN : Hid (∀ W cb a cap, Cu W cb a cap l 0 0 → _) := fun W cb a cap (u : Cu W cb a cap l 0 0) => number_any u 72057594037927935
  rw [ER] at HN
  have hz : (z != 0) = true := by simpa using he
  have hzz : (z == z) = true := by simp
  obtain ⟨n, en⟩ : ∃ n, n = l.length := ⟨_, rfl⟩
  have hL : Hid (∀ W cb a cap, Cu W cb a cap l 0 z → _) := fun W cb a cap (u : Cu W cb a cap l 0 z) => left_any u
  rw [← en] at HR ⊢
  rw [Nat.sub_zero, ← en] at hL
  have hnn : ((n : Int) == (n : Int)) = true := by simp
  clear h hle ez ER en
  go_enter Try.func6, Try.ntmps6
  go_wp2_with fail
  refine Calls.mono HA.out ?_
  rintro e w1 ⟨rfl, k1⟩
  have K1 : Hid _ := k1
  clear k1
  go_wp2_with (at_builtin; refine wpList_app rfl (.tmp 11) (.tmp 12) 22 22 rfl _ _ rfl rfl _ (HR.out _ K1.out) ?_; rintro v2 w2 ⟨o2, k2⟩)
  refine Calls.mono (HO.out _ _ _ o2) ?_
  rintro e w3 ⟨v3, rfl, ⟨cb, a, cap, rfl, u3, hcb, -⟩, k3⟩
  have K3 : Hid (Kept w w3) := (Same.trans' K1.out k2).trans' k3
  have HB : Hid (w.heap.size ≤ cb) := by have := K1.out.size; have := k2.size; show _ ≤ cb; omega
  have H4 : Hid _ := HN.out _ _ _ _ u3
  clear o2 k2 u3 hcb k3
  go_wp2_with fail
  refine Calls.mono H4.out ?_
  rintro e w4 ⟨rfl, u4, s4⟩
  have K4 : Hid (Kept w w4) := Same.trans K3.out s4 (fun i hi e => by have := HB.out; omega)
  have H5 : Hid _ := offset_any u4
  have H6 : Hid _ := fault_any u4
  have H7 : Hid _ := hL.out _ _ _ _ u4
  clear u4 s4
  go_wp2_with fail
  refine Calls.mono H5.out ?_
  rintro e w5 ⟨rfl, rfl⟩
  go_wp2_with fail
  refine Calls.mono H6.out ?_
  rintro e w6 ⟨rfl, rfl⟩
  go_wp2_with fail
  refine Calls.mono H7.out ?_
  rintro e w7 ⟨rfl, k7⟩
  have K7 : Hid (Kept w w7) := Same.trans' K4.out k7
  clear k7
  go_wp2_with fail
  go_ret
  exact ⟨rfl, K7.out⟩
theorem bytes_take {w : World} {oa : Option Addr} {l : List Int} (h : BytesAt w oa l) (n : Nat) : BytesAt w oa (l.take n) := fun j x hx => by
  have hj := (List.getElem?_eq_some_iff.1 hx).1
  simp only [List.length_take] at hj
  rw [List.getElem?_take_of_lt (by omega)] at hx
  exact h j x hx

set_option maxRecDepth 100000 in
set_option maxHeartbeats 1600000 in
theorem one_ok (w : World) (oa : Option Addr) (c : Nat) (l : List Int) (h : ArgB w oa c l) (he : (num 8 l).2.2 = 0) :
    Calls Try.prog 6 #[.slice oa l.length c] w fun e w' => e = .returned (.bool true) ∧ Kept w w' := by
  have hnot : ∀ (x : Bool) (w : World), (Op.unary .not (.bool x)).run Try.prog w = .ok (.bool (!x)) w := fun _ _ => rfl
  have hle := h.le
  have HA : Hid _ := anchor_any w
  have HR : Hid (∀ W, Kept w W → _) := fun W (k : Kept w W) => app_lit (c := c) (h.on k).data h.nil (by omega)
  have HO : Hid (∀ base W v, OwnB base W v l → _) := fun base W v (o : OwnB base W v l) => open_own o h.byts (by omega)
  obtain ⟨o1, o2, o3, o4, o5, -⟩ := num_one (by decide) h.byts he
  have hmax : (num 8 l).1 ≤ 72057594037927935 := by omega
  have ER : rNum l 0 0 72057594037927935 = ((((num 8 l).1 : Int), 0), ((num 8 l).2.1, 0)) := by
    unfold rNum rNumQ
    rw [if_neg (by decide), List.drop_zero, if_neg (by simpa using he), if_neg (by omega), Nat.zero_add]
  obtain ⟨k, ek⟩ : ∃ k, k = (num 8 l).1 := ⟨_, rfl⟩
  obtain ⟨s, es⟩ : ∃ s, s = (num 8 l).2.1 := ⟨_, rfl⟩
  rw [← ek] at ER hmax o1
  rw [← es] at ER o1 o2 o3 o4
  have hfl : (form k).length = s := by rw [o1]; simp; omega
  have HN : Hid (∀ W cb a cap, Cu W cb a cap l 0 0 → _) := fun W cb a cap (u : Cu W cb a cap l 0 0) => number_any u 72057594037927935
  rw [ER] at HN
  have HSZ : Hid (∀ W, _) := fun W => size_any k W hmax
  rw [hfl] at HSZ
  have HAP : Hid (∀ W, _) := fun W => append_any W none 0 [] k (BytesAt.nil _ _) (fun _ => ⟨rfl, rfl⟩) (by decide) hmax
  rw [List.nil_append] at HAP
  have HFL : Hid _ := hfl
  obtain ⟨b, off, rfl, -, -⟩ := h.data 0 (l[0]'(by omega)) (List.getElem?_eq_getElem _)
  have HSM : Hid (∀ W (g c1 c2 : Nat), Kept w W → BytesAt W (some ⟨g, 0, none⟩) (form k) → Calls Try.prog 18 #[.slice (some ⟨g, 0, none⟩) s c1, .slice (some ⟨b, off, none⟩) s c2] W fun e w' => e = .returned (.bool true) ∧ w' = W) := fun W g c1 c2 kw hg => by
    have := same_true W (some ⟨g, 0, none⟩) (some ⟨b, off, none⟩) c1 c2 (form k) hg (by rw [o1]; exact bytes_take (h.on kw).data s) (by rw [hfl]; omega)
    rwa [hfl] at this
  have hcap := h.cap
  obtain ⟨n, en⟩ : ∃ n, n = l.length := ⟨_, rfl⟩
  rw [← en] at HR o2 hle hcap ⊢
  have d1 : decide ((s : Int) < 1) = false := decide_eq_false (by omega)
  have d2 : decide (8 < (s : Int)) = false := decide_eq_false (by omega)
  have d3 : decide ((n : Int) < (s : Int)) = false := decide_eq_false (by omega)
  have d1' : 1 ≤ (s : Int) := by omega
  have d2' : (s : Int) ≤ 8 := by omega
  have d3' : (s : Int) ≤ (n : Int) := by omega
  have d4 : ((s : Int) != (s : Int)) = false := by simp
  have d5 : (s : Int) ≤ (c : Int) := by omega
  have d6 : ¬ c = 0 := by omega
  clear h ek es ER en hle o1 hfl hcap o2 o3 o4 o5 he
  go_enter Try.func6, Try.ntmps6
  go_wp2_with fail
  refine Calls.mono HA.out ?_
  rintro e w1 ⟨rfl, k1⟩
  have K1 : Hid _ := k1
  clear k1
  go_wp2_with (at_builtin; refine wpList_app rfl (.tmp 11) (.tmp 12) 22 22 rfl _ _ rfl rfl _ (HR.out _ K1.out) ?_; rintro v2 w2 ⟨o2, k2⟩)
  refine Calls.mono (HO.out _ _ _ o2) ?_
  rintro e w3 ⟨v3, rfl, ⟨cb, a, cap, rfl, u3, hcb, -⟩, k3⟩
  have K3 : Hid (Kept w w3) := (Same.trans' K1.out k2).trans' k3
  have HB : Hid (w.heap.size ≤ cb) := by have := K1.out.size; have := k2.size; show _ ≤ cb; omega
  have H4 : Hid _ := HN.out _ _ _ _ u3
  clear o2 k2 u3 hcb k3
  go_wp2_with fail
  refine Calls.mono H4.out ?_
  rintro e w4 ⟨rfl, u4, s4⟩
  have K4 : Hid (Kept w w4) := Same.trans K3.out s4 (fun i hi e => by have := HB.out; omega)
  have H5 : Hid _ := offset_any u4
  clear u4 s4
  go_wp2_with fail
  refine Calls.mono H5.out ?_
  rintro e w5 ⟨rfl, rfl⟩
  go_wp2_with fail
  refine Calls.mono (HSZ.out _) ?_
  rintro e w6 ⟨rfl, rfl⟩
  go_wp2_with fail
  refine Calls.mono (HAP.out _) ?_
  rintro e w7 ⟨v7, rfl, o7, k7⟩
  have K7 : Hid (Kept w w7) := Same.trans' K4.out k7
  obtain ⟨a7, c7, rfl, b7, -, -, ha7, -⟩ := OwnB.bytes o7
  obtain ⟨g7, rfl⟩ : ∃ g, a7 = some ⟨g, 0, none⟩ := by
    obtain ⟨b', off', rfl, -, -⟩ := b7 0 _ (List.getElem?_eq_getElem (form_pos k))
    exact ⟨b', by rw [(ha7 b' off' rfl).2]⟩
  have H8 : Hid _ := HSM.out _ g7 c7 c K7.out b7
  rw [HFL.out]
  clear k7 o7 b7 ha7
  go_wp2_with fail
  refine Calls.mono H8.out ?_
  rintro e w8 ⟨rfl, rfl⟩
  go_wp2_with fail
  go_ret
  exact ⟨rfl, K7.out⟩
end Go.Proofs.Ytfedenfnkimngaa
