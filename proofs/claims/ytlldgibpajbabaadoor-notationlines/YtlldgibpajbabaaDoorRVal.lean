/- What is proved: Valid tells what the document says of a transaction that lies in memory, right or not; no condition. -/
import Derived.Test.YtlldgibpajbabaaDoorRTxn
namespace Go.Proofs.YtlldgibpajbabaaDoor
open Go.RowKit

set_option maxRecDepth 100000 in
theorem within_any (n most : Int) (w : World) : Calls Tryd.prog 54 #[.int .i64 n, .int .i64 most] w fun e w' => e = .returned (.bool (decide (inB n most))) ∧ w' = w := by
  unfold inB
  by_cases h : 0 ≤ n
  · have h' : decide (0 ≤ n) = true := decide_eq_true h
    have h2 : decide (0 ≤ n ∧ n ≤ most) = decide (n ≤ most) := by simp [h]
    rw [h2]
    clear h h2
    go_enter Tryd.func54, Tryd.ntmps54
    go_wp2_with fail
    go_ret
    exact ⟨rfl, rfl⟩
  · have h' : decide (0 ≤ n) = false := decide_eq_false h
    have h2 : decide (0 ≤ n ∧ n ≤ most) = false := by simp [h]
    rw [h2]
    clear h h2
    go_enter Tryd.func54, Tryd.ntmps54
    go_wp2_with fail
    go_ret
    exact ⟨rfl, rfl⟩

set_option maxRecDepth 100000 in
set_option maxHeartbeats 1600000 in
theorem rightFields_any (t : TxM) (a : Option Addr) (n c : Nat) (w : World) : Calls Tryd.prog 33 #[txV t (.slice a n c)] w fun e w' => e = .returned (.bool (decide (rightF t))) ∧ Kept w w' := by
  have H0 : Hid (∀ W, _) := fun W => within_any t.f0 1048575 W
  have H1 : Hid (∀ W, _) := fun W => within_any t.f1 1048575 W
  have H2 : Hid (∀ W, _) := fun W => within_any t.f2 1099511627776 W
  have H3 : Hid (∀ W, _) := fun W => within_any t.f3 1099511627776 W
  have H4 : Hid (∀ W, _) := fun W => within_any t.f4 1099511627776 W
  have H5 : Hid (∀ W, _) := fun W => within_any t.f5 1099511627776 W
  have H6 : Hid (∀ W, _) := fun W => within_any t.f6 1 W
  obtain ⟨b0, e0⟩ : ∃ b : Bool, b = decide (inB t.f0 1048575) := ⟨_, rfl⟩
  rw [← e0] at H0
  obtain ⟨b1, e1⟩ : ∃ b : Bool, b = decide (inB t.f1 1048575) := ⟨_, rfl⟩
  rw [← e1] at H1
  obtain ⟨b2, e2⟩ : ∃ b : Bool, b = decide (inB t.f2 1099511627776) := ⟨_, rfl⟩
  rw [← e2] at H2
  obtain ⟨b3, e3⟩ : ∃ b : Bool, b = decide (inB t.f3 1099511627776) := ⟨_, rfl⟩
  rw [← e3] at H3
  obtain ⟨b4, e4⟩ : ∃ b : Bool, b = decide (inB t.f4 1099511627776) := ⟨_, rfl⟩
  rw [← e4] at H4
  obtain ⟨b5, e5⟩ : ∃ b : Bool, b = decide (inB t.f5 1099511627776) := ⟨_, rfl⟩
  rw [← e5] at H5
  obtain ⟨b6, e6⟩ : ∃ b : Bool, b = decide (inB t.f6 1) := ⟨_, rfl⟩
  rw [← e6] at H6
  have HR : Hid (decide (rightF t) = (b0 && b1 && b2 && b3 && b4 && b5 && b6)) := by
    show decide (rightF t) = _
    rw [e0, e1, e2, e3, e4, e5, e6, Bool.eq_iff_iff, decide_eq_true_iff]
    simp only [rightF, Bool.and_eq_true, decide_eq_true_eq, and_assoc]
  rw [HR.out]
  clear HR e0 e1 e2 e3 e4 e5 e6
  unfold txV
  cases b0 with
  | false =>
    go_enter Tryd.func33, Tryd.ntmps33
    go_wp2_with fail
    refine Calls.mono (H0.out _) ?_
    rintro r w1 ⟨rfl, rfl⟩
    go_wp2_with fail
    go_ret
    exact ⟨rfl, (Same.refl _ w).alloc _⟩
  | true =>
    cases b1 with
    | false =>
      go_enter Tryd.func33, Tryd.ntmps33
      go_wp2_with fail
      refine Calls.mono (H0.out _) ?_
      rintro r w1 ⟨rfl, rfl⟩
      go_wp2_with fail
      refine Calls.mono (H1.out _) ?_
      rintro r w1 ⟨rfl, rfl⟩
      go_wp2_with fail
      go_ret
      exact ⟨rfl, (Same.refl _ w).alloc _⟩
    | true =>
      cases b2 with
      | false =>
        go_enter Tryd.func33, Tryd.ntmps33
        go_wp2_with fail
        refine Calls.mono (H0.out _) ?_
        rintro r w1 ⟨rfl, rfl⟩
        go_wp2_with fail
        refine Calls.mono (H1.out _) ?_
        rintro r w1 ⟨rfl, rfl⟩
        go_wp2_with fail
        refine Calls.mono (H2.out _) ?_
        rintro r w1 ⟨rfl, rfl⟩
        go_wp2_with fail
        go_ret
        exact ⟨rfl, (Same.refl _ w).alloc _⟩
      | true =>
        cases b3 with
        | false =>
          go_enter Tryd.func33, Tryd.ntmps33
          go_wp2_with fail
          refine Calls.mono (H0.out _) ?_
          rintro r w1 ⟨rfl, rfl⟩
          go_wp2_with fail
          refine Calls.mono (H1.out _) ?_
          rintro r w1 ⟨rfl, rfl⟩
          go_wp2_with fail
          refine Calls.mono (H2.out _) ?_
          rintro r w1 ⟨rfl, rfl⟩
          go_wp2_with fail
          refine Calls.mono (H3.out _) ?_
          rintro r w1 ⟨rfl, rfl⟩
          go_wp2_with fail
          go_ret
          exact ⟨rfl, (Same.refl _ w).alloc _⟩
        | true =>
          cases b4 with
          | false =>
            go_enter Tryd.func33, Tryd.ntmps33
            go_wp2_with fail
            refine Calls.mono (H0.out _) ?_
            rintro r w1 ⟨rfl, rfl⟩
            go_wp2_with fail
            refine Calls.mono (H1.out _) ?_
            rintro r w1 ⟨rfl, rfl⟩
            go_wp2_with fail
            refine Calls.mono (H2.out _) ?_
            rintro r w1 ⟨rfl, rfl⟩
            go_wp2_with fail
            refine Calls.mono (H3.out _) ?_
            rintro r w1 ⟨rfl, rfl⟩
            go_wp2_with fail
            refine Calls.mono (H4.out _) ?_
            rintro r w1 ⟨rfl, rfl⟩
            go_wp2_with fail
            go_ret
            exact ⟨rfl, (Same.refl _ w).alloc _⟩
          | true =>
            cases b5 with
            | false =>
              go_enter Tryd.func33, Tryd.ntmps33
              go_wp2_with fail
              refine Calls.mono (H0.out _) ?_
              rintro r w1 ⟨rfl, rfl⟩
              go_wp2_with fail
              refine Calls.mono (H1.out _) ?_
              rintro r w1 ⟨rfl, rfl⟩
              go_wp2_with fail
              refine Calls.mono (H2.out _) ?_
              rintro r w1 ⟨rfl, rfl⟩
              go_wp2_with fail
              refine Calls.mono (H3.out _) ?_
              rintro r w1 ⟨rfl, rfl⟩
              go_wp2_with fail
              refine Calls.mono (H4.out _) ?_
              rintro r w1 ⟨rfl, rfl⟩
              go_wp2_with fail
              refine Calls.mono (H5.out _) ?_
              rintro r w1 ⟨rfl, rfl⟩
              go_wp2_with fail
              go_ret
              exact ⟨rfl, (Same.refl _ w).alloc _⟩
            | true =>
              cases b6 with
              | false =>
                go_enter Tryd.func33, Tryd.ntmps33
                go_wp2_with fail
                refine Calls.mono (H0.out _) ?_
                rintro r w1 ⟨rfl, rfl⟩
                go_wp2_with fail
                refine Calls.mono (H1.out _) ?_
                rintro r w1 ⟨rfl, rfl⟩
                go_wp2_with fail
                refine Calls.mono (H2.out _) ?_
                rintro r w1 ⟨rfl, rfl⟩
                go_wp2_with fail
                refine Calls.mono (H3.out _) ?_
                rintro r w1 ⟨rfl, rfl⟩
                go_wp2_with fail
                refine Calls.mono (H4.out _) ?_
                rintro r w1 ⟨rfl, rfl⟩
                go_wp2_with fail
                refine Calls.mono (H5.out _) ?_
                rintro r w1 ⟨rfl, rfl⟩
                go_wp2_with fail
                refine Calls.mono (H6.out _) ?_
                rintro r w1 ⟨rfl, rfl⟩
                go_wp2_with fail
                go_ret
                exact ⟨rfl, (Same.refl _ w).alloc _⟩
              | true =>
                go_enter Tryd.func33, Tryd.ntmps33
                go_wp2_with fail
                refine Calls.mono (H0.out _) ?_
                rintro r w1 ⟨rfl, rfl⟩
                go_wp2_with fail
                refine Calls.mono (H1.out _) ?_
                rintro r w1 ⟨rfl, rfl⟩
                go_wp2_with fail
                refine Calls.mono (H2.out _) ?_
                rintro r w1 ⟨rfl, rfl⟩
                go_wp2_with fail
                refine Calls.mono (H3.out _) ?_
                rintro r w1 ⟨rfl, rfl⟩
                go_wp2_with fail
                refine Calls.mono (H4.out _) ?_
                rintro r w1 ⟨rfl, rfl⟩
                go_wp2_with fail
                refine Calls.mono (H5.out _) ?_
                rintro r w1 ⟨rfl, rfl⟩
                go_wp2_with fail
                refine Calls.mono (H6.out _) ?_
                rintro r w1 ⟨rfl, rfl⟩
                go_wp2_with fail
                go_ret
                exact ⟨rfl, (Same.refl _ w).alloc _⟩

theorem isEmpty_size (s : ByteArray) : s.toList.isEmpty = decide (s.size = 0) := by
  rw [Lib.toList_data, Bool.eq_iff_iff, decide_eq_true_iff, List.isEmpty_iff, ← List.length_eq_zero_iff, Array.length_toList]
  rfl
set_option maxRecDepth 100000 in
set_option maxHeartbeats 6400000 in
theorem wrongOp_any (o : OpM) (w : World) : Calls Tryd.prog 35 #[opV o] w fun e w' => e = .returned (.bool (!decide (rightO o))) ∧ Kept w w' := by
  have hnot : ∀ (x : Bool) (w : World), (Op.unary .not (.bool x)).run Tryd.prog w = .ok (.bool (!x)) w := fun _ _ => rfl
  obtain ⟨B, eB⟩ : ∃ B : Bool, B = !decide (rightO o) := ⟨_, rfl⟩
  rw [← eB]
  obtain ⟨kind, key, found, value⟩ := o
  unfold rightO at eB
  unfold opV
  simp only at eB ⊢
  have E1 := isEmpty_size key
  have E2 := isEmpty_size value
  by_cases h1 : key.size = 0
  · have d1 : key.toList.isEmpty = true := by rw [E1]; exact decide_eq_true h1
    obtain rfl : B = true := by rw [eB]; simp [h1]
    clear eB E1 E2
    go_enter Tryd.func35, Tryd.ntmps35
    go_wp2_with fail
    go_ret
    exact ⟨rfl, (Same.refl _ w).alloc _⟩
  have d1 : key.toList.isEmpty = false := by rw [E1]; exact decide_eq_false h1
  by_cases h2 : 8 < key.size
  · have d2 : decide ((8 : Int) < (key.size : Int)) = true := decide_eq_true (by omega)
    have d2' : (8 : Int) < (key.size : Int) := by omega
    obtain rfl : B = true := by rw [eB]; simp [h2]
    clear eB E1 E2
    go_enter Tryd.func35, Tryd.ntmps35
    go_wp2_with fail
    go_ret
    exact ⟨rfl, (Same.refl _ w).alloc _⟩
  have d2 : decide ((8 : Int) < (key.size : Int)) = false := decide_eq_false (by omega)
  have d2' : ¬ (8 : Int) < (key.size : Int) := by omega
  by_cases h3 : 16 < value.size
  · have d3 : decide ((16 : Int) < (value.size : Int)) = true := decide_eq_true (by omega)
    have d3' : (16 : Int) < (value.size : Int) := by omega
    obtain rfl : B = true := by rw [eB]; simp [h3]
    clear eB E1 E2
    go_enter Tryd.func35, Tryd.ntmps35
    go_wp2_with fail
    go_ret
    exact ⟨rfl, (Same.refl _ w).alloc _⟩
  have d3 : decide ((16 : Int) < (value.size : Int)) = false := decide_eq_false (by omega)
  have d3' : ¬ (16 : Int) < (value.size : Int) := by omega
  by_cases k2 : kind = 2
  · subst k2
    cases found with
    | false =>
      obtain rfl : B = true := by rw [eB]; simp []
      clear eB E1 E2
      go_enter Tryd.func35, Tryd.ntmps35
      go_wp2_with fail
      go_ret
      exact ⟨rfl, (Same.refl _ w).alloc _⟩
    | true =>
      obtain rfl : B = false := by rw [eB]; simp [h1, h2, h3]
      clear eB E1 E2
      go_enter Tryd.func35, Tryd.ntmps35
      go_wp2_with fail
      go_ret
      exact ⟨rfl, (Same.refl _ w).alloc _⟩
  have t2 : (kind == 2) = false := by simpa using k2
  by_cases k3 : kind = 3
  · subst k3
    cases found with
    | true =>
      obtain rfl : B = true := by rw [eB]; simp []
      clear eB E1 E2
      go_enter Tryd.func35, Tryd.ntmps35
      go_wp2_with fail
      go_ret
      exact ⟨rfl, (Same.refl _ w).alloc _⟩
    | false =>
      by_cases h4 : value.size = 0
      · have d4 : value.toList.isEmpty = true := by rw [E2]; exact decide_eq_true h4
        obtain rfl : B = false := by rw [eB]; simp [h1, h2, h4]
        clear eB E1 E2
        go_enter Tryd.func35, Tryd.ntmps35
        go_wp2_with fail
        go_ret
        exact ⟨rfl, (Same.refl _ w).alloc _⟩
      · have d4 : value.toList.isEmpty = false := by rw [E2]; exact decide_eq_false h4
        obtain rfl : B = true := by rw [eB]; simp [h4]
        clear eB E1 E2
        go_enter Tryd.func35, Tryd.ntmps35
        go_wp2_with fail
        go_ret
        exact ⟨rfl, (Same.refl _ w).alloc _⟩
  have t3 : (kind == 3) = false := by simpa using k3
  by_cases k1 : kind = 1
  · subst k1
    cases found with
    | true =>
      obtain rfl : B = false := by rw [eB]; simp [h1, h2, h3]
      clear eB E1 E2
      go_enter Tryd.func35, Tryd.ntmps35
      go_wp2_with fail
      go_ret
      exact ⟨rfl, (Same.refl _ w).alloc _⟩
    | false =>
      by_cases h4 : value.size = 0
      · have d4 : value.toList.isEmpty = true := by rw [E2]; exact decide_eq_true h4
        obtain rfl : B = false := by rw [eB]; simp [h1, h2, h4]
        clear eB E1 E2
        go_enter Tryd.func35, Tryd.ntmps35
        go_wp2_with fail
        go_ret
        exact ⟨rfl, (Same.refl _ w).alloc _⟩
      · have d4 : value.toList.isEmpty = false := by rw [E2]; exact decide_eq_false h4
        obtain rfl : B = true := by rw [eB]; simp [h4]
        clear eB E1 E2
        go_enter Tryd.func35, Tryd.ntmps35
        go_wp2_with fail
        go_ret
        exact ⟨rfl, (Same.refl _ w).alloc _⟩
  have t1 : (kind == 1) = false := by simpa using k1
  obtain rfl : B = true := by rw [eB]; simp [k1, k2, k3]
  clear eB E1 E2
  go_enter Tryd.func35, Tryd.ntmps35
  go_wp2_with fail
  go_ret
  exact ⟨rfl, (Same.refl _ w).alloc _⟩

/-- What IndexFunc answers. -/
def FoundO (p : OpM → Bool) (L : List OpM) (r : Ending) : Prop :=
  (∃ (i : Nat) (e : OpM), r = .returned (.int .i64 i) ∧ L[i]? = some e ∧ p e = true) ∨ (r = .returned (.int .i64 (-1)) ∧ ∀ e ∈ L, p e = false)
theorem none_takeO {p : OpM → Bool} {L : List OpM} {j : Nat} {e : OpM} (he : L[j]? = some e) (h : ∀ x ∈ L.take j, p x = false) (hp : p e = false) : ∀ x ∈ L.take (j + 1), p x = false := by
  intro x hx
  rw [List.take_add_one, he] at hx
  rcases List.mem_append.1 hx with hx | hx
  · exact h x hx
  · simp at hx
    subst hx
    exact hp
def wrongO (o : OpM) : Bool := !decide (rightO o)
set_option maxRecDepth 100000 in
set_option maxHeartbeats 1600000 in
theorem index_wrong (a : Option Addr) (L : List OpM) (cap : Nat) (w : World) (hL : OpsAt w a L) (hn : L.length ≤ 16) :
    Calls Tryd.prog 55 #[.slice a L.length cap, .func (.func 35) #[] #[]] w fun r w' => FoundO wrongO L r ∧ Kept w w' := by
  have HF : Hid (∀ e w', _) := fun e w' => wrongOp_any e w'
  obtain ⟨n, en⟩ : ∃ n, n = L.length := ⟨_, rfl⟩
  rw [← en] at hn ⊢
  have EN : Hid _ := en
  have HL : Hid _ := hL
  clear hL en
  unfold opV at HF
  go_enter Tryd.func55, Tryd.ntmps55
  go_wp2_with fail
  go_loopw [8] (fun i wr => ∃ j : Nat, j ≤ n ∧ i = .int .i64 j ∧ (∀ e ∈ L.take j, wrongO e = false) ∧ Kept w wr) (fun i _ => n - (intOf i).toNat)
  case atStart => exact ⟨0, Nat.zero_le _, rfl, by simp, Same.refl _ _⟩
  case round =>
    obtain ⟨j, hj, rfl, hno, kk⟩ := hrel
    have HNO : Hid _ := hno
    have KK : Hid _ := kk
    clear hno
    by_cases hlt : j < n
    · have c1 : decide ((j : Int) < (n : Int)) = true := by simp only [decide_eq_true_eq]; omega
      have hlt2 : (j : Int) < (n : Int) := by omega
      obtain ⟨e, he⟩ : ∃ e, L[j]? = some e := ⟨_, List.getElem?_eq_getElem (by rw [← EN.out]; exact hlt)⟩
      obtain ⟨b, off, rfl, hb, q0, q1, q2, q3⟩ := (OpsAt.on HL.out kk) j e he
      have HE : Hid _ := he
      have HC : Hid (∀ w', _) := HF.out e
      clear he kk
      have hpe0 : (!decide (rightO e)) = wrongO e := rfl
      rw [hpe0] at HC
      clear hpe0
      generalize hpe : wrongO e = pe at HC
      have HP : Hid _ := hpe
      clear hpe
      cases pe with
      | true =>
        go_wp2_with fail
        refine Calls.mono (HC.out _) ?_
        rintro r w1 ⟨rfl, k1⟩
        go_wp2_with fail
        go_ret
        exact ⟨.inl ⟨j, e, rfl, HE.out, HP.out⟩, KK.out.trans' k1⟩
      | false =>
        go_wp2_with fail
        refine Calls.mono (HC.out _) ?_
        rintro r w1 ⟨rfl, k1⟩
        go_wp2_with fail
        go_roundw
        case rel => exact ⟨j + 1, by omega, by simp, none_takeO HE.out HNO.out HP.out, KK.out.trans' k1⟩
        case measure => simp only [intOf]; omega
    · have c1 : decide ((j : Int) < (n : Int)) = false := by simp only [decide_eq_false_iff_not]; omega
      obtain rfl : j = n := by omega
      clear kk
      go_wp2_with fail
      go_ret
      refine ⟨.inr ⟨rfl, ?_⟩, KK.out⟩
      have := HNO.out
      rw [EN.out, List.take_length] at this
      exact this
set_option maxRecDepth 100000 in
theorem contains_wrong (a : Option Addr) (L : List OpM) (cap : Nat) (w : World) (hL : OpsAt w a L) (hn : L.length ≤ 16) :
    Calls Tryd.prog 34 #[.slice a L.length cap, .func (.func 35) #[] #[]] w fun r w' => r = .returned (.bool (decide (∃ o ∈ L, ¬ rightO o))) ∧ Kept w w' := by
  have HC : Hid _ := index_wrong a L cap w hL hn
  obtain ⟨n, en⟩ : ∃ n, n = L.length := ⟨_, rfl⟩
  rw [← en] at HC ⊢
  obtain ⟨b, eb⟩ : ∃ b : Bool, b = decide (∃ o ∈ L, ¬ rightO o) := ⟨_, rfl⟩
  rw [← eb]
  have HB : Hid _ := eb
  clear hL hn en eb
  go_enter Tryd.func34, Tryd.ntmps34
  go_wp2_with fail
  refine Calls.mono HC.out ?_
  rintro r w1 ⟨⟨i, e, rfl, he, hp⟩ | ⟨rfl, hp⟩, k1⟩
  · have hd : b = true := by
      rw [HB.out]
      exact decide_eq_true ⟨e, List.mem_of_getElem? he, by simpa [wrongO] using hp⟩
    have hi : decide ((0 : Int) ≤ (i : Int)) = true := decide_eq_true (by omega)
    clear he hp
    subst hd
    go_wp2_with fail
    go_ret
    exact ⟨rfl, k1⟩
  · have hd : b = false := by
      rw [HB.out]
      refine decide_eq_false ?_
      rintro ⟨o, ho, hn⟩
      have := hp o ho
      exact hn (by simpa [wrongO] using this)
    clear hp
    subst hd
    go_wp2_with fail
    go_ret
    exact ⟨rfl, k1⟩
/-- The value v is the transaction t in w. -/
def TxA (w : World) (t : TxM) (v : Value) : Prop := ∃ a c, v = txV t (.slice a t.ops.length c) ∧ OpsAt w a t.ops
theorem TxA.on {w w' : World} {t : TxM} {v : Value} (h : TxA w t v) (k : Kept w w') : TxA w' t v := by
  obtain ⟨a, c, e, ho⟩ := h
  exact ⟨a, c, e, ho.on k⟩
set_option maxRecDepth 100000 in
set_option maxHeartbeats 1600000 in
theorem valid_any (w : World) (t : TxM) (v : Value) (h : TxA w t v) : Calls Tryd.prog 19 #[v] w fun e w' => e = .returned (.int .i64 (valid t)) ∧ Kept w w' := by
  have hnot : ∀ (x : Bool) (w : World), (Op.unary .not (.bool x)).run Tryd.prog w = .ok (.bool (!x)) w := fun _ _ => rfl
  obtain ⟨a, c, rfl, ho⟩ := h
  have HR : Hid (∀ W, _) := fun W => rightFields_any t a t.ops.length c W
  unfold valid
  by_cases h1 : rightF t
  · rw [decide_eq_true h1] at HR
    rw [if_neg (by simpa using h1)]
    by_cases h2 : 16 < t.ops.length
    · rw [if_pos h2]
      unfold txV at *
      obtain ⟨n, en⟩ : ∃ n, n = t.ops.length := ⟨_, rfl⟩
      rw [← en] at HR h2 ⊢
      have d2 : decide ((16 : Int) < (n : Int)) = true := decide_eq_true (by omega)
      have d2' : (16 : Int) < (n : Int) := by omega
      clear ho h1 en
      go_enter Tryd.func19, Tryd.ntmps19
      go_wp2_with fail
      refine Calls.mono (HR.out _) ?_
      rintro r w1 ⟨rfl, k1⟩
      have c7 : w1.cell? ⟨w.heap.size, 7, none⟩ = some (.slice a n c) := (cell_of ((k1.block w.heap.size (by simp [World.size_alloc]) (fun h => h)).trans (heap_new w _)) 7).trans rfl
      have K1 : Hid (Kept w w1) := ((Same.refl _ w).alloc _).trans' k1
      clear k1
      go_wp2_with fail
      go_ret
      exact ⟨rfl, K1.out⟩
    · rw [if_neg h2]
      have HC : Hid (∀ W, Kept w W → _) := fun W (k : Kept w W) => contains_wrong a t.ops c W (ho.on k) (by omega)
      have hif : (if ∃ o ∈ t.ops, ¬ rightO o then (64 : Int) else 0) = if decide (∃ o ∈ t.ops, ¬ rightO o) = true then 64 else 0 := by simp only [decide_eq_true_eq]
      rw [hif]
      generalize decide (∃ o ∈ t.ops, ¬ rightO o) = b at HC ⊢
      unfold txV at *
      obtain ⟨n, en⟩ : ∃ n, n = t.ops.length := ⟨_, rfl⟩
      rw [← en] at HR HC h2 ⊢
      have d2 : decide ((16 : Int) < (n : Int)) = false := decide_eq_false (by omega)
      have d2' : ¬ (16 : Int) < (n : Int) := by omega
      clear ho h1 en hif
      cases b
      all_goals
        go_enter Tryd.func19, Tryd.ntmps19
        go_wp2_with fail
        refine Calls.mono (HR.out _) ?_
        rintro r w1 ⟨rfl, k1⟩
        have c7 : w1.cell? ⟨w.heap.size, 7, none⟩ = some (.slice a n c) := (cell_of ((k1.block w.heap.size (by simp [World.size_alloc]) (fun h => h)).trans (heap_new w _)) 7).trans rfl
        have K1 : Hid (Kept w w1) := ((Same.refl _ w).alloc _).trans' k1
        clear k1
        go_wp2_with fail
        refine Calls.mono (HC.out _ K1.out) ?_
        rintro r w2 ⟨rfl, k2⟩
        have K2 : Hid (Kept w w2) := Same.trans' K1.out k2
        clear k2
        go_wp2_with fail
        go_ret
        exact ⟨rfl, K2.out⟩
  · rw [decide_eq_false h1] at HR
    rw [if_pos h1]
    unfold txV at *
    clear ho h1
    go_enter Tryd.func19, Tryd.ntmps19
    go_wp2_with fail
    refine Calls.mono (HR.out _) ?_
    rintro r w1 ⟨rfl, k1⟩
    have K1 : Hid (Kept w w1) := ((Same.refl _ w).alloc _).trans' k1
    clear k1
    go_wp2_with fail
    go_ret
    exact ⟨rfl, K1.out⟩
end Go.Proofs.YtlldgibpajbabaaDoor
