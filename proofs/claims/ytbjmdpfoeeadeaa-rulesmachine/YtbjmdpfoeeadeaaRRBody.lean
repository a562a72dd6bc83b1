/- What is proved: the document's Body of a right transaction that lies in memory; no condition. -/
import Derived.Test.YtbjmdpfoeeadeaaREnc
namespace Go.Proofs.Ytbjmdpfoeeadeaa
open Go.RowKit

set_option maxRecDepth 100000 in
theorem number_ref {base : Nat} {w : World} {v : Value} {xs : List Int} (n : Nat) (hn : n ≤ 72057594037927935) (ho : OwnB base w v xs) (hb : xs.length + 8 ≤ 140737488355328) (hbase : base ≤ w.heap.size) :
    Calls Try.prog 56 #[v, .int .i64 (n : Int)] w fun e w' => ∃ v', e = .returned v' ∧ AppK base w v (xs ++ form n) v' w' := by
  have h8 := form8 hn
  have H1 : Hid _ := form_ref w n hn
  have H2 : Hid (∀ W u a c, Kept w W → u = .slice a (form n).length c → BytesAt W a (form n) → (a = none → (form n).length = 0 ∧ c = 0) → ∀ ty, ∃ v' w', (Builtin.append_ #[71, 71] ty #[v, u]).run Try.prog W = .ok v' w' ∧ AppK base w v (xs ++ form n) v' w') := fun W u a c k hu hd hn ty => by
    subst hu
    obtain ⟨v', w', h1, h2⟩ := app_bytesK (ho.kept k (fun _ _ h => h)) hd hn (by omega) (Nat.le_trans hbase k.size) ty
    exact ⟨v', w', h1, h2.old k⟩
  clear ho hb hbase h8 hn
  go_enter Try.func56, Try.ntmps56
  go_wp2_with fail
  refine Calls.mono H1.out ?_
  rintro e w1 ⟨v1, rfl, o1, k1⟩
  obtain ⟨a, c, rfl, hd, -, hnil, -, -⟩ := OwnB.bytes o1
  have HA : Hid _ := H2.out _ _ a c k1 rfl hd hnil
  clear H2 o1 hd hnil k1
  go_wp2_with (at_builtin; refine wpList_app rfl (.tmp 8) (.tmp 9) 71 71 rfl _ _ rfl rfl _ HA.out ?_; rintro v2 w2 h2)
  go_ret
  exact ⟨_, rfl, h2⟩
/-- A text's form, appended onto a row of one's own. -/
theorem app_text {base : Nat} {w w0 : World} {v u : Value} {xs : List Int} {s : ByteArray} (hs : s.size ≤ 16) (ho : OwnB base w0 v xs) (k : Kept w0 w) (hu : OwnB w0.heap.size w u (encT s)) (hb : xs.length + 24 ≤ 140737488355328) (hbase : base ≤ w0.heap.size) (ty : TypeId) :
    ∃ v' w', (Builtin.append_ #[71, 71] ty #[v, u]).run Try.prog w = .ok v' w' ∧ AppK base w0 v (xs ++ encT s) v' w' := by
  obtain ⟨a, c, rfl, hd, -, hnil, -, -⟩ := OwnB.bytes hu
  have h8 : (form s.size).length ≤ 8 := form8 (by omega)
  have hl := encT_len s
  obtain ⟨v', w', h1, h2⟩ := app_bytesK (ho.kept k (fun _ _ h => h)) hd hnil (by omega) (Nat.le_trans hbase k.size) ty
  exact ⟨v', w', h1, h2.old k⟩
theorem heads_forms (t : TxM) : forms (heads t) = form t.f0.toNat ++ (form t.f1.toNat ++ (form t.f2.toNat ++ (form t.f3.toNat ++ (form t.f4.toNat ++ (form t.f5.toNat ++ (form t.f6.toNat ++ form t.ops.length)))))) := by
  simp only [heads, forms, Int.toNat_natCast, List.append_nil]
set_option maxRecDepth 100000 in
set_option maxHeartbeats 6400000 in
theorem body_ref (w : World) (t : TxM) (v : Value) (h : TxA w t v) (hr : Right t) : Calls Try.prog 35 #[v] w fun e w' => ∃ u, e = .returned u ∧ OwnB w.heap.size w' u (body t) ∧ Kept w w' := by
  obtain ⟨a, c, rfl, ho⟩ := h
  have HO : Hid _ := ho
  have HR : Hid _ := hr
  have HT : Hid (∀ s : ByteArray, s.size ≤ 16 → ∀ W, _) := fun s (hs : s.size ≤ 16) W => text_ref W s (by omega)
  obtain ⟨k0, E0⟩ : ∃ k : Nat, t.f0 = (k : Int) ∧ k ≤ 1099511627776 := ⟨t.f0.toNat, by have := (heads_right hr (x := t.f0) (by simp [heads])); omega, by have := (heads_right hr (x := t.f0) (by simp [heads])); omega⟩
  obtain ⟨k1, E1⟩ : ∃ k : Nat, t.f1 = (k : Int) ∧ k ≤ 1099511627776 := ⟨t.f1.toNat, by have := (heads_right hr (x := t.f1) (by simp [heads])); omega, by have := (heads_right hr (x := t.f1) (by simp [heads])); omega⟩
  obtain ⟨k2, E2⟩ : ∃ k : Nat, t.f2 = (k : Int) ∧ k ≤ 1099511627776 := ⟨t.f2.toNat, by have := (heads_right hr (x := t.f2) (by simp [heads])); omega, by have := (heads_right hr (x := t.f2) (by simp [heads])); omega⟩
  obtain ⟨k3, E3⟩ : ∃ k : Nat, t.f3 = (k : Int) ∧ k ≤ 1099511627776 := ⟨t.f3.toNat, by have := (heads_right hr (x := t.f3) (by simp [heads])); omega, by have := (heads_right hr (x := t.f3) (by simp [heads])); omega⟩
  obtain ⟨k4, E4⟩ : ∃ k : Nat, t.f4 = (k : Int) ∧ k ≤ 1099511627776 := ⟨t.f4.toNat, by have := (heads_right hr (x := t.f4) (by simp [heads])); omega, by have := (heads_right hr (x := t.f4) (by simp [heads])); omega⟩
  obtain ⟨k5, E5⟩ : ∃ k : Nat, t.f5 = (k : Int) ∧ k ≤ 1099511627776 := ⟨t.f5.toNat, by have := (heads_right hr (x := t.f5) (by simp [heads])); omega, by have := (heads_right hr (x := t.f5) (by simp [heads])); omega⟩
  obtain ⟨k6, E6⟩ : ∃ k : Nat, t.f6 = (k : Int) ∧ k ≤ 1099511627776 := ⟨t.f6.toNat, by have := (heads_right hr (x := t.f6) (by simp [heads])); omega, by have := (heads_right hr (x := t.f6) (by simp [heads])); omega⟩
  obtain ⟨n, en⟩ : ∃ n, n = t.ops.length := ⟨_, rfl⟩
  have EN : Hid _ := en
  have hn16 : n ≤ 16 := by rw [en]; exact hr.2.1
  have HB : Hid (body t = form k0 ++ (form k1 ++ (form k2 ++ (form k3 ++ (form k4 ++ (form k5 ++ (form k6 ++ form n)))))) ++ encOs t.ops) := by
    show body t = _
    rw [body, heads_forms, E0.1, E1.1, E2.1, E3.1, E4.1, E5.1, E6.1, en]
    simp only [Int.toNat_natCast]
  have hf : forms (heads t) = form k0 ++ (form k1 ++ (form k2 ++ (form k3 ++ (form k4 ++ (form k5 ++ (form k6 ++ form n)))))) := by
    rw [heads_forms, E0.1, E1.1, E2.1, E3.1, E4.1, E5.1, E6.1, en]
    simp only [Int.toNat_natCast]
  have HFL : Hid ((form k0 ++ (form k1 ++ (form k2 ++ (form k3 ++ (form k4 ++ (form k5 ++ (form k6 ++ form n))))))).length ≤ 64) := by
    have := forms_take_len hr 8
    rw [List.take_of_length_le (by rw [heads_len]; exact Nat.le_refl _), hf] at this
    exact this
  unfold txV
  rw [← en, E0.1, E1.1, E2.1, E3.1, E4.1, E5.1, E6.1]
  have N0 : Hid (k0 ≤ 1099511627776) := E0.2
  have N1 : Hid (k1 ≤ 1099511627776) := E1.2
  have N2 : Hid (k2 ≤ 1099511627776) := E2.2
  have N3 : Hid (k3 ≤ 1099511627776) := E3.2
  have N4 : Hid (k4 ≤ 1099511627776) := E4.2
  have N5 : Hid (k5 ≤ 1099511627776) := E5.2
  have N6 : Hid (k6 ≤ 1099511627776) := E6.2
  clear hr ho en hf E0 E1 E2 E3 E4 E5 E6
  go_enter Try.func35, Try.ntmps35
  go_wp2_with fail
  generalize eW : w.alloc (.cells #[.int .i64 (k0 : Int), .int .i64 (k1 : Int), .int .i64 (k2 : Int), .int .i64 (k3 : Int), .int .i64 (k4 : Int), .int .i64 (k5 : Int), .int .i64 (k6 : Int), .slice a n c] 24 (0, 0)) = W0
  have X0 : Hid (W0.heap[w.heap.size]? = some (.cells #[.int .i64 (k0 : Int), .int .i64 (k1 : Int), .int .i64 (k2 : Int), .int .i64 (k3 : Int), .int .i64 (k4 : Int), .int .i64 (k5 : Int), .int .i64 (k6 : Int), .slice a n c] 24 (0, 0))) := by rw [← eW]; exact heap_new w _
  have KW0 : Hid (Kept w W0) := by rw [← eW]; exact (Same.refl _ w).alloc _
  have O0 : Hid (OwnB W0.heap.size W0 (.slice none 0 0) []) := OwnB.nil _ _
  have K0 : Hid (Kept W0 W0) := Same.refl _ _
  obtain ⟨⟨m0, m1, m2, m3, m4, m5, m6, m7⟩, -⟩ := tx_obj X0.out
  clear eW
  refine Calls.mono (number_ref (base := W0.heap.size) k0 (by have := N0.out; omega) O0.out (by simp only [List.length_nil];  omega) K0.out.size) ?_
  rintro e w1 ⟨v1, rfl, o, s, -⟩
  have K1 : Hid (Kept W0 w1) := K0.out.trans s (fun j hj e => by have := (OwnB.block O0.out e).1; omega)
  have O1 : Hid _ := o
  have x := (K1.out.block _ (lt_of_heap X0.out) (fun h => h)).trans X0.out
  clear m0 m1 m2 m3 m4 m5 m6 m7 o s
  obtain ⟨⟨m0, m1, m2, m3, m4, m5, m6, m7⟩, -⟩ := tx_obj x
  clear x
  go_wp2_with fail
  refine Calls.mono (number_ref (base := W0.heap.size) k1 (by have := N1.out; omega) O1.out (by simp only [List.length_append, List.length_nil]; have q0 : (form k0).length ≤ 8 := form8 (by have := N0.out; omega); omega) K1.out.size) ?_
  rintro e w2 ⟨v2, rfl, o, s, -⟩
  have K2 : Hid (Kept W0 w2) := K1.out.trans s (fun j hj e => by have := (OwnB.block O1.out e).1; omega)
  have O2 : Hid _ := o
  have x := (K2.out.block _ (lt_of_heap X0.out) (fun h => h)).trans X0.out
  clear m0 m1 m2 m3 m4 m5 m6 m7 o s
  obtain ⟨⟨m0, m1, m2, m3, m4, m5, m6, m7⟩, -⟩ := tx_obj x
  clear x
  go_wp2_with fail
  refine Calls.mono (number_ref (base := W0.heap.size) k2 (by have := N2.out; omega) O2.out (by simp only [List.length_append, List.length_nil]; have q0 : (form k0).length ≤ 8 := form8 (by have := N0.out; omega); have q1 : (form k1).length ≤ 8 := form8 (by have := N1.out; omega); omega) K2.out.size) ?_
  rintro e w3 ⟨v3, rfl, o, s, -⟩
  have K3 : Hid (Kept W0 w3) := K2.out.trans s (fun j hj e => by have := (OwnB.block O2.out e).1; omega)
  have O3 : Hid _ := o
  have x := (K3.out.block _ (lt_of_heap X0.out) (fun h => h)).trans X0.out
  clear m0 m1 m2 m3 m4 m5 m6 m7 o s
  obtain ⟨⟨m0, m1, m2, m3, m4, m5, m6, m7⟩, -⟩ := tx_obj x
  clear x
  go_wp2_with fail
  refine Calls.mono (number_ref (base := W0.heap.size) k3 (by have := N3.out; omega) O3.out (by simp only [List.length_append, List.length_nil]; have q0 : (form k0).length ≤ 8 := form8 (by have := N0.out; omega); have q1 : (form k1).length ≤ 8 := form8 (by have := N1.out; omega); have q2 : (form k2).length ≤ 8 := form8 (by have := N2.out; omega); omega) K3.out.size) ?_
  rintro e w4 ⟨v4, rfl, o, s, -⟩
  have K4 : Hid (Kept W0 w4) := K3.out.trans s (fun j hj e => by have := (OwnB.block O3.out e).1; omega)
  have O4 : Hid _ := o
  have x := (K4.out.block _ (lt_of_heap X0.out) (fun h => h)).trans X0.out
  clear m0 m1 m2 m3 m4 m5 m6 m7 o s
  obtain ⟨⟨m0, m1, m2, m3, m4, m5, m6, m7⟩, -⟩ := tx_obj x
  clear x
  go_wp2_with fail
  refine Calls.mono (number_ref (base := W0.heap.size) k4 (by have := N4.out; omega) O4.out (by simp only [List.length_append, List.length_nil]; have q0 : (form k0).length ≤ 8 := form8 (by have := N0.out; omega); have q1 : (form k1).length ≤ 8 := form8 (by have := N1.out; omega); have q2 : (form k2).length ≤ 8 := form8 (by have := N2.out; omega); have q3 : (form k3).length ≤ 8 := form8 (by have := N3.out; omega); omega) K4.out.size) ?_
  rintro e w5 ⟨v5, rfl, o, s, -⟩
  have K5 : Hid (Kept W0 w5) := K4.out.trans s (fun j hj e => by have := (OwnB.block O4.out e).1; omega)
  have O5 : Hid _ := o
  have x := (K5.out.block _ (lt_of_heap X0.out) (fun h => h)).trans X0.out
  clear m0 m1 m2 m3 m4 m5 m6 m7 o s
  obtain ⟨⟨m0, m1, m2, m3, m4, m5, m6, m7⟩, -⟩ := tx_obj x
  clear x
  go_wp2_with fail
  refine Calls.mono (number_ref (base := W0.heap.size) k5 (by have := N5.out; omega) O5.out (by simp only [List.length_append, List.length_nil]; have q0 : (form k0).length ≤ 8 := form8 (by have := N0.out; omega); have q1 : (form k1).length ≤ 8 := form8 (by have := N1.out; omega); have q2 : (form k2).length ≤ 8 := form8 (by have := N2.out; omega); have q3 : (form k3).length ≤ 8 := form8 (by have := N3.out; omega); have q4 : (form k4).length ≤ 8 := form8 (by have := N4.out; omega); omega) K5.out.size) ?_
  rintro e w6 ⟨v6, rfl, o, s, -⟩
  have K6 : Hid (Kept W0 w6) := K5.out.trans s (fun j hj e => by have := (OwnB.block O5.out e).1; omega)
  have O6 : Hid _ := o
  have x := (K6.out.block _ (lt_of_heap X0.out) (fun h => h)).trans X0.out
  clear m0 m1 m2 m3 m4 m5 m6 m7 o s
  obtain ⟨⟨m0, m1, m2, m3, m4, m5, m6, m7⟩, -⟩ := tx_obj x
  clear x
  go_wp2_with fail
  refine Calls.mono (number_ref (base := W0.heap.size) k6 (by have := N6.out; omega) O6.out (by simp only [List.length_append, List.length_nil]; have q0 : (form k0).length ≤ 8 := form8 (by have := N0.out; omega); have q1 : (form k1).length ≤ 8 := form8 (by have := N1.out; omega); have q2 : (form k2).length ≤ 8 := form8 (by have := N2.out; omega); have q3 : (form k3).length ≤ 8 := form8 (by have := N3.out; omega); have q4 : (form k4).length ≤ 8 := form8 (by have := N4.out; omega); have q5 : (form k5).length ≤ 8 := form8 (by have := N5.out; omega); omega) K6.out.size) ?_
  rintro e w7 ⟨v7, rfl, o, s, -⟩
  have K7 : Hid (Kept W0 w7) := K6.out.trans s (fun j hj e => by have := (OwnB.block O6.out e).1; omega)
  have O7 : Hid _ := o
  have x := (K7.out.block _ (lt_of_heap X0.out) (fun h => h)).trans X0.out
  clear m0 m1 m2 m3 m4 m5 m6 m7 o s
  obtain ⟨⟨m0, m1, m2, m3, m4, m5, m6, m7⟩, -⟩ := tx_obj x
  clear x
  go_wp2_with fail
  refine Calls.mono (number_ref (base := W0.heap.size) n (by omega) O7.out (by simp only [List.length_append, List.length_nil]; have q0 : (form k0).length ≤ 8 := form8 (by have := N0.out; omega); have q1 : (form k1).length ≤ 8 := form8 (by have := N1.out; omega); have q2 : (form k2).length ≤ 8 := form8 (by have := N2.out; omega); have q3 : (form k3).length ≤ 8 := form8 (by have := N3.out; omega); have q4 : (form k4).length ≤ 8 := form8 (by have := N4.out; omega); have q5 : (form k5).length ≤ 8 := form8 (by have := N5.out; omega); have q6 : (form k6).length ≤ 8 := form8 (by have := N6.out; omega); omega) K7.out.size) ?_
  rintro e w8 ⟨v8, rfl, o, s, -⟩
  have K8 : Hid (Kept W0 w8) := K7.out.trans s (fun j hj e => by have := (OwnB.block O7.out e).1; omega)
  have O8 : Hid _ := o
  have x := (K8.out.block _ (lt_of_heap X0.out) (fun h => h)).trans X0.out
  clear m0 m1 m2 m3 m4 m5 m6 m7 o s
  obtain ⟨⟨m0, m1, m2, m3, m4, m5, m6, m7⟩, -⟩ := tx_obj x
  clear x
  go_wp2_with fail
  have OB : Hid (OwnB W0.heap.size w8 v8 (form k0 ++ (form k1 ++ (form k2 ++ (form k3 ++ (form k4 ++ (form k5 ++ (form k6 ++ form n)))))))) := by
    have e8 : ([] : List Int) ++ form k0 ++ form k1 ++ form k2 ++ form k3 ++ form k4 ++ form k5 ++ form k6 ++ form n = form k0 ++ (form k1 ++ (form k2 ++ (form k3 ++ (form k4 ++ (form k5 ++ (form k6 ++ form n)))))) := by
      simp only [List.nil_append, List.append_assoc]
    show OwnB _ _ _ _
    rw [← e8]
    exact O8.out
  generalize form k0 ++ (form k1 ++ (form k2 ++ (form k3 ++ (form k4 ++ (form k5 ++ (form k6 ++ form n)))))) = FH at HB HFL OB
  clear O0 O1 O2 O3 O4 O5 O6 O7 O8 K0 K1 K2 K3 K4 K5 K6 K7
  go_loopw [3, 4] (fun u i wr => ∃ j : Nat, i = .int .i64 j ∧ j ≤ n ∧ OwnB W0.heap.size wr u (FH ++ encOs (t.ops.take j)) ∧ Kept W0 wr) (fun _ i _ => n - (intOf i).toNat)
  case atStart => exact ⟨0, rfl, Nat.zero_le _, by rw [List.take_zero, encOs, List.append_nil]; exact OB.out, K8.out⟩
  case round =>
    obtain ⟨j, rfl, hj, oo, kk⟩ := hrel
    have OQ : Hid _ := oo
    have KQ : Hid _ := kk
    have x := (kk.block _ (lt_of_heap X0.out) (fun h => h)).trans X0.out
    clear oo kk m0 m1 m2 m3 m4 m5 m6 m7
    obtain ⟨⟨m0, m1, m2, m3, m4, m5, m6, m7⟩, -⟩ := tx_obj x
    have hltw := lt_of_heap x
    clear x
    by_cases hlt : j < n
    · have e1 : decide ((j : Int) < (n : Int)) = true := decide_eq_true (by omega)
      have hlt2 : (j : Int) < (n : Int) := by omega
      obtain ⟨o, he⟩ : ∃ o, t.ops[j]? = some o := ⟨_, List.getElem?_eq_getElem (by rw [← EN.out]; exact hlt)⟩
      obtain ⟨b, off, rfl, hb, q0, q1, q2, q3⟩ := (OpsAt.on HO.out (Same.trans' KW0.out KQ.out)) j o he
      have hro := HR.out.2.2 o (List.mem_of_getElem? he)
      have HSL : Hid _ := encOs_take_len HR.out.2.2 HR.out.2.1 j
      have HNX : Hid _ := encOs_next he
      have HKS : Hid (o.key.size ≤ 16) := by have := hro.1; show _ ≤ 16; omega
      have HVS : Hid (o.value.size ≤ 16) := by have := hro.1; show _ ≤ 16; omega
      have HEN : Hid (encO o = (tagO o : Int) :: (encT o.key ++ (if o.found then encT o.value else []))) := rfl
      have hcase : (o.kind = 1 ∧ o.found = true) ∨ (o.kind = 2 ∧ o.found = true) ∨ (o.kind = 1 ∧ o.found = false) ∨ (o.kind = 3 ∧ o.found = false) := by
        rcases hro.2 with ⟨p, q⟩ | ⟨p, q⟩ | ⟨p, q, -⟩
        · cases hf : o.found with
          | true => exact .inl ⟨p, rfl⟩
          | false => exact .inr (.inr (.inl ⟨p, rfl⟩))
        · exact .inr (.inl ⟨p, q⟩)
        · exact .inr (.inr (.inr ⟨p, q⟩))
      obtain ⟨kind, key, found, value⟩ := o
      try simp only at q0
      try simp only at q1
      try simp only at q2
      try simp only at q3
      try simp only at HKS
      try simp only at HVS
      try simp only at HEN
      try simp only at hcase
      have HUX : Hid (¬ u3.ownBlock = some wr.heap.size) := fun e => by have := (OwnB.block OQ.out e).2; omega
      clear he hro
      rcases hcase with ⟨rfl, rfl⟩ | ⟨rfl, rfl⟩ | ⟨rfl, rfl⟩ | ⟨rfl, rfl⟩
      · have KA : Hid (Kept wr (wr.alloc (.cells #[.int .i64 1, .string key, .bool true, .string value] 79 (0, 0)))) := (Same.refl _ _).alloc _
        have X4 : Hid _ := heap_new wr (.cells #[.int .i64 1, .string key, .bool true, .string value] 79 (0, 0))
        have HAP : Hid (∀ ty, _) := fun ty => app_oneK (w := wr.alloc (.cells #[.int .i64 1, .string key, .bool true, .string value] 79 (0, 0))) 1 (OwnB.kept OQ.out KA.out (fun _ _ h => h)) (by have := HSL.out; have := HFL.out; rw [List.length_append]; omega) (Nat.le_trans KQ.out.size KA.out.size) ty
        rw [World.size_alloc] at HAP
        have HX5 : Hid (∀ ys v5 w5, AppK W0.heap.size (wr.alloc (.cells #[.int .i64 1, .string key, .bool true, .string value] 79 (0, 0))) u3 ys v5 w5 → w5.heap[wr.heap.size]? = some (opO (.int .i64 1) (.string key) (.bool true) (.string value)) ∧ ¬ v5.ownBlock = some wr.heap.size) := fun ys v5 w5 h =>
          ⟨(h.2.1.block _ (lt_of_heap X4.out) HUX.out).trans X4.out, fun e => by rcases h.2.2 _ e with q | q; exact HUX.out q; rw [World.size_alloc] at q; omega⟩
        go_wp2_with (at_builtin; refine wpList_app rfl (.tmp 62) (.tmp 64) 71 71 rfl _ _ rfl rfl _ HAP.out ?_; rintro v5 w5 h5; have x5 := HX5.out _ _ _ h5; obtain ⟨⟨d0, d1, d2, d3⟩, -⟩ := op_obj x5.1; have X5 : Hid _ := x5; have H5 : Hid _ := h5; clear h5 x5)
        have K5 : Hid (Kept W0 w5) := (Same.trans' KQ.out KA.out).trans H5.out.2.1 (fun i hi e => by have := (OwnB.block OQ.out e).1; omega)
        refine Calls.mono (HT.out key HKS.out _) ?_
        rintro e w6 ⟨v6, rfl, o6, k6⟩
        have HP6 : Hid (∀ ty, _) := fun ty => app_text HKS.out H5.out.1 k6 o6 (by have := HSL.out; have := HFL.out; simp only [List.length_append, List.length_cons, List.length_nil]; omega) K5.out.size ty
        have HX7 : Hid (∀ ys v7 w7, AppK W0.heap.size w5 v5 ys v7 w7 → w7.heap[wr.heap.size]? = some (opO (.int .i64 1) (.string key) (.bool true) (.string value)) ∧ ¬ v7.ownBlock = some wr.heap.size) := fun ys v7 w7 h =>
          ⟨(h.2.1.block _ (lt_of_heap X5.out.1) X5.out.2).trans X5.out.1, fun e => by rcases h.2.2 _ e with q | q; exact X5.out.2 q; have := lt_of_heap X5.out.1; omega⟩
        clear o6 k6 d0 d1 d2 d3
        go_wp2_with (at_builtin; refine wpList_app rfl (.tmp 69) (.tmp 70) 71 71 rfl _ _ rfl rfl _ HP6.out ?_; rintro v7 w7 h7; have x7 := HX7.out _ _ _ h7; obtain ⟨⟨d0, d1, d2, d3⟩, -⟩ := op_obj x7.1; have X7 : Hid _ := x7; have H7 : Hid _ := h7; clear h7 x7)
        have K7 : Hid (Kept W0 w7) := K5.out.trans H7.out.2.1 (fun i hi e => by have := (OwnB.block H5.out.1 e).1; omega)
        refine Calls.mono (HT.out value HVS.out _) ?_
        rintro e w8' ⟨v8', rfl, o8, k8⟩
        have HP8 : Hid (∀ ty, _) := fun ty => app_text HVS.out H7.out.1 k8 o8 (by have := HSL.out; have := HFL.out; have := HKS.out; have := encT_len key; have : (form key.size).length ≤ 8 := form8 (by omega); simp only [List.length_append, List.length_cons, List.length_nil]; omega) K7.out.size ty
        clear o8 k8
        go_wp2_with (at_builtin; refine wpList_app rfl (.tmp 77) (.tmp 78) 71 71 rfl _ _ rfl rfl _ HP8.out ?_; rintro v9 w9 h9; have H9 : Hid _ := h9; clear h9)
        have K9 : Hid (Kept W0 w9) := K7.out.trans H9.out.2.1 (fun i hi e => by have := (OwnB.block H7.out.1 e).1; omega)
        go_roundw
        case rel =>
          refine ⟨j + 1, by congr 1, hlt, ?_, K9.out⟩
          have := H9.out.1
          rw [HNX.out, HEN.out, show ((tagO ⟨1, key, true, value⟩ : Nat) : Int) = 1 from rfl]
          simpa only [if_true, List.append_assoc, List.cons_append, List.nil_append] using this
        case measure => simp only [intOf]; omega
      · have KA : Hid (Kept wr (wr.alloc (.cells #[.int .i64 2, .string key, .bool true, .string value] 79 (0, 0)))) := (Same.refl _ _).alloc _
        have X4 : Hid _ := heap_new wr (.cells #[.int .i64 2, .string key, .bool true, .string value] 79 (0, 0))
        have HAP : Hid (∀ ty, _) := fun ty => app_oneK (w := wr.alloc (.cells #[.int .i64 2, .string key, .bool true, .string value] 79 (0, 0))) 3 (OwnB.kept OQ.out KA.out (fun _ _ h => h)) (by have := HSL.out; have := HFL.out; rw [List.length_append]; omega) (Nat.le_trans KQ.out.size KA.out.size) ty
        rw [World.size_alloc] at HAP
        have HX5 : Hid (∀ ys v5 w5, AppK W0.heap.size (wr.alloc (.cells #[.int .i64 2, .string key, .bool true, .string value] 79 (0, 0))) u3 ys v5 w5 → w5.heap[wr.heap.size]? = some (opO (.int .i64 2) (.string key) (.bool true) (.string value)) ∧ ¬ v5.ownBlock = some wr.heap.size) := fun ys v5 w5 h =>
          ⟨(h.2.1.block _ (lt_of_heap X4.out) HUX.out).trans X4.out, fun e => by rcases h.2.2 _ e with q | q; exact HUX.out q; rw [World.size_alloc] at q; omega⟩
        go_wp2_with (at_builtin; refine wpList_app rfl (.tmp 62) (.tmp 64) 71 71 rfl _ _ rfl rfl _ HAP.out ?_; rintro v5 w5 h5; have x5 := HX5.out _ _ _ h5; obtain ⟨⟨d0, d1, d2, d3⟩, -⟩ := op_obj x5.1; have X5 : Hid _ := x5; have H5 : Hid _ := h5; clear h5 x5)
        have K5 : Hid (Kept W0 w5) := (Same.trans' KQ.out KA.out).trans H5.out.2.1 (fun i hi e => by have := (OwnB.block OQ.out e).1; omega)
        refine Calls.mono (HT.out key HKS.out _) ?_
        rintro e w6 ⟨v6, rfl, o6, k6⟩
        have HP6 : Hid (∀ ty, _) := fun ty => app_text HKS.out H5.out.1 k6 o6 (by have := HSL.out; have := HFL.out; simp only [List.length_append, List.length_cons, List.length_nil]; omega) K5.out.size ty
        have HX7 : Hid (∀ ys v7 w7, AppK W0.heap.size w5 v5 ys v7 w7 → w7.heap[wr.heap.size]? = some (opO (.int .i64 2) (.string key) (.bool true) (.string value)) ∧ ¬ v7.ownBlock = some wr.heap.size) := fun ys v7 w7 h =>
          ⟨(h.2.1.block _ (lt_of_heap X5.out.1) X5.out.2).trans X5.out.1, fun e => by rcases h.2.2 _ e with q | q; exact X5.out.2 q; have := lt_of_heap X5.out.1; omega⟩
        clear o6 k6 d0 d1 d2 d3
        go_wp2_with (at_builtin; refine wpList_app rfl (.tmp 69) (.tmp 70) 71 71 rfl _ _ rfl rfl _ HP6.out ?_; rintro v7 w7 h7; have x7 := HX7.out _ _ _ h7; obtain ⟨⟨d0, d1, d2, d3⟩, -⟩ := op_obj x7.1; have X7 : Hid _ := x7; have H7 : Hid _ := h7; clear h7 x7)
        have K7 : Hid (Kept W0 w7) := K5.out.trans H7.out.2.1 (fun i hi e => by have := (OwnB.block H5.out.1 e).1; omega)
        refine Calls.mono (HT.out value HVS.out _) ?_
        rintro e w8' ⟨v8', rfl, o8, k8⟩
        have HP8 : Hid (∀ ty, _) := fun ty => app_text HVS.out H7.out.1 k8 o8 (by have := HSL.out; have := HFL.out; have := HKS.out; have := encT_len key; have : (form key.size).length ≤ 8 := form8 (by omega); simp only [List.length_append, List.length_cons, List.length_nil]; omega) K7.out.size ty
        clear o8 k8
        go_wp2_with (at_builtin; refine wpList_app rfl (.tmp 77) (.tmp 78) 71 71 rfl _ _ rfl rfl _ HP8.out ?_; rintro v9 w9 h9; have H9 : Hid _ := h9; clear h9)
        have K9 : Hid (Kept W0 w9) := K7.out.trans H9.out.2.1 (fun i hi e => by have := (OwnB.block H7.out.1 e).1; omega)
        go_roundw
        case rel =>
          refine ⟨j + 1, by congr 1, hlt, ?_, K9.out⟩
          have := H9.out.1
          rw [HNX.out, HEN.out, show ((tagO ⟨2, key, true, value⟩ : Nat) : Int) = 3 from rfl]
          simpa only [if_true, List.append_assoc, List.cons_append, List.nil_append] using this
        case measure => simp only [intOf]; omega
      · have KA : Hid (Kept wr (wr.alloc (.cells #[.int .i64 1, .string key, .bool false, .string value] 79 (0, 0)))) := (Same.refl _ _).alloc _
        have X4 : Hid _ := heap_new wr (.cells #[.int .i64 1, .string key, .bool false, .string value] 79 (0, 0))
        have HAP : Hid (∀ ty, _) := fun ty => app_oneK (w := wr.alloc (.cells #[.int .i64 1, .string key, .bool false, .string value] 79 (0, 0))) 2 (OwnB.kept OQ.out KA.out (fun _ _ h => h)) (by have := HSL.out; have := HFL.out; rw [List.length_append]; omega) (Nat.le_trans KQ.out.size KA.out.size) ty
        rw [World.size_alloc] at HAP
        have HX5 : Hid (∀ ys v5 w5, AppK W0.heap.size (wr.alloc (.cells #[.int .i64 1, .string key, .bool false, .string value] 79 (0, 0))) u3 ys v5 w5 → w5.heap[wr.heap.size]? = some (opO (.int .i64 1) (.string key) (.bool false) (.string value)) ∧ ¬ v5.ownBlock = some wr.heap.size) := fun ys v5 w5 h =>
          ⟨(h.2.1.block _ (lt_of_heap X4.out) HUX.out).trans X4.out, fun e => by rcases h.2.2 _ e with q | q; exact HUX.out q; rw [World.size_alloc] at q; omega⟩
        go_wp2_with (at_builtin; refine wpList_app rfl (.tmp 62) (.tmp 64) 71 71 rfl _ _ rfl rfl _ HAP.out ?_; rintro v5 w5 h5; have x5 := HX5.out _ _ _ h5; obtain ⟨⟨d0, d1, d2, d3⟩, -⟩ := op_obj x5.1; have X5 : Hid _ := x5; have H5 : Hid _ := h5; clear h5 x5)
        have K5 : Hid (Kept W0 w5) := (Same.trans' KQ.out KA.out).trans H5.out.2.1 (fun i hi e => by have := (OwnB.block OQ.out e).1; omega)
        refine Calls.mono (HT.out key HKS.out _) ?_
        rintro e w6 ⟨v6, rfl, o6, k6⟩
        have HP6 : Hid (∀ ty, _) := fun ty => app_text HKS.out H5.out.1 k6 o6 (by have := HSL.out; have := HFL.out; simp only [List.length_append, List.length_cons, List.length_nil]; omega) K5.out.size ty
        have HX7 : Hid (∀ ys v7 w7, AppK W0.heap.size w5 v5 ys v7 w7 → w7.heap[wr.heap.size]? = some (opO (.int .i64 1) (.string key) (.bool false) (.string value)) ∧ ¬ v7.ownBlock = some wr.heap.size) := fun ys v7 w7 h =>
          ⟨(h.2.1.block _ (lt_of_heap X5.out.1) X5.out.2).trans X5.out.1, fun e => by rcases h.2.2 _ e with q | q; exact X5.out.2 q; have := lt_of_heap X5.out.1; omega⟩
        clear o6 k6 d0 d1 d2 d3
        go_wp2_with (at_builtin; refine wpList_app rfl (.tmp 69) (.tmp 70) 71 71 rfl _ _ rfl rfl _ HP6.out ?_; rintro v7 w7 h7; have x7 := HX7.out _ _ _ h7; obtain ⟨⟨d0, d1, d2, d3⟩, -⟩ := op_obj x7.1; have X7 : Hid _ := x7; have H7 : Hid _ := h7; clear h7 x7)
        have K7 : Hid (Kept W0 w7) := K5.out.trans H7.out.2.1 (fun i hi e => by have := (OwnB.block H5.out.1 e).1; omega)
        go_roundw
        case rel =>
          refine ⟨j + 1, by congr 1, hlt, ?_, K7.out⟩
          have := H7.out.1
          rw [HNX.out, HEN.out, show ((tagO ⟨1, key, false, value⟩ : Nat) : Int) = 2 from rfl]
          simpa only [Bool.false_eq_true, if_false, List.append_nil, List.append_assoc, List.cons_append, List.nil_append] using this
        case measure => simp only [intOf]; omega
      · have KA : Hid (Kept wr (wr.alloc (.cells #[.int .i64 3, .string key, .bool false, .string value] 79 (0, 0)))) := (Same.refl _ _).alloc _
        have X4 : Hid _ := heap_new wr (.cells #[.int .i64 3, .string key, .bool false, .string value] 79 (0, 0))
        have HAP : Hid (∀ ty, _) := fun ty => app_oneK (w := wr.alloc (.cells #[.int .i64 3, .string key, .bool false, .string value] 79 (0, 0))) 4 (OwnB.kept OQ.out KA.out (fun _ _ h => h)) (by have := HSL.out; have := HFL.out; rw [List.length_append]; omega) (Nat.le_trans KQ.out.size KA.out.size) ty
        rw [World.size_alloc] at HAP
        have HX5 : Hid (∀ ys v5 w5, AppK W0.heap.size (wr.alloc (.cells #[.int .i64 3, .string key, .bool false, .string value] 79 (0, 0))) u3 ys v5 w5 → w5.heap[wr.heap.size]? = some (opO (.int .i64 3) (.string key) (.bool false) (.string value)) ∧ ¬ v5.ownBlock = some wr.heap.size) := fun ys v5 w5 h =>
          ⟨(h.2.1.block _ (lt_of_heap X4.out) HUX.out).trans X4.out, fun e => by rcases h.2.2 _ e with q | q; exact HUX.out q; rw [World.size_alloc] at q; omega⟩
        go_wp2_with (at_builtin; refine wpList_app rfl (.tmp 62) (.tmp 64) 71 71 rfl _ _ rfl rfl _ HAP.out ?_; rintro v5 w5 h5; have x5 := HX5.out _ _ _ h5; obtain ⟨⟨d0, d1, d2, d3⟩, -⟩ := op_obj x5.1; have X5 : Hid _ := x5; have H5 : Hid _ := h5; clear h5 x5)
        have K5 : Hid (Kept W0 w5) := (Same.trans' KQ.out KA.out).trans H5.out.2.1 (fun i hi e => by have := (OwnB.block OQ.out e).1; omega)
        refine Calls.mono (HT.out key HKS.out _) ?_
        rintro e w6 ⟨v6, rfl, o6, k6⟩
        have HP6 : Hid (∀ ty, _) := fun ty => app_text HKS.out H5.out.1 k6 o6 (by have := HSL.out; have := HFL.out; simp only [List.length_append, List.length_cons, List.length_nil]; omega) K5.out.size ty
        have HX7 : Hid (∀ ys v7 w7, AppK W0.heap.size w5 v5 ys v7 w7 → w7.heap[wr.heap.size]? = some (opO (.int .i64 3) (.string key) (.bool false) (.string value)) ∧ ¬ v7.ownBlock = some wr.heap.size) := fun ys v7 w7 h =>
          ⟨(h.2.1.block _ (lt_of_heap X5.out.1) X5.out.2).trans X5.out.1, fun e => by rcases h.2.2 _ e with q | q; exact X5.out.2 q; have := lt_of_heap X5.out.1; omega⟩
        clear o6 k6 d0 d1 d2 d3
        go_wp2_with (at_builtin; refine wpList_app rfl (.tmp 69) (.tmp 70) 71 71 rfl _ _ rfl rfl _ HP6.out ?_; rintro v7 w7 h7; have x7 := HX7.out _ _ _ h7; obtain ⟨⟨d0, d1, d2, d3⟩, -⟩ := op_obj x7.1; have X7 : Hid _ := x7; have H7 : Hid _ := h7; clear h7 x7)
        have K7 : Hid (Kept W0 w7) := K5.out.trans H7.out.2.1 (fun i hi e => by have := (OwnB.block H5.out.1 e).1; omega)
        go_roundw
        case rel =>
          refine ⟨j + 1, by congr 1, hlt, ?_, K7.out⟩
          have := H7.out.1
          rw [HNX.out, HEN.out, show ((tagO ⟨3, key, false, value⟩ : Nat) : Int) = 4 from rfl]
          simpa only [Bool.false_eq_true, if_false, List.append_nil, List.append_assoc, List.cons_append, List.nil_append] using this
        case measure => simp only [intOf]; omega
    · obtain rfl : j = n := by omega
      have e1 : decide ((j : Int) < (j : Int)) = false := decide_eq_false (by omega)
      go_wp2_with fail
      go_ret
      refine ⟨_, rfl, ?_, Same.trans' KW0.out KQ.out⟩
      have := OQ.out
      rw [EN.out, List.take_length] at this
      rw [HB.out]
      exact OwnB.lower this KW0.out.size
end Go.Proofs.Ytbjmdpfoeeadeaa
