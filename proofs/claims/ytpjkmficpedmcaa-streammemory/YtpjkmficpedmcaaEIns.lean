/- What is proved: slices.Insert of one extent into a row of extents. -/
import Derived.Test.YtpjkmficpedmcaaEOps
namespace Go.Proofs.Ytpjkmficpedmcaa
open Go.RowKit
set_option maxRecDepth 100000

/-- What Insert and Replace leave: the new row, in the elder block or a new one. -/
def Repl (w : World) (hb : Nat) (L : List Ex) (v : Value) (w' : World) : Prop :=
  ∃ hb' c', v = .slice (some ⟨hb', 0, none⟩) L.length c' ∧ Row w' hb' c' L ∧ (hb' = hb ∨ w.heap.size ≤ hb') ∧ Same (fun k => k = hb) w w'

set_option maxRecDepth 100000 in
set_option maxHeartbeats 1600000 in
theorem insert_end {w : World} {hb c vb vc : Nat} {L V : List Ex} (hR : Row w hb c L) (hV : Row w vb vc V) (hm : 0 < V.length) (b1 : L.length ≤ 4096) (b2 : V.length ≤ 4096) :
    Calls Try.prog 41 #[.slice (some ⟨hb, 0, none⟩) L.length c, .int .i64 (L.length : Int), .slice (some ⟨vb, 0, none⟩) V.length vc] w fun r w' => ∃ v, r = .returned v ∧ Repl w hb (L ++ V) v w' := by
  have HA : Hid (∀ ty, ∃ v' w', (Builtin.append_ #[61, 61] ty #[.slice (some ⟨hb, 0, none⟩) L.length c, .slice (some ⟨vb, 0, none⟩) V.length vc]).run Try.prog w = .ok v' w' ∧ Repl w hb (L ++ V) v' w') := fun ty => by
    by_cases hr : L.length + V.length ≤ c
    · obtain ⟨w', r1, r2, r3⟩ := app_row (X := L) (R := []) (vc := vc) (by rw [List.append_nil]; exact hR) rfl hV.exts hr ty
      exact ⟨_, w', r1, hb, c, by rw [List.length_append], r2.prefix, .inl rfl, r3⟩
    · obtain ⟨w', c', r1, r2, r3⟩ := app_grow (bb := hb) (bo := 0) (c := c) (vc := vc) rfl hR.exts hV.exts (by omega) (by omega) ty
      exact ⟨_, w', r1, _, c', by rw [List.length_append], r2, .inr (Nat.le_refl _), r3.to _⟩
  have hle := hR.le
  obtain ⟨n, en⟩ : ∃ n, n = L.length := ⟨_, rfl⟩
  obtain ⟨m, em⟩ : ∃ m, m = V.length := ⟨_, rfl⟩
  rw [← em] at HA hm b2 ⊢
  rw [← en] at HA hle b1 ⊢
  have hm0 : ((m : Int) == 0) = false := by simp; omega
  clear hR hV en em
  go_enter Try.func41, Try.ntmps41
  go_wp2_with (at_builtin; refine ewpList_app rfl (.tmp 23) (.tmp 24) 61 rfl _ _ rfl rfl _ HA.out ?_; intro v' w1 hR)
  all_goals (go_ret; exact ⟨v', rfl, hR⟩)

set_option maxRecDepth 100000 in
set_option maxHeartbeats 400000 in
theorem insert_room {w : World} {hb c vb vc i : Nat} {L V : List Ex} (hR : Row w hb c L) (hV : Row w vb vc V) (hne : vb ≠ hb) (hi : i < L.length) (hm : V.length = 1) (hr : L.length + V.length ≤ c) (b1 : L.length ≤ 4096) :
    Calls Try.prog 41 #[.slice (some ⟨hb, 0, none⟩) L.length c, .int .i64 (i : Int), .slice (some ⟨vb, 0, none⟩) V.length vc] w fun r w' => ∃ v, r = .returned v ∧ Repl w hb (L.take i ++ V ++ L.drop i) v w' := by
  have hov : ∀ o o' la ca lb cb, (callFunc 42 #[.slice (some ⟨vb, o, none⟩) la ca, .slice (some ⟨hb, o', none⟩) lb cb]).run Try.prog w = .ok (.value (.bool false)) w := overlaps_no hV hR hne (by omega)
  have hRd : Row w.drew hb c (L.take (i + 1) ++ L.drop (i + 1)) := by rw [List.take_append_drop]; exact hR.kept (S := fun _ => False) (Same.drew (Same.refl _ _)) (fun h => h)
  have hVd : Row w.drew vb vc V := hV.kept (S := fun _ => False) (Same.drew (Same.refl _ _)) (fun h => h)
  have hD : ExtsAt w.drew (some ⟨hb, i * 2, none⟩) (L.drop i) := by
    have := (hR.kept (S := fun _ => False) (w' := w.drew) (Same.drew (Same.refl _ _)) (fun h => h)).cut i
    exact this
  obtain ⟨w1, HC1, q1, k1⟩ := copy_row (o := (i + 1) * 2) (dLen := L.length - i) (sLen := L.length + 1 - i) hRd (by rw [List.length_take, Nat.min_eq_left (by omega)]) hD (by simp only [List.length_drop, Nat.min_def]; split <;> omega) (by simp only [List.length_take, List.length_drop]; omega)
  have e1 : L.take (i + 1) ++ L.drop i ++ (L.drop (i + 1)).drop (L.drop i).length = L.take i ++ ((L.drop i).take 1 ++ L.drop i) := by
    have e0 : (L.drop (i + 1)).drop (L.drop i).length = [] := List.drop_eq_nil_of_le (by simp only [List.length_drop]; omega)
    rw [e0, List.append_nil, ← List.append_assoc, ← List.take_add]
  rw [e1] at q1
  obtain ⟨w2, HC2, q2, k2⟩ := copy_row (o := i * 2) (dLen := L.length + 1 - i) (sLen := 1) q1 (by rw [List.length_take, Nat.min_eq_left (by omega)]) ((hVd.kept k1 hne).exts) (by simp only [Nat.min_def]; split <;> omega) (by simp only [List.length_take]; omega)
  have e2 : L.take i ++ V ++ ((L.drop i).take 1 ++ L.drop i).drop V.length = L.take i ++ V ++ L.drop i := by
    rw [hm]
    have e3 : ((L.drop i).take 1).length = 1 := by simp only [List.length_take, List.length_drop]; omega
    rw [List.drop_left' e3]
  rw [e2] at q2
  have HQ : Hid (Repl w hb (L.take i ++ V ++ L.drop i) (.slice (some ⟨hb, 0, none⟩) (L.length + 1) c) w2) := ⟨hb, c, by simp only [List.length_append, List.length_take, List.length_drop]; congr 1; omega, q2, .inl rfl, ((Same.drew (Same.refl _ _)).trans' k1).trans' k2⟩
  rw [hm] at hr HC2 ⊢
  have HC1' : Hid _ := HC1
  have HC2' : Hid _ := HC2
  have HOV : Hid _ := hov
  have hgl : hb < w.heap.size := hR.lt
  clear hRd hVd hD q1 q2 e1 e2 k1 k2 hm hR hV hne HC1 HC2 hov
  rw [List.length_drop] at HC1'
  obtain ⟨n, en⟩ : ∃ n, n = L.length := ⟨_, rfl⟩
  rw [← en] at HQ HC1' HC2' hi hr b1 ⊢
  clear en
  have hne1 : ((i : Int) == (n : Int)) = false := by simp; omega
  have hz1 : (0 : Int) ≤ (i : Int) + 1 := by omega
  have hz2 : (0 : Int) ≤ (n : Int) + 1 := by omega
  have hz3 : ¬ ((c : Int) < (n : Int) + 1) := by omega
  have hw1 : IntKind.i64.wrap ((i : Int) + 1) = (i : Int) + 1 := by rw [IntKind.wrap_i64]; omega
  have hb3 : (i : Int) ≤ (n : Int) + 1 := by omega
  have hb4 : (i : Int) + 1 ≤ (n : Int) + 1 := by omega
  have htn : ((i : Int) + 1).toNat = i + 1 := by omega
  have htn2 : ((n : Int) + 1).toNat = n + 1 := by omega
  have hin : i ≤ n := by omega
  have hb5 : ¬ (c = i + 1) := by omega
  have hb6 : ¬ (c = i) := by omega
  have hb7 : (n : Int) + 1 ≤ (c : Int) := by omega
  go_enter Try.func41, Try.ntmps41
  go_wp2_with (simp only [HOV.out])
  have hcp1 := HC1'.out (c - (i + 1)) (c - i)
  have hcp2 := HC2'.out (c - i) vc
  go_region
  go_wp2_with fail
  go_ret
  exact ⟨_, rfl, HQ.out⟩

/-- What an append of zero values leaves that is copied into twice: the two copies' runs, and the end. -/
def Grow2 (w : World) (hb i m j n _c tot : Nat) (vb _vc : Nat) (L : List Ex) (v : Value) (w1 : World) : Prop :=
  ∃ g c' w2 w3, v = .slice (some ⟨g, 0, none⟩) tot c' ∧ tot ≤ c' ∧
    (∀ dc sc, (Builtin.copy_ #[61, 61] 3 #[.slice (some ⟨g, i * 2, none⟩) (tot - i) dc, .slice (some ⟨vb, 0, none⟩) m sc]).run Try.prog w1 = .ok (goInt m) w2) ∧
    (∀ dc sc, (Builtin.copy_ #[61, 61] 3 #[.slice (some ⟨g, (i + m) * 2, none⟩) (tot - (i + m)) dc, .slice (some ⟨hb, j * 2, none⟩) (n - j) sc]).run Try.prog w2.drew = .ok (goInt (n - j : Nat)) w3) ∧ Repl w hb L v w3
theorem grow2 {w : World} {hb c vb vc i j z : Nat} {L V : List Ex} (hR : Row w hb c L) (hV : Row w vb vc V) (hij : i ≤ j) (hj : j < L.length) (hz : V.length + (L.length - j) = z) (hr : c < i + z) (hs : i + z ≤ 1000000) (ty : TypeId) :
    ∃ v' w', (Builtin.append_ #[61, 3] ty #[.slice (some ⟨hb, 0, none⟩) i c, .int .i64 (z : Int)]).run Try.prog w = .ok v' w' ∧ Grow2 w hb i V.length j L.length c (i + z) vb vc (L.take i ++ V ++ L.drop j) v' w' := by
  have hI : Row w hb c (L.take i) := by
    refine Row.prefix (R := L.drop i) ?_
    rw [List.take_append_drop]; exact hR
  have li : (L.take i).length = i := by rw [List.length_take]; omega
  obtain ⟨w1, c', r1, r2, k1⟩ := app_zeros (z := z) li hI.exts (by omega) hr hs ty
  have hle := r2.le
  simp only [List.length_append, li, List.length_replicate] at hle
  have hVb := hV.lt
  have hRb := hR.lt
  obtain ⟨w2, HC1, q1, k2⟩ := copy_row (o := i * 2) (dLen := i + z - i) (sLen := V.length) r2 (by rw [li]) (hV.kept k1 (fun h => h)).exts (by simp only [Nat.min_def]; split <;> omega) (by rw [li]; omega)
  rw [List.drop_replicate] at q1
  have q1' := q1.kept (w' := w2.drew) (S := fun _ => False) (Same.drew (Same.refl _ _)) (fun h => h)
  have hD : ExtsAt w2.drew (some ⟨hb, j * 2, none⟩) (L.drop j) := by
    have a1 := (hR.kept k1 (fun h => h)).kept k2 (by show ¬ hb = w.heap.size; omega)
    have a2 := a1.kept (w' := w2.drew) (S := fun _ => False) (Same.drew (Same.refl _ _)) (fun h => h)
    exact a2.cut j
  obtain ⟨w3, HC2, q2, k3⟩ := copy_row (o := (i + V.length) * 2) (dLen := i + z - (i + V.length)) (sLen := L.length - j) q1' (by simp only [List.length_append, li]) hD (by simp only [List.length_drop, Nat.min_def]; split <;> omega) (by simp only [List.length_append, li, List.length_drop]; omega)
  rw [List.length_drop] at HC2
  refine ⟨_, w1, r1, w.heap.size, c', w2, w3, rfl, hle, HC1, HC2, w.heap.size, c', ?_, q2.prefix, .inr (Nat.le_refl _), ?_⟩
  · congr 1
    simp only [List.length_append, li, List.length_drop]
    omega
  · refine ((k1.to _).trans k2 ?_).trans ((Same.drew (Same.refl (fun k => k = w.heap.size) _)).trans' k3) ?_
    · intro k hk e; omega
    · intro k hk e; omega

set_option maxRecDepth 100000 in
set_option maxHeartbeats 400000 in
theorem insert_grow {w : World} {hb c vb vc i : Nat} {L V : List Ex} (hR : Row w hb c L) (hV : Row w vb vc V) (hi : i < L.length) (hm : V.length = 1) (hr : c < L.length + V.length) (b1 : L.length ≤ 4096) :
    Calls Try.prog 41 #[.slice (some ⟨hb, 0, none⟩) L.length c, .int .i64 (i : Int), .slice (some ⟨vb, 0, none⟩) V.length vc] w fun r w' => ∃ v, r = .returned v ∧ Repl w hb (L.take i ++ V ++ L.drop i) v w' := by
  have HG : Hid (∀ ty, _) := fun ty => grow2 (i := i) (j := i) (z := L.length + 1 - i) hR hV (Nat.le_refl _) hi (by omega) (by omega) (by omega) ty
  have hle := hR.le
  rw [show i + (L.length + 1 - i) = L.length + 1 by omega] at HG
  rw [hm] at hr HG ⊢
  clear hm hR hV
  obtain ⟨n, en⟩ : ∃ n, n = L.length := ⟨_, rfl⟩
  rw [← en] at HG hi hr hle b1 ⊢
  clear en
  have hne1 : ((i : Int) == (n : Int)) = false := by simp; omega
  have hz1 : (0 : Int) ≤ (i : Int) + 1 := by omega
  have hz2 : (0 : Int) ≤ (n : Int) + 1 := by omega
  have hz3 : (c : Int) < (n : Int) + 1 := by omega
  have hw1 : IntKind.i64.wrap ((i : Int) + 1) = (i : Int) + 1 := by rw [IntKind.wrap_i64]; omega
  have hb3 : (i : Int) ≤ (n : Int) + 1 := by omega
  have hb4 : (i : Int) + 1 ≤ (n : Int) + 1 := by omega
  have htn : ((i : Int) + 1).toNat = i + 1 := by omega
  have hin : i ≤ n := by omega
  have hic : i ≤ c := by omega
  have hb6 : ¬ (c = i) := by omega
  have hsub : (n : Int) + 1 - (i : Int) = ((n + 1 - i : Nat) : Int) := by omega
  go_enter Try.func41, Try.ntmps41
  go_wp2_with (at_builtin; refine wpList_apz rfl (.tmp 34) (.tmp 39) 61 3 rfl _ _ rfl rfl _ HG.out ?_; rintro v' w1 ⟨g, c', w2, w3, rfl, hc', HC1, HC2, HQ⟩)
  rw [show n + 1 - (i + 1) = n - i by omega] at HC2
  have hcp2 := HC2 (c' - (i + 1)) (c - i)
  have hb5 : ¬ (c' = i + 1) := by omega
  have HQ' : Hid _ := HQ
  clear HQ HC1 HC2
  go_region
  go_wp2_with fail
  go_ret
  exact ⟨_, rfl, HQ'.out⟩

theorem insert_any {w : World} {hb c vb vc i : Nat} {L V : List Ex} (hR : Row w hb c L) (hV : Row w vb vc V) (hne : vb ≠ hb) (hi : i ≤ L.length) (hm : V.length = 1) (b1 : L.length ≤ 4096) :
    Calls Try.prog 41 #[.slice (some ⟨hb, 0, none⟩) L.length c, .int .i64 (i : Int), .slice (some ⟨vb, 0, none⟩) V.length vc] w fun r w' => ∃ v, r = .returned v ∧ Repl w hb (L.take i ++ V ++ L.drop i) v w' := by
  rcases Nat.lt_or_ge i L.length with h | h
  · rcases Nat.lt_or_ge c (L.length + V.length) with h2 | h2
    · exact insert_grow hR hV h hm h2 b1
    · exact insert_room hR hV hne h hm h2 b1
  · obtain rfl : i = L.length := by omega
    have := insert_end hR hV (by omega) b1 (by omega)
    rw [List.take_length, List.drop_length, List.append_nil]
    exact this
end Go.Proofs.Ytpjkmficpedmcaa
