/- What is proved: swapRange and rotate of the library's stable sort exchange parts of a row; in any program with these texts, the row lies in memory. -/
import Derived.Test.YtnfkjblhnpnaeaaVHp
namespace Go.Proofs.Ytnfkjblhnpnaeaa
open Go.RowKit

/-- A violation with its number, as the row holds it: the number is not laid. -/
abbrev en (enc : Vl → List Value) : Nb → List Value := fun x => enc x.v
/-- What the stable sort's functions ask of a program. -/
structure As (P : Program) (k : Nat) (enc : Vl → List Value) : Prop where
  mixed : P.follows .mixedOrders = true
  E : Ek enc k
  fW : P.funcs[63]? = some Try.f63
  fR : P.funcs[57]? = some Try.f57
  fM : P.funcs[46]? = some Try.f46
  fT : P.funcs[40]? = some Try.f40
  eW : ∀ (args : Array Value) (w : World), Sem.run P (callFunc 63 args) w = .ok (.enter 63 args) w
  eR : ∀ (args : Array Value) (w : World), Sem.run P (callFunc 57 args) w = .ok (.enter 57 args) w
  eM : ∀ (args : Array Value) (w : World), Sem.run P (callFunc 46 args) w = .ok (.enter 46 args) w
  eI : ∀ (args : Array Value) (w : World), Sem.run P (callFunc 45 args) w = .ok (.enter 45 args) w
  eC : ∀ (args : Array Value) (w : World), Sem.run P (callFunc 17 args) w = .ok (.enter 17 args) w
  cmp : ∀ (a b : Vl) (W : World), Calls P 17 #[.agg (enc a).toArray, .agg (enc b).toArray] W fun e w' => e = .returned (.int .i64 (compV a b)) ∧ Grw W w'
  t0 : P.underlying 0 = some (TypeDesc.tuple #[])
  t3 : P.underlying 3 = some (TypeDesc.int IntKind.i64)
  t4 : P.underlying 4 = some TypeDesc.bool
  t28 : P.underlying 28 = some (TypeDesc.slice 30)
  t77 : P.underlying 77 = Try.prog.underlying 77
  a0 : ∀ w, Sem.run P (isAgg 0) w = .ok false w
  a3 : ∀ w, Sem.run P (isAgg 3) w = .ok false w
  a4 : ∀ w, Sem.run P (isAgg 4) w = .ok false w
  a28 : ∀ w, Sem.run P (isAgg 28) w = .ok false w
  a30 : ∀ w, Sem.run P (isAgg 30) w = .ok true w
  z0 : ∀ w, Sem.run P (Go.sizeOf 0) w = .ok 1 w
  z3 : ∀ w, Sem.run P (Go.sizeOf 3) w = .ok 1 w
  z4 : ∀ w, Sem.run P (Go.sizeOf 4) w = .ok 1 w
  z28 : ∀ w, Sem.run P (Go.sizeOf 28) w = .ok 1 w
  z30 : ∀ w, Sem.run P (Go.sizeOf 30) w = .ok k w
theorem ek_en {enc : Vl → List Value} {k : Nat} (E : Ek enc k) : Ek (en enc) k := ⟨fun x => E.len x.v, fun x => E.one x.v, E.pos⟩
/-- The two ranges, i items of each exchanged. -/
def swR (A X M Y C : List Nb) (i : Nat) : List Nb := A ++ (Y.take i ++ X.drop i) ++ M ++ (X.take i ++ Y.drop i) ++ C
theorem swR_len {A X M Y C : List Nb} (h : X.length = Y.length) (i : Nat) (hi : i ≤ X.length) : (swR A X M Y C i).length = A.length + X.length + M.length + Y.length + C.length := by
  simp only [swR, List.length_append, List.length_take, List.length_drop]
  omega
theorem swR_get {A X M Y C : List Nb} (h : X.length = Y.length) {i : Nat} (hi : i < X.length) : (swR A X M Y C i)[A.length + i]? = X[i]? ∧ (swR A X M Y C i)[A.length + X.length + M.length + i]? = Y[i]? := by
  constructor
  · unfold swR
    rw [List.append_assoc, List.append_assoc, List.append_assoc, List.getElem?_append_right (by omega), Nat.add_sub_cancel_left, List.append_assoc, List.getElem?_append_right (by rw [List.length_take]; omega), List.length_take, List.getElem?_append_left (by rw [List.length_drop]; omega), List.getElem?_drop]
    congr 1
    omega
  · unfold swR
    rw [List.getElem?_append_left (by simp only [List.length_append, List.length_take, List.length_drop]; omega), List.getElem?_append_right (by simp only [List.length_append, List.length_take, List.length_drop]; omega), List.getElem?_append_right (by simp only [List.length_append, List.length_take, List.length_drop]; omega), List.getElem?_drop]
    congr 1
    simp only [List.length_append, List.length_take, List.length_drop]
    omega
theorem set_append_at (A B : List Nb) (i : Nat) (x : Nb) : (A ++ B).set (A.length + i) x = A ++ B.set i x := by
  rw [List.set_append_right _ _ (by omega), Nat.add_sub_cancel_left]
theorem take_drop_set {X Y : List Nb} {i : Nat} {y : Nb} (hl : i ≤ Y.length) (hi : i < X.length) (hy : Y[i]? = some y) : (Y.take i ++ X.drop i).set i y = Y.take (i + 1) ++ X.drop (i + 1) := by
  have e1 : (Y.take i).length = i := by rw [List.length_take]; omega
  have := set_append_at (Y.take i) (X.drop i) 0 y
  rw [e1, Nat.add_zero] at this
  rw [this, List.take_add_one, hy, List.drop_eq_getElem_cons hi, List.set_cons_zero, List.append_assoc]
  rfl
theorem swR_next {A X M Y C : List Nb} (h : X.length = Y.length) {i : Nat} (hi : i < X.length) {x y : Nb} (hx : X[i]? = some x) (hy : Y[i]? = some y) : ((swR A X M Y C i).set (A.length + i) y).set (A.length + X.length + M.length + i) x = swR A X M Y C (i + 1) := by
  have e2 : (Y.take i ++ X.drop i).length = X.length := by simp only [List.length_append, List.length_take, List.length_drop]; omega
  have e3 : (Y.take (i + 1) ++ X.drop (i + 1)).length = X.length := by simp only [List.length_append, List.length_take, List.length_drop]; omega
  have e4 : (X.take i ++ Y.drop i).length = Y.length := by simp only [List.length_append, List.length_take, List.length_drop]; omega
  have s1 : (swR A X M Y C i).set (A.length + i) y = A ++ (Y.take (i + 1) ++ X.drop (i + 1)) ++ M ++ (X.take i ++ Y.drop i) ++ C := by
    unfold swR
    rw [List.append_assoc, List.append_assoc, List.append_assoc, set_append_at, List.set_append_left _ _ (by rw [e2]; exact hi), take_drop_set (by omega) hi hy]
    simp only [List.append_assoc]
  rw [s1]
  have e5 : (A ++ (Y.take (i + 1) ++ X.drop (i + 1)) ++ M).length = A.length + X.length + M.length := by rw [List.length_append, List.length_append, e3]
  have s2 := set_append_at (A ++ (Y.take (i + 1) ++ X.drop (i + 1)) ++ M) ((X.take i ++ Y.drop i) ++ C) i x
  rw [e5, ← List.append_assoc] at s2
  rw [s2, List.set_append_left _ _ (by rw [e4]; omega), take_drop_set (by omega) (by omega) hx]
  unfold swR
  simp only [List.append_assoc]
set_option maxRecDepth 100000 in
set_option maxHeartbeats 3200000 in
theorem swr_p {P : Program} {k : Nat} {enc : Vl → List Value} (AS : As P k enc) {base : Nat} {w : World} {g N cap : Nat} {A X M Y C : List Nb} (cv : Value) (h : Own (en enc) k 30 base w (.slice (some ⟨g, 0, none⟩) N cap) (A ++ X ++ M ++ Y ++ C)) (hN : N ≤ 1172812402961) (hl : X.length = Y.length) :
    Calls P 63 #[.slice (some ⟨g, 0, none⟩) N cap, .int .i64 (A.length : Int), .int .i64 ((A.length + X.length + M.length : Nat) : Int), .int .i64 (X.length : Int), cv] w fun e w' => e = .returned (.tuple #[]) ∧ Own (en enc) k 30 base w' (.slice (some ⟨g, 0, none⟩) N cap) (A ++ Y ++ M ++ X ++ C) ∧ Same (fun b => b = g) w w' := by
  obtain ⟨mixed, E, fW, fR, fM, fT, eW, eR, eM, eI, eC, cmp, t0, t3, t4, t28, t77, a0, a3, a4, a28, a30, z0, z3, z4, z28, z30⟩ := AS
  have u28 := run_underlying t28
  have EE : Hid (Ek (en enc) k) := ek_en E
  have hNl : N = (A ++ X ++ M ++ Y ++ C).length := h.lt.2
  simp only [List.length_append] at hNl
  have H0 : Hid (Own (en enc) k 30 base w (.slice (some ⟨g, 0, none⟩) N cap) (swR A X M Y C 0)) := by
    have e : swR A X M Y C 0 = A ++ X ++ M ++ Y ++ C := by simp [swR]
    show Own _ _ _ _ _ _ _
    rw [e]; exact h
  have HE : Hid (swR A X M Y C X.length = A ++ Y ++ M ++ X ++ C) := by
    show _ = _
    unfold swR
    rw [List.take_of_length_le (l := Y) (by omega), List.drop_of_length_le (l := X) (by omega), List.take_of_length_le (l := X) (by omega), List.drop_of_length_le (l := Y) (by omega)]
    simp
  obtain ⟨p, ep⟩ : ∃ p, p = A.length := ⟨_, rfl⟩
  obtain ⟨q, eq⟩ : ∃ q, q = A.length + X.length + M.length := ⟨_, rfl⟩
  obtain ⟨n, en'⟩ : ∃ n, n = X.length := ⟨_, rfl⟩
  rw [← eq, ← ep, ← en']
  have hpn : p + n ≤ N := by omega
  have hqn : q + n ≤ N := by omega
  have HP : Hid (p = A.length ∧ q = A.length + X.length + M.length ∧ n = X.length) := ⟨ep, eq, en'⟩
  have HL : Hid (X.length = Y.length) := hl
  clear cmp fR fM fT eW eR eM eI eC hNl h ep eq en' hl E
  go_enter fW, Try.ntmps63
  go_wp2_with fail
  go_loopw [10] (fun i wr => ∃ j : Nat, i = .int .i64 (j : Int) ∧ j ≤ n ∧ Own (en enc) k 30 base wr (.slice (some ⟨g, 0, none⟩) N cap) (swR A X M Y C j) ∧ Same (fun b => b = g) w wr) (fun i _ => n - (intOf i).toNat)
  case atStart => exact ⟨0, rfl, Nat.zero_le _, H0.out, Same.refl _ _⟩
  case round =>
    obtain ⟨j, rfl, hj, ho, hs⟩ := hrel
    rename World => WL
    by_cases hjn : j < n
    · have d1 : (j : Int) < (n : Int) := by omega
      have d1b : decide ((j : Int) < (n : Int)) = true := decide_eq_true d1
      obtain ⟨ep, eq, en'⟩ := HP.out
      obtain ⟨x, hx⟩ : ∃ x, X[j]? = some x := ⟨_, List.getElem?_eq_getElem (by omega)⟩
      obtain ⟨y, hy⟩ : ∃ y, Y[j]? = some y := ⟨_, List.getElem?_eq_getElem (by have := HL.out; omega)⟩
      obtain ⟨r, er⟩ : ∃ r, r = p + j := ⟨_, rfl⟩
      obtain ⟨t, et⟩ : ∃ t, t = q + j := ⟨_, rfl⟩
      have g1 := (swR_get (A := A) (M := M) (C := C) HL.out (i := j) (by omega)).1
      have g2 := (swR_get (A := A) (M := M) (C := C) HL.out (i := j) (by omega)).2
      rw [← ep, ← er, hx] at g1
      rw [← eq, ← et, hy] at g2
      obtain ⟨⟨l1, l2, s1, s2⟩, o3, k3⟩ := ho.swap EE.out g1 g2 P
      have hnx := swR_next (A := A) (M := M) (C := C) HL.out (i := j) (by omega) hx hy
      rw [← eq, ← et, ← ep, ← er, swp_eq g1 g2] at hnx
      rw [hnx] at o3
      have HO3 : Hid (Own (en enc) k 30 base _ _ (swR A X M Y C (j + 1))) := o3
      have HK3 : Hid (Same (fun b => b = g) w _) := hs.trans' k3
      have kx : (en enc x).length = k := EE.out.len x
      have ky : (en enc y).length = k := EE.out.len y
      have hr1 : (p : Int) + (j : Int) = (r : Int) := by omega
      have ht1 : (q : Int) + (j : Int) = (t : Int) := by omega
      have hrN : (r : Int) < (N : Int) := by omega
      have htN : (t : Int) < (N : Int) := by omega
      have hN2 : (N : Int) ≤ 1172812402961 := by omega
      clear ho hs g1 g2 hnx o3 k3 hx hy er et ep eq en'
      generalize en enc x = cx at *
      generalize en enc y = cy at *
      go_wp2_with fail
      go_big_region_o
      all_goals (go_wp2_with fail)
      go_roundw
      case rel => exact ⟨j + 1, by simp, hjn, HO3.out, HK3.out⟩
      case measure => simp only [intOf]; omega
    · obtain rfl : n = j := by omega
      have d1 : ¬ (n : Int) < (n : Int) := by omega
      have HF : Hid (Own (en enc) k 30 base WL (.slice (some ⟨g, 0, none⟩) N cap) (A ++ Y ++ M ++ X ++ C) ∧ Same (fun b => b = g) w WL) := by
        refine ⟨?_, hs⟩
        have e := HE.out
        rw [← HP.out.2.2] at e
        rw [← e]
        exact ho
      clear ho hs
      go_wp2_with fail
      go_end0
      refine ⟨rfl, ?_⟩
      have h9 := HF.out
      simpa only [List.append_assoc] using h9
/-- What stands while two parts are rotated: i and j are what is left of them. -/
structure Rt (T G : List Nb) (a m i j : Nat) : Prop where
  parts : ∃ Pp X Y Q, G = Pp ++ X ++ Y ++ Q ∧ X.length = i ∧ Y.length = j ∧ Pp.length + i = m ∧ T = Pp ++ Y ++ X ++ Q
  pos : 0 < i ∧ 0 < j
  low : a ≤ m - i
theorem Rt.bound {T G : List Nb} {a m i j : Nat} (h : Rt T G a m i j) : m + j ≤ G.length ∧ i ≤ m := by
  obtain ⟨Pp, X, Y, Q, rfl, h1, h2, h3, -⟩ := h.parts
  simp only [List.length_append]
  omega
set_option maxRecDepth 100000 in
set_option maxHeartbeats 3200000 in
theorem rot_p {P : Program} {k : Nat} {enc : Vl → List Value} (AS : As P k enc) {base : Nat} {w : World} {g N cap : Nat} {A X Y C : List Nb} (cv : Value) (h : Own (en enc) k 30 base w (.slice (some ⟨g, 0, none⟩) N cap) (A ++ X ++ Y ++ C)) (hN : N ≤ 1172812402961) (hX : 0 < X.length) (hY : 0 < Y.length) :
    Calls P 57 #[.slice (some ⟨g, 0, none⟩) N cap, .int .i64 (A.length : Int), .int .i64 ((A.length + X.length : Nat) : Int), .int .i64 ((A.length + X.length + Y.length : Nat) : Int), cv] w fun e w' => e = .returned (.tuple #[]) ∧ Own (en enc) k 30 base w' (.slice (some ⟨g, 0, none⟩) N cap) (A ++ Y ++ X ++ C) ∧ Same (fun b => b = g) w w' := by
  have AA : Hid (As P k enc) := AS
  obtain ⟨mixed, E, fW, fR, fM, fT, eW, eR, eM, eI, eC, cmp, t0, t3, t4, t28, t77, a0, a3, a4, a28, a30, z0, z3, z4, z28, z30⟩ := AS
  have u28 := run_underlying t28
  have HSW : Hid (∀ W A X M Y C, Own (en enc) k 30 base W (.slice (some ⟨g, 0, none⟩) N cap) (A ++ X ++ M ++ Y ++ C) → X.length = Y.length → _) := fun W A X M Y C o hl => swr_p AA.out (A := A) (X := X) (M := M) (Y := Y) (C := C) cv o hN hl
  obtain ⟨T, eT⟩ : ∃ T, T = A ++ Y ++ X ++ C := ⟨_, rfl⟩
  have hNl : N = (A ++ X ++ Y ++ C).length := h.lt.2
  have hTl : T.length = N := by rw [eT, hNl]; simp only [List.length_append]; omega
  have R0 : Hid (Rt T (A ++ X ++ Y ++ C) A.length (A.length + X.length) X.length Y.length) := ⟨⟨A, X, Y, C, rfl, rfl, rfl, rfl, eT⟩, ⟨hX, hY⟩, by omega⟩
  have H0 : Hid (Own (en enc) k 30 base w (.slice (some ⟨g, 0, none⟩) N cap) (A ++ X ++ Y ++ C)) := h
  rw [← eT]
  obtain ⟨p, ep⟩ : ∃ p, p = A.length := ⟨_, rfl⟩
  obtain ⟨i0, ei⟩ : ∃ q, q = X.length := ⟨_, rfl⟩
  obtain ⟨j0, ej⟩ : ∃ q, q = Y.length := ⟨_, rfl⟩
  obtain ⟨m, em⟩ : ∃ q, q = A.length + X.length := ⟨_, rfl⟩
  obtain ⟨b, eb⟩ : ∃ q, q = A.length + X.length + Y.length := ⟨_, rfl⟩
  simp only [List.length_append] at hNl
  have hbN : b ≤ N := by omega
  have hmp : (m : Int) - (p : Int) = (i0 : Int) := by omega
  have hbm : (b : Int) - (m : Int) = (j0 : Int) := by omega
  have hmN : (m : Int) ≤ 1172812402961 := by omega
  have hbN2 : (b : Int) ≤ 1172812402961 := by omega
  rw [← eb, ← em, ← ep]
  rw [← em, ← ep, ← ei, ← ej] at R0
  generalize A ++ X ++ Y ++ C = G0 at H0 R0
  clear cmp fW fM fT eR eM eI eC hNl h ep ei ej em eb eT E
  go_enter fR, Try.ntmps57
  go_wp2_with fail
  go_loopw [10, 11] (fun vi vj wr => ∃ (i j : Nat) (G : List Nb), vi = .int .i64 (i : Int) ∧ vj = .int .i64 (j : Int) ∧ Own (en enc) k 30 base wr (.slice (some ⟨g, 0, none⟩) N cap) G ∧ Rt T G p m i j ∧ Same (fun b => b = g) w wr) (fun vi vj _ => (intOf vi).toNat + (intOf vj).toNat)
  case atStart => exact ⟨i0, j0, G0, rfl, rfl, H0.out, R0.out, Same.refl _ _⟩
  case round =>
    obtain ⟨i, j, G, rfl, rfl, ho, hr, hs⟩ := hrel
    rename World => WL
    have hGl : N = G.length := ho.lt.2
    obtain ⟨hb1, hb2⟩ := hr.bound
    obtain ⟨hp1, hp2⟩ := hr.pos
    have hlow := hr.low
    obtain ⟨Pp, X', Y', Q, eG, hx, hy, hpm, hT⟩ := hr.parts
    have hiI : (i : Int) ≤ 1172812402961 := by omega
    have hjI : (j : Int) ≤ 1172812402961 := by omega
    obtain ⟨mi, emi⟩ : ∃ mi, mi = m - i := ⟨_, rfl⟩
    have hmi : (m : Int) - (i : Int) = (mi : Int) := by omega
    by_cases hne : i = j
    · subst hne
      have d1 : ((i : Int) != (i : Int)) = false := by simp
      have HC : Hid _ := HSW.out WL Pp X' [] Y' Q (by rw [List.append_nil, ← eG]; exact ho) (by omega)
      rw [show Pp.length = mi by omega, show X'.length = i from hx] at HC
      simp only [List.length_nil, Nat.add_zero, List.append_nil] at HC
      rw [show mi + i = m by omega, ← hT] at HC
      have HS : Hid (Same (fun b => b = g) w WL) := hs
      clear ho hr hs hpm hT eG hx hy hGl emi
      go_wp2_with fail
      refine Calls.mono HC.out ?_
      rintro r w2 ⟨rfl, o2, s2⟩
      have R2 : Hid (Own (en enc) k 30 base w2 (.slice (some ⟨g, 0, none⟩) N cap) T ∧ Same (fun b => b = g) w w2) := ⟨o2, HS.out.trans' s2⟩
      clear o2 s2 HC
      go_wp2_with fail
      go_end0
      exact ⟨rfl, R2.out⟩
    · have d1 : ((i : Int) != (j : Int)) = true := by simp; omega
      have d1' : ¬ (i : Int) = (j : Int) := by omega
      by_cases hgt : j < i
      · have d2 : decide ((i : Int) > (j : Int)) = true := decide_eq_true (by omega)
        have d2' : (j : Int) < (i : Int) := by omega
        obtain ⟨X1, X2, eX, hX1⟩ : ∃ X1 X2, X' = X1 ++ X2 ∧ X1.length = j := ⟨X'.take j, X'.drop j, (List.take_append_drop j X').symm, by rw [List.length_take]; omega⟩
        have hX2 : X2.length = i - j := by have := congrArg List.length eX; rw [List.length_append] at this; omega
        have HC : Hid _ := HSW.out WL Pp X1 X2 Y' Q (by rw [List.append_assoc Pp X1 X2, ← eX, ← eG]; exact ho) (by omega)
        rw [show Pp.length = mi by omega, show X1.length = j from hX1, show mi + j + X2.length = m by omega] at HC
        have HR : Hid (Rt T (Pp ++ Y' ++ X2 ++ X1 ++ Q) p m (i - j) j) := ⟨⟨Pp ++ Y', X2, X1, Q, rfl, hX2, hX1, by rw [List.length_append]; omega, by rw [hT, eX]; simp only [List.append_assoc]⟩, ⟨by omega, hp2⟩, by omega⟩
        have HS : Hid (Same (fun b => b = g) w WL) := hs
        have hij : (i : Int) - (j : Int) = ((i - j : Nat) : Int) := by omega
        obtain ⟨ij, eij⟩ : ∃ q, q = i - j := ⟨_, rfl⟩
        rw [← eij] at hij HR
        have HIJ : Hid (ij = i - j) := eij
        clear ho hr hs hpm hT eG hx hy hGl emi eX hX1 hX2 eij
        go_wp2_with fail
        refine Calls.mono HC.out ?_
        rintro r w2 ⟨rfl, o2, s2⟩
        have R2 : Hid (Own (en enc) k 30 base w2 (.slice (some ⟨g, 0, none⟩) N cap) (Pp ++ Y' ++ X2 ++ X1 ++ Q) ∧ Same (fun b => b = g) w w2) := ⟨o2, HS.out.trans' s2⟩
        clear o2 s2 HC
        go_wp2_with fail
        go_roundw
        case rel => exact ⟨ij, j, _, rfl, rfl, R2.out.1, HR.out, R2.out.2⟩
        case measure => have e : ij = i - j := HIJ.out; simp only [intOf]; omega
      · have d2 : decide ((i : Int) > (j : Int)) = false := decide_eq_false (by omega)
        have d2' : ¬ (j : Int) < (i : Int) := by omega
        obtain ⟨Y1, Y2, eY, hY2⟩ : ∃ Y1 Y2, Y' = Y1 ++ Y2 ∧ Y2.length = i := ⟨Y'.take (j - i), Y'.drop (j - i), (List.take_append_drop _ Y').symm, by rw [List.length_drop]; omega⟩
        have hY1 : Y1.length = j - i := by have := congrArg List.length eY; rw [List.length_append] at this; omega
        have HC : Hid _ := HSW.out WL Pp X' Y1 Y2 Q (by rw [List.append_assoc (Pp ++ X') Y1 Y2, ← eY, ← eG]; exact ho) (by omega)
        obtain ⟨ji, eji⟩ : ∃ q, q = j - i := ⟨_, rfl⟩
        obtain ⟨mj, emj⟩ : ∃ q, q = m + j - i := ⟨_, rfl⟩
        rw [show Pp.length = mi by omega, show X'.length = i from hx, show mi + i + Y1.length = mj by omega] at HC
        have HR : Hid (Rt T (Pp ++ Y2 ++ Y1 ++ X' ++ Q) p m i ji) := ⟨⟨Pp, Y2, Y1, X' ++ Q, by simp only [List.append_assoc], hY2, by omega, hpm, by rw [hT, eY]; simp only [List.append_assoc]⟩, ⟨hp1, by omega⟩, hlow⟩
        have HS : Hid (Same (fun b => b = g) w WL) := hs
        have hji : (j : Int) - (i : Int) = (ji : Int) := by omega
        have hmj : (m : Int) + (j : Int) - (i : Int) = (mj : Int) := by omega
        have HJI : Hid (ji = j - i) := eji
        clear ho hr hs hpm hT eG hx hy hGl emi eY hY1 hY2 eji emj
        go_wp2_with fail
        refine Calls.mono HC.out ?_
        rintro r w2 ⟨rfl, o2, s2⟩
        have R2 : Hid (Own (en enc) k 30 base w2 (.slice (some ⟨g, 0, none⟩) N cap) (Pp ++ Y2 ++ Y1 ++ X' ++ Q) ∧ Same (fun b => b = g) w w2) := ⟨o2, HS.out.trans' s2⟩
        clear o2 s2 HC
        go_wp2_with fail
        go_roundw
        case rel => exact ⟨i, ji, _, rfl, rfl, R2.out.1, HR.out, R2.out.2⟩
        case measure => have e : ji = j - i := HJI.out; simp only [intOf]; omega
end Go.Proofs.Ytnfkjblhnpnaeaa
