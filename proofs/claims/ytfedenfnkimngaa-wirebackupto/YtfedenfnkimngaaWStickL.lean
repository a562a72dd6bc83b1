/- What is proved: WireSticks answers true for every list of bytes and every list of calls. -/
import Derived.Test.YtfedenfnkimngaaWOneL
import Derived.Test.YtfedenfnkimngaaWText
namespace Go.Proofs.Ytfedenfnkimngaa
open Go.RowKit

/-- A reading call. -/
structure O5 where
  k : Int
  a : Int
  b : Int
/-- The calls l lie in w from address a on. -/
def OpsAt (w : World) (a : Option Addr) (l : List O5) : Prop :=
  ∀ i o, l[i]? = some o → ∃ b off, a = some ⟨b, off, none⟩ ∧ b < w.heap.size ∧ w.cell? ⟨b, off + i * 3, none⟩ = some (.int .i64 o.k) ∧ w.cell? ⟨b, off + i * 3 + 1, none⟩ = some (.int .i64 o.a) ∧ w.cell? ⟨b, off + i * 3 + 2, none⟩ = some (.int .i64 o.b)
theorem OpsAt.on {w w' : World} {a : Option Addr} {l : List O5} (h : OpsAt w a l) (hs : Kept w w') : OpsAt w' a l := fun i x hx => by
  obtain ⟨b, off, rfl, hb, c0, c1, c2⟩ := h i x hx
  exact ⟨b, off, rfl, Nat.lt_of_lt_of_le hb hs.size, (hs.cell (p := ⟨b, _, none⟩) hb (fun h => h)).trans c0, (hs.cell (p := ⟨b, _, none⟩) hb (fun h => h)).trans c1, (hs.cell (p := ⟨b, _, none⟩) hb (fun h => h)).trans c2⟩
/-- What is known of an argument that is a list of calls. -/
structure ArgO (w : World) (a : Option Addr) (c : Nat) (l : List O5) : Prop where
  data : OpsAt w a l
  len : l.length * 24 ≤ reachBytes

/-- A cursor of the call's own: its blocks lie from base on. -/
def CuN (base : Nat) (w : World) (cb : Nat) (l : List Int) (pl : Nat) (ft : Int) : Prop := base ≤ cb ∧ ∃ a cap, Cu w cb a cap l pl ft ∧ ∀ g, a = some ⟨g, 0, none⟩ → base ≤ g
theorem CuN.on {base : Nat} {w w' : World} {cb : Nat} {l : List Int} {pl : Nat} {ft : Int} (h : CuN base w cb l pl ft) (k : Kept w w') : CuN base w' cb l pl ft := by
  obtain ⟨h1, a, cap, h2, h3⟩ := h
  exact ⟨h1, a, cap, h2.on k, h3⟩
theorem CuN.lt {base : Nat} {w : World} {cb : Nat} {l : List Int} {pl : Nat} {ft : Int} (h : CuN base w cb l pl ft) : cb < w.heap.size := by
  obtain ⟨h1, a, cap, h2, h3⟩ := h
  exact h2.lt
theorem CuN.of {base : Nat} {w : World} {v : Value} {l : List Int} (h : NewCu base l v w) : ∃ cb, v = .pointer (some ⟨cb, 0, none⟩) ∧ CuN base w cb l 0 0 := by
  obtain ⟨cb, a, cap, rfl, h1, h2, h3⟩ := h
  exact ⟨cb, rfl, h2, a, cap, h1, fun g e => (h3 g e).1⟩
section
variable {base : Nat} {w : World} {cb : Nat} {l : List Int} {pl : Nat} {ft : Int}
theorem CuN.byte (h : CuN base w cb l pl ft) : Calls Try.prog 24 #[.pointer (some ⟨cb, 0, none⟩)] w fun e w' => e = .returned (.tuple #[.int .u8 (rByte l pl ft).1.1, .int .i64 (rByte l pl ft).1.2]) ∧ CuN base w' cb l (rByte l pl ft).2.1 (rByte l pl ft).2.2 ∧ Same (fun k => k = cb) w w' := by
  obtain ⟨h1, a, cap, h2, h3⟩ := h
  exact (byte_any h2).mono fun e w' ⟨he, u, s⟩ => ⟨he, ⟨h1, a, cap, u, h3⟩, s⟩
theorem CuN.number (h : CuN base w cb l pl ft) (most : Int) : Calls Try.prog 21 #[.pointer (some ⟨cb, 0, none⟩), .int .i64 most] w fun e w' => e = .returned (.tuple #[.int .i64 (rNum l pl ft most).1.1, .int .i64 (rNum l pl ft most).1.2]) ∧ CuN base w' cb l (rNum l pl ft most).2.1 (rNum l pl ft most).2.2 ∧ Same (fun k => k = cb) w w' := by
  obtain ⟨h1, a, cap, h2, h3⟩ := h
  exact (number_any h2 most).mono fun e w' ⟨he, u, s⟩ => ⟨he, ⟨h1, a, cap, u, h3⟩, s⟩
theorem CuN.text (h : CuN base w cb l pl ft) (least most : Int) : Calls Try.prog 22 #[.pointer (some ⟨cb, 0, none⟩), .int .i64 least, .int .i64 most] w fun e w' => e = .returned (.tuple #[.string (strOfNums (rText l pl ft least most).1.1), .int .i64 (rText l pl ft least most).1.2]) ∧ CuN base w' cb l (rText l pl ft least most).2.1 (rText l pl ft least most).2.2 ∧ Same (fun k => k = cb) w w' := by
  obtain ⟨h1, a, cap, h2, h3⟩ := h
  exact (text_any h2 least most).mono fun e w' ⟨he, u, s⟩ => ⟨he, ⟨h1, a, cap, u, h3⟩, s⟩
theorem CuN.take (h : CuN base w cb l pl ft) (n : Int) : Calls Try.prog 23 #[.pointer (some ⟨cb, 0, none⟩), .int .i64 n] w fun e w' => ∃ v, e = .returned (.tuple #[v, .int .i64 (rTake l pl ft n).1.2]) ∧ OwnB w.heap.size w' v (rTake l pl ft n).1.1 ∧ CuN base w' cb l (rTake l pl ft n).2.1 (rTake l pl ft n).2.2 ∧ Same (fun k => k = cb) w w' := by
  obtain ⟨h1, a, cap, h2, h3⟩ := h
  exact (take_any h2 n).mono fun e w' ⟨v, he, o, u, s⟩ => ⟨v, he, o, ⟨h1, a, cap, u, h3⟩, s⟩
theorem CuN.offset (h : CuN base w cb l pl ft) : Calls Try.prog 12 #[.pointer (some ⟨cb, 0, none⟩)] w fun e w' => e = .returned (.int .i64 pl) ∧ w' = w := by
  obtain ⟨h1, a, cap, h2, h3⟩ := h
  exact offset_any h2
theorem CuN.fault (h : CuN base w cb l pl ft) : Calls Try.prog 14 #[.pointer (some ⟨cb, 0, none⟩)] w fun e w' => e = .returned (.int .i64 ft) ∧ w' = w := by
  obtain ⟨h1, a, cap, h2, h3⟩ := h
  exact fault_any h2
theorem CuN.left (h : CuN base w cb l pl ft) : Calls Try.prog 13 #[.pointer (some ⟨cb, 0, none⟩)] w fun e w' => e = .returned (.int .i64 ((l.length - pl : Nat) : Int)) ∧ Kept w w' := by
  obtain ⟨h1, a, cap, h2, h3⟩ := h
  exact left_any h2
theorem CuN.keeps {v w' : World} (h : CuN base w cb l pl ft) (hb : v.heap.size ≤ base) (k : Kept v w) (s : Same (fun k => k = cb) w w') : Kept v w' := Same.trans k s (fun i hi e => by have := h.1; omega)
end

theorem rTake_all (l : List Int) : rTake l 0 0 (l.length : Int) = ((l, 0), (l.length, 0)) := by
  unfold rTake
  rw [if_neg (by decide), if_neg (by omega), if_neg (by omega)]
  simp
theorem rByte_end (l : List Int) : rByte l l.length 0 = ((0, 51), (l.length, 51)) := by
  unfold rByte
  rw [if_neg (by decide), if_pos (Nat.le_refl _)]

set_option maxRecDepth 100000 in
set_option maxHeartbeats 3200000 in
theorem sticks_any (oa : Option Addr) (c : Nat) (l : List Int) (sa : Option Addr) (sc : Nat) (ls : List O5) (w : World) (h : ArgB w oa c l) (hs : ArgO w sa sc ls) :
    Calls Try.prog 8 #[.slice oa l.length c, .slice sa ls.length sc] w fun e w' => e = .returned (.bool true) ∧ Kept w w' := by
  have hnot : ∀ (x : Bool) (w : World), (Op.unary .not (.bool x)).run Try.prog w = .ok (.bool (!x)) w := fun _ _ => rfl
  have hle := h.le
  have hlo : ls.length ≤ 140737488351232 := by have := hs.len; unfold reachBytes at this; omega
  have HA : Hid _ := anchor_any w
  have HR : Hid (∀ W, Kept w W → _) := fun W (k : Kept w W) => app_lit (c := c) (h.on k).data h.nil (by omega)
  have HO : Hid (∀ base W v, OwnB base W v l → _) := fun base W v (o : OwnB base W v l) => open_own o h.byts (by omega)
  have HT : Hid (∀ base W cb, CuN base W cb l 0 0 → _) := fun base W cb (u : CuN base W cb l 0 0) => u.take (l.length : Int)
  rw [rTake_all] at HT
  have HB : Hid (∀ base W cb, CuN base W cb l l.length 0 → _) := fun base W cb (u : CuN base W cb l l.length 0) => u.byte
  rw [rByte_end] at HB
  have h51 : (51 : Int) ≠ 0 := by decide
  have H1 : Hid (∀ base W cb, CuN base W cb l l.length 51 → _) := fun base W cb (u : CuN base W cb l l.length 51) => u.byte
  have H2 : Hid (∀ base W cb, CuN base W cb l l.length 51 → ∀ b, _) := fun base W cb (u : CuN base W cb l l.length 51) b => u.number b
  have H3 : Hid (∀ base W cb, CuN base W cb l l.length 51 → ∀ a b, _) := fun base W cb (u : CuN base W cb l l.length 51) a b => u.text a b
  have H4 : Hid (∀ base W cb, CuN base W cb l l.length 51 → ∀ a, _) := fun base W cb (u : CuN base W cb l l.length 51) a => u.take a
  rw [rByte_ft h51] at H1
  simp only [rNum, rNumQ_ft h51] at H2
  simp only [rText, rTextQ_ft h51] at H3
  simp only [rTake_ft h51] at H4
  have H5 : Hid (∀ base W cb, CuN base W cb l l.length 51 → _) := fun base W cb (u : CuN base W cb l l.length 51) => u.offset
  have H6 : Hid (∀ base W cb, CuN base W cb l l.length 51 → _) := fun base W cb (u : CuN base W cb l l.length 51) => u.fault
  have HS : Hid _ := hs.data
  obtain ⟨n, en⟩ : ∃ n, n = l.length := ⟨_, rfl⟩
  obtain ⟨N, eN⟩ : ∃ N, N = ls.length := ⟨_, rfl⟩
  rw [← en] at HR HT HB H1 H2 H3 H4 H5 H6 hle ⊢
  rw [← eN] at hlo ⊢
  have EN : Hid _ := eN
  have hnn : ((n : Int) != (n : Int)) = false := by simp
  have h5' : ((51 : Int) != 51) = false := by simp
  clear h hs en eN h51
  go_enter Try.func8, Try.ntmps8
  go_wp2_with fail
  refine Calls.mono HA.out ?_
  rintro e w1 ⟨rfl, k1⟩
  have K1 : Hid _ := k1
  clear k1
  go_wp2_with (at_builtin; refine wpList_app rfl (.tmp 22) (.tmp 23) 22 22 rfl _ _ rfl rfl _ (HR.out _ K1.out) ?_; rintro v2 w2 ⟨o2, k2⟩)
  refine Calls.mono (HO.out _ _ _ o2) ?_
  rintro e w3 ⟨v3, rfl, hc3, k3⟩
  obtain ⟨cb, rfl, u3⟩ := CuN.of hc3
  have K3 : Hid (Kept w w3) := (Same.trans' K1.out k2).trans' k3
  have HBS : Hid (w.heap.size ≤ w2.heap.size) := by have := K1.out.size; have := k2.size; show w.heap.size ≤ _; omega
  have H7 : Hid _ := HT.out _ _ _ u3
  have U3 : Hid _ := u3
  clear o2 k2 u3 k3 hc3
  go_wp2_with fail
  refine Calls.mono H7.out ?_
  rintro e w4 ⟨v4, rfl, -, u4, s4⟩
  have K4 : Hid (Kept w w4) := CuN.keeps U3.out HBS.out K3.out s4
  have H8 : Hid _ := HB.out _ _ _ u4
  have U4 : Hid _ := u4
  clear u4 s4
  go_wp2_with fail
  refine Calls.mono H8.out ?_
  rintro e w5 ⟨rfl, u5, s5⟩
  have K5 : Hid (Kept w w5) := CuN.keeps U4.out HBS.out K4.out s5
  have U5 : Hid _ := u5
  clear u5 s5
  go_wp2_with fail
  go_loopw [46] (fun i wr => ∃ j : Nat, j ≤ N ∧ i = .int .i64 j ∧ CuN w2.heap.size wr cb l n 51 ∧ Kept w wr) (fun i _ => N - (intOf i).toNat)
  case atStart => exact ⟨0, Nat.zero_le _, rfl, U5.out, K5.out⟩
  case round =>
    obtain ⟨j, hj, rfl, ur, kr⟩ := hrel
    have UR : Hid _ := ur
    have KR : Hid _ := kr
    clear ur kr
    by_cases hlt : j < N
    · have c1 : decide ((j : Int) < (N : Int)) = true := decide_eq_true (by omega)
      have hlt2 : (j : Int) < (N : Int) := by omega
      obtain ⟨o, ho⟩ : ∃ o, ls[j]? = some o := ⟨_, List.getElem?_eq_getElem (by rw [← EN.out]; exact hlt)⟩
      obtain ⟨b, off, rfl, -, q0, q1, q2⟩ := OpsAt.on HS.out KR.out j o ho
      obtain ⟨X, eX⟩ : ∃ X, X = Obj.cells #[.int .i64 o.k, .int .i64 o.a, .int .i64 o.b] 31 (0, 0) := ⟨_, rfl⟩
      have hX : (wr.alloc X).heap[wr.heap.size]? = some (.cells #[.int .i64 o.k, .int .i64 o.a, .int .i64 o.b] 31 (0, 0)) := (heap_new wr X).trans (by rw [eX])
      have g1 : (wr.alloc X).cell? ⟨wr.heap.size, 1, none⟩ = some (.int .i64 o.a) := (cell_of hX 1).trans rfl
      have g2 : (wr.alloc X).cell? ⟨wr.heap.size, 2, none⟩ = some (.int .i64 o.b) := (cell_of hX 2).trans rfl
      have G1 : Hid _ := g1
      have G2 : Hid _ := g2
      have hsz : wr.heap.size < (wr.alloc X).heap.size := by simp
      have HSZ : Hid _ := hsz
      have HCB : Hid (cb < wr.heap.size) := CuN.lt UR.out
      have HNE : Hid (¬ wr.heap.size = cb) := by have := HCB.out; show ¬ _ = _; omega
      have UX : Hid (CuN w2.heap.size (wr.alloc X) cb l n 51) := CuN.on UR.out ((Same.refl _ wr).alloc _)
      have KX : Hid (Kept w (wr.alloc X)) := KR.out.alloc _
      have H9 : Hid _ := H1.out _ _ _ UX.out
      clear g1 g2 hX ho hsz
      subst eX
      go_wp2_with fail
      refine Calls.mono H9.out ?_
      rintro e w6 ⟨rfl, u6, s6⟩
      have K6 : Hid (Kept w w6) := CuN.keeps UX.out HBS.out KX.out s6
      have p1 : w6.cell? ⟨wr.heap.size, 1, none⟩ = some (.int .i64 o.a) := (s6.cell (p := ⟨wr.heap.size, 1, none⟩) HSZ.out HNE.out).trans G1.out
      have p2 : w6.cell? ⟨wr.heap.size, 2, none⟩ = some (.int .i64 o.b) := (s6.cell (p := ⟨wr.heap.size, 2, none⟩) HSZ.out HNE.out).trans G2.out
      have P1 : Hid _ := p1
      have P2 : Hid _ := p2
      have Z6 : Hid (wr.heap.size < w6.heap.size) := Nat.lt_of_lt_of_le HSZ.out s6.size
      have U6 : Hid _ := u6
      clear u6 s6 p1
      go_wp2_with fail
      refine Calls.mono (H2.out _ _ _ U6.out _) ?_
      rintro e w7 ⟨rfl, u7, s7⟩
      have K7 : Hid (Kept w w7) := CuN.keeps U6.out HBS.out K6.out s7
      have r1 : w7.cell? ⟨wr.heap.size, 1, none⟩ = some (.int .i64 o.a) := (s7.cell (p := ⟨wr.heap.size, 1, none⟩) Z6.out HNE.out).trans P1.out
      have r2 : w7.cell? ⟨wr.heap.size, 2, none⟩ = some (.int .i64 o.b) := (s7.cell (p := ⟨wr.heap.size, 2, none⟩) Z6.out HNE.out).trans P2.out
      have R1 : Hid _ := r1
      have Z7 : Hid (wr.heap.size < w7.heap.size) := Nat.lt_of_lt_of_le Z6.out s7.size
      have U7 : Hid _ := u7
      clear u7 s7 p2
      go_wp2_with fail
      refine Calls.mono (H3.out _ _ _ U7.out _ _) ?_
      rintro e w8 ⟨rfl, u8, s8⟩
      have K8 : Hid (Kept w w8) := CuN.keeps U7.out HBS.out K7.out s8
      have t1 : w8.cell? ⟨wr.heap.size, 1, none⟩ = some (.int .i64 o.a) := (s8.cell (p := ⟨wr.heap.size, 1, none⟩) Z7.out HNE.out).trans R1.out
      have U8 : Hid _ := u8
      clear u8 s8 r1 r2
      go_wp2_with fail
      refine Calls.mono (H4.out _ _ _ U8.out _) ?_
      rintro e w9 ⟨v9, rfl, -, u9, s9⟩
      have K9 : Hid (Kept w w9) := CuN.keeps U8.out HBS.out K8.out s9
      have U9 : Hid _ := u9
      clear u9 s9 t1
      go_wp2_with fail
      refine Calls.mono (H5.out _ _ _ U9.out) ?_
      rintro e w10 ⟨rfl, rfl⟩
      go_wp2_with fail
      refine Calls.mono (H6.out _ _ _ U9.out) ?_
      rintro e w11 ⟨rfl, rfl⟩
      go_wp2_with fail
      go_roundw
      case rel => exact ⟨j + 1, hlt, by simp, U9.out, K9.out⟩
      case measure => simp only [intOf]; omega
    · have c1 : decide ((j : Int) < (N : Int)) = false := decide_eq_false (by omega)
      go_wp2_with fail
      go_ret
      exact ⟨rfl, KR.out⟩
end Go.Proofs.Ytfedenfnkimngaa
