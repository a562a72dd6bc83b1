/- What is proved: the law RunsSorts answers true, for every order and list of rows that lies in memory. -/
import Derived.Test.YtcbllejjiokmbaaNPln
import Derived.Test.YtcbllejjiokmbaaNSrt
namespace Go.Proofs.Ytcbllejjiokmbaa
open Go.RowKit

theorem up_srt (order : Int) (l : List RwM) : UpL order (srt (bef order) l) := fun i x y hx hy => by
  have hp := srt_pw (bef_swo order) l
  rw [List.pairwise_iff_getElem] at hp
  obtain ⟨hi, rfl⟩ := List.getElem?_eq_some_iff.1 hx
  obtain ⟨hj, rfl⟩ := List.getElem?_eq_some_iff.1 hy
  exact hp i (i + 1) hi hj (by omega)
/-- The first p pairs of neighbours stand rightly. -/
def UpTo (order : Int) (l : List RwM) (p : Nat) (b : Bool) : Prop := b = true ↔ ∀ (k : Nat) (x y : RwM), k < p → l[k]? = some x → l[k + 1]? = some y → bef order y x = false
theorem UpTo.step {order : Int} {l : List RwM} {p : Nat} {b : Bool} (h : UpTo order l p b) {x y : RwM} (hx : l[p]? = some x) (hy : l[p + 1]? = some y) : UpTo order l (p + 1) (b && !bef order y x) := by
  unfold UpTo at *
  rw [Bool.and_eq_true, Bool.not_eq_true', h]
  constructor
  · rintro ⟨h1, h2⟩ k u v hk hu hv
    by_cases e : k = p
    · subst e
      rw [hx] at hu
      rw [hy] at hv
      cases hu
      cases hv
      exact h2
    · exact h1 k u v (by omega) hu hv
  · intro h1
    exact ⟨fun k u v hk hu hv => h1 k u v (by omega) hu hv, h1 p x y (by omega) hx hy⟩
theorem UpTo.done {order : Int} {l : List RwM} {p : Nat} {b : Bool} (h : UpTo order l p b) (hp : l.length ≤ p + 1) : b = true ↔ UpL order l := by
  unfold UpTo at h
  rw [h]
  constructor
  · intro h1 i x y hx hy
    exact h1 i x y (by have := (List.getElem?_eq_some_iff.1 hy).1; omega) hx hy
  · intro h1 k x y _ hx hy
    exact h1 k x y hx hy
set_option maxRecDepth 100000 in
set_option maxHeartbeats 4000000 in
theorem sorts_law (order : Int) (w : World) (a : Option Addr) (cap : Nat) (l : List RwM) (h : ArgR w a cap l) : Calls Try.prog 5 #[.int .i64 order, .slice a l.length cap] w fun e w' => e = .returned (.bool true) ∧ Kept w w' := by
  have HA : Hid (∀ W, _) := anchor10_any
  have HR : Hid _ := h
  have hl2 : l.length ≤ 2199023255552 := by have := h.len; omega
  have HCP : Hid (∀ W, Kept w W → ∀ ty, _) := fun W (k : Kept w W) ty => copy_rows (cap := cap) Try.underlying22 Try.infoRow (h.rows.on k) h.nil hl2 ty
  have HSO : Hid ((order = 1 ∨ order = 2) → ∀ (W : World) (b : Option Addr) (c : Nat), RowsAt W b l → _) := fun ho W b c (hb : RowsAt W b l) => sort10_ok (cap := c) ho hb hl2
  have HSN : Hid (¬ (order = 1 ∨ order = 2) → ∀ (W : World) (v : Value), _) := fun ho W v => sort10_no (v := v) (w := W) ho
  have HPL : Hid (∀ W, Kept w W → _) := fun W (k : Kept w W) => plains10 (cap := cap) (h.rows.on k) hl2
  have HSA : Hid (∀ (W : World) (b c : Option Addr) (cb cc : Nat), RowsAt W b l → RowsAt W c l → _) := fun W b c cb cc hb hc => same10_true (ca := cb) (cb := cc) (l := l) hb hc hl2
  have HSS : Hid (∀ (W : World) (b c : Option Addr) (cb cc : Nat), RowsAt W b (srt (bef order) l) → RowsAt W c (srt (bef order) l) → _) := fun W b c cb cc hb hc => same10_true (ca := cb) (cb := cc) hb hc (by rw [srt_len]; exact hl2)
  have HRS : Hid (∀ (W : World) (b : Option Addr) (c : Nat), RowsAt W b l → l.length ≤ c → (b = none → l.length = 0 ∧ c = 0) → _) := fun W b c hb h1 h2 => sorted10 order (l.length + 1) (cap := c) (Nat.lt_succ_self _) hb h1 h2 hl2
  have HUS : Hid (∀ (W : World) (b : Option Addr) (c : Nat), RowsAt W b l → _) := fun W b c (hb : RowsAt W b l) => usorted10 order (cap := c) hb hl2
  have HUT : Hid (∀ (W : World) (b : Option Addr) (c : Nat), RowsAt W b (srt (bef order) l) → _) := fun W b c (hb : RowsAt W b (srt (bef order) l)) => usorted10 order (cap := c) hb (by rw [srt_len]; exact hl2)
  have USR : Hid _ := up_srt order l
  obtain ⟨n, en⟩ : ∃ n, n = l.length := ⟨_, rfl⟩
  have LS : (srt (bef order) l).length = n := by rw [srt_len, en]
  have LL : Hid ((srt (bef order) l).length = n) := LS
  rw [LS] at HSS HUT
  rw [← en] at HCP HSO HPL HSA HRS HUS hl2 ⊢
  have EN : Hid _ := en
  have i0 : (n : Int) ≤ 2199023255552 := by omega
  clear h en LS
  go_enter Try.func5, Try.ntmps5
  go_wp2_with fail
  refine Calls.mono (HA.out _) ?_
  rintro e w1 ⟨rfl, k1⟩
  have HC1 : Hid _ := HCP.out w1 k1
  have HX : Hid (∀ (v2 : Value) (w2 : World), w2.ownsRow w1.heap.size 26 7 v2 n (rwc l) → Kept w1 w2 → ∃ ua uc, v2 = .slice ua n uc ∧ Hid (RowsAt w2 ua l) ∧ Hid (Kept w w2)) := fun v2 w2 o2 k2 => by
    rw [EN.out] at o2
    obtain ⟨ua, uc, e, hra, -⟩ := OwnR.rows o2
    exact ⟨ua, uc, by rw [e, EN.out], hra, k1.trans' k2⟩
  clear k1 HA HCP
  go_wp2_with (at_builtin; refine wpList_app rfl (.tmp 12) (.tmp 13) 22 22 rfl (.slice (some ⟨w1.heap.size, 0, none⟩) 0 0) (.slice a n cap) rfl rfl _ HC1.out ?_; rintro v2 w2 ⟨o2, k2⟩; obtain ⟨ua, uc, rfl, R2, K2⟩ := HX.out v2 w2 o2 k2; clear o2 k2)
  clear HC1 HX
  by_cases ho : order = 1 ∨ order = 2
  · have d1 : decide (order < 1) = false := decide_eq_false (by omega)
    have d1' : ¬ order < 1 := by omega
    have d2 : decide (2 < order) = false := decide_eq_false (by omega)
    have d2' : ¬ 2 < order := by omega
    refine Calls.mono (HSO.out ho w2 ua uc R2.out) ?_
    rintro e w3 ⟨v3, rfl, o3, k3⟩
    obtain ⟨sa, sc, rfl, rs3, -⟩ := OwnR.rows o3
    rw [LL.out]
    have R3 : Hid (RowsAt w3 sa (srt (bef order) l)) := rs3
    have R3a : Hid (RowsAt w3 ua l) := RowsAt.on R2.out k3
    have K3 : Hid (Kept w w3) := Same.trans' K2.out k3
    have HO : Hid _ := ho
    clear o3 k3 rs3 HSO HSN R2 K2 ho
    go_wp2_with fail
    refine Calls.mono (HPL.out _ K3.out) ?_
    rintro e w4 ⟨v4, rfl, o4, k4⟩
    obtain ⟨pa, pc, rfl, rp4, -, -, -⟩ := OwnQ.rows o4
    rw [← EN.out]
    have HS4 : Hid _ := HSA.out w4 ua pa uc pc (RowsAt.on R3a.out k4) rp4
    have K4 : Hid (Kept w3 w4) := k4
    clear o4 k4 rp4
    go_wp2_with fail
    refine Calls.mono HS4.out ?_
    rintro e w5 ⟨rfl, k5⟩
    have K5 : Hid (Kept w3 w5) := Same.trans' K4.out k5
    clear k5 HS4 K4
    go_wp2_with fail
    refine Calls.mono (HPL.out _ (Same.trans' K3.out K5.out)) ?_
    rintro e w6 ⟨v6, rfl, o6, k6⟩
    obtain ⟨qa, qc, rfl, rq6, hq1, hq2, -⟩ := OwnQ.rows o6
    rw [← EN.out]
    have HS6 : Hid _ := HRS.out w6 qa qc rq6 (by rw [EN.out]; exact hq1) (by rw [EN.out]; exact hq2)
    have K6 : Hid (Kept w3 w6) := Same.trans' K5.out k6
    clear o6 k6 rq6 hq1 hq2 K5
    go_wp2_with fail
    refine Calls.mono HS6.out ?_
    rintro e w7 ⟨v7, rfl, o7, k7⟩
    obtain ⟨ta, tc, rfl, rt7, -, -, -⟩ := OwnQ.rows o7
    rw [LL.out]
    have HS7 : Hid _ := HSS.out w7 sa ta sc tc (RowsAt.on R3.out (Same.trans' K6.out k7)) rt7
    have K7 : Hid (Kept w3 w7) := Same.trans' K6.out k7
    clear o7 k7 rt7 K6 HS6
    go_wp2_with fail
    refine Calls.mono HS7.out ?_
    rintro e w8 ⟨rfl, k8⟩
    have K8 : Hid (Kept w3 w8) := Same.trans' K7.out k8
    have HS8 : Hid _ := HUT.out w8 sa sc (RowsAt.on R3.out K8.out)
    clear k8 K7 HS7
    go_wp2_with fail
    refine Calls.mono HS8.out ?_
    rintro e w9 ⟨⟨b9, rfl, hb9⟩, k9⟩
    obtain rfl : b9 = true := hb9.2 (.inr ⟨HO.out, USR.out⟩)
    have K9 : Hid (Kept w3 w9) := Same.trans' K8.out k9
    clear hb9 k9 K8 HS8
    go_wp2_with fail
    go_loopw [8, 9] (fun u8 i wr => ∃ (p : Nat) (b : Bool), i = .int .i64 ((p + 1 : Nat) : Int) ∧ u8 = .bool b ∧ UpTo order l p b ∧ Kept w3 wr) (fun _ i _ => n - (intOf i).toNat)
    case atStart => exact ⟨0, true, rfl, rfl, ⟨fun _ k x y hk => by omega, fun _ => rfl⟩, K9.out⟩
    case round =>
      obtain ⟨p, b, rfl, rfl, hup, kk⟩ := hrel
      have KK : Hid _ := kk
      have HU : Hid _ := hup
      by_cases hp : p + 1 < n
      · have e1 : decide (((p + 1 : Nat) : Int) < (n : Int)) = true := decide_eq_true (by omega)
        have e1' : (p : Int) + 1 < (n : Int) := by omega
        obtain ⟨x, hx⟩ : ∃ x, l[p]? = some x := ⟨_, List.getElem?_eq_getElem (by rw [← EN.out]; omega)⟩
        obtain ⟨y, hy⟩ : ∃ y, l[p + 1]? = some y := ⟨_, List.getElem?_eq_getElem (by rw [← EN.out]; omega)⟩
        obtain ⟨g, off, ea, hg, x0, x1, x2, x3, x4, x5, x6⟩ := (RowsAt.on HR.out.rows (Same.trans' K3.out kk)) p x hx
        subst ea
        obtain ⟨g', off', eb, -, y0, y1, y2, y3, y4, y5, y6⟩ := (RowsAt.on HR.out.rows (Same.trans' K3.out kk)) (p + 1) y hy
        cases eb
        have HUS2 : Hid _ := hup.step hx hy
        obtain ⟨k1, t1, s1, i1, f1, z1, b1⟩ := x
        obtain ⟨k2, t2, s2, i2, f2, z2, b2⟩ := y
        simp only at x0 x1 x2 x3 x4 x5 x6 y0 y1 y2 y3 y4 y5 y6
        have HBF : Hid (∀ W, Kept wr W → Calls _ _ _ _ fun e w' => _ ∧ Kept wr w') := fun W (k : Kept wr W) => Calls.mono (before_f order k2 t2 s2 i2 f2 z2 b2 k1 t1 s1 i1 f1 z1 b1 W) fun e w' hh => ⟨hh.1, k.trans' hh.2⟩
        have HPF : Hid (∀ k t s i f u y W, Kept wr W → Calls _ _ _ _ fun e w' => _ ∧ Kept wr w') := fun k t s i f u y W (kw : Kept wr W) => Calls.mono (plain_f k t s i f u y W) fun e w' hh => ⟨hh.1, kw.trans' hh.2⟩
        generalize bef order _ _ = bb at HBF HUS2
        have HT : Hid (∀ W, Kept wr W → Kept wr W ∧ W.cell? ⟨g, off + (p + 1) * 7, none⟩ = some (.int .i64 k2) ∧ W.cell? ⟨g, off + (p + 1) * 7 + 1, none⟩ = some (.int .i64 t2) ∧ W.cell? ⟨g, off + (p + 1) * 7 + 2, none⟩ = some (.int .i64 s2) ∧ W.cell? ⟨g, off + (p + 1) * 7 + 3, none⟩ = some (.int .i64 i2) ∧ W.cell? ⟨g, off + (p + 1) * 7 + 4, none⟩ = some (.int .i64 f2) ∧ W.cell? ⟨g, off + (p + 1) * 7 + 5, none⟩ = some (.int .i64 z2) ∧ W.cell? ⟨g, off + (p + 1) * 7 + 6, none⟩ = some (.string b2) ∧ W.cell? ⟨g, off + p * 7, none⟩ = some (.int .i64 k1) ∧ W.cell? ⟨g, off + p * 7 + 1, none⟩ = some (.int .i64 t1) ∧ W.cell? ⟨g, off + p * 7 + 2, none⟩ = some (.int .i64 s1) ∧ W.cell? ⟨g, off + p * 7 + 3, none⟩ = some (.int .i64 i1) ∧ W.cell? ⟨g, off + p * 7 + 4, none⟩ = some (.int .i64 f1) ∧ W.cell? ⟨g, off + p * 7 + 5, none⟩ = some (.int .i64 z1) ∧ W.cell? ⟨g, off + p * 7 + 6, none⟩ = some (.string b1)) := fun W k => ⟨k, (k.cell (p := ⟨g, _, none⟩) hg (fun e => e)).trans y0, (k.cell (p := ⟨g, _, none⟩) hg (fun e => e)).trans y1, (k.cell (p := ⟨g, _, none⟩) hg (fun e => e)).trans y2, (k.cell (p := ⟨g, _, none⟩) hg (fun e => e)).trans y3, (k.cell (p := ⟨g, _, none⟩) hg (fun e => e)).trans y4, (k.cell (p := ⟨g, _, none⟩) hg (fun e => e)).trans y5, (k.cell (p := ⟨g, _, none⟩) hg (fun e => e)).trans y6, (k.cell (p := ⟨g, _, none⟩) hg (fun e => e)).trans x0, (k.cell (p := ⟨g, _, none⟩) hg (fun e => e)).trans x1, (k.cell (p := ⟨g, _, none⟩) hg (fun e => e)).trans x2, (k.cell (p := ⟨g, _, none⟩) hg (fun e => e)).trans x3, (k.cell (p := ⟨g, _, none⟩) hg (fun e => e)).trans x4, (k.cell (p := ⟨g, _, none⟩) hg (fun e => e)).trans x5, (k.cell (p := ⟨g, _, none⟩) hg (fun e => e)).trans x6⟩
        have p2 : (p : Int) < (n : Int) := by omega
        have hw1 : IntKind.i64.wrap ((p : Int) + 1 - 1) = (p : Int) := by rw [IntKind.wrap_i64]; omega
        have hw2 : IntKind.i64.wrap (p : Int) = (p : Int) := by rw [IntKind.wrap_i64]; omega
        have p3 : (0 : Int) ≤ (p : Int) := by omega
        have p4 : p < n := by omega
        have p6 : (0 : Int) ≤ (p : Int) + 1 := by omega
        have hN : ((p : Int) + 1).toNat = p + 1 := by omega
        clear hx hy kk hup HU HPL HSA HSS HRS HUS HUT
        go_wp2_with fail
        cases b with
        | false =>
          rw [Bool.false_and] at HUS2
          go_region
          all_goals
            go_wp2_with fail
            go_roundw
            case rel => exact ⟨p + 1, _, by rw [Int.natCast_add]; rfl, rfl, HUS2.out, Same.trans' KK.out (by (repeat (first | assumption | exact Same.refl _ _ | apply Same.alloc | apply Same.drew | apply Same.drewN)); done)⟩
            case measure => simp only [intOf]; omega
        | true =>
          rw [Bool.true_and] at HUS2
          go_region_held3 (fun W => Kept wr W ∧ W.cell? ⟨g, off + (p + 1) * 7, none⟩ = some (.int .i64 k2) ∧ W.cell? ⟨g, off + (p + 1) * 7 + 1, none⟩ = some (.int .i64 t2) ∧ W.cell? ⟨g, off + (p + 1) * 7 + 2, none⟩ = some (.int .i64 s2) ∧ W.cell? ⟨g, off + (p + 1) * 7 + 3, none⟩ = some (.int .i64 i2) ∧ W.cell? ⟨g, off + (p + 1) * 7 + 4, none⟩ = some (.int .i64 f2) ∧ W.cell? ⟨g, off + (p + 1) * 7 + 5, none⟩ = some (.int .i64 z2) ∧ W.cell? ⟨g, off + (p + 1) * 7 + 6, none⟩ = some (.string b2) ∧ W.cell? ⟨g, off + p * 7, none⟩ = some (.int .i64 k1) ∧ W.cell? ⟨g, off + p * 7 + 1, none⟩ = some (.int .i64 t1) ∧ W.cell? ⟨g, off + p * 7 + 2, none⟩ = some (.int .i64 s1) ∧ W.cell? ⟨g, off + p * 7 + 3, none⟩ = some (.int .i64 i1) ∧ W.cell? ⟨g, off + p * 7 + 4, none⟩ = some (.int .i64 f1) ∧ W.cell? ⟨g, off + p * 7 + 5, none⟩ = some (.int .i64 z1) ∧ W.cell? ⟨g, off + p * 7 + 6, none⟩ = some (.string b1))
            (exact HT.out _ (by (repeat (first | assumption | exact Same.refl _ _ | apply Same.alloc | apply Same.drew | apply Same.drewN)); done))
            (first
            | (go_at_call 19; refine Calls.mono (HPF.out _ _ _ _ _ _ _ _ (by (repeat (first | assumption | exact Same.refl _ _ | apply Same.alloc | apply Same.drew | apply Same.drewN)); done)) ?_; rintro e w5 ⟨rfl, k5⟩)
            | (go_at_call 30; refine Calls.mono (HBF.out _ (by (repeat (first | assumption | exact Same.refl _ _ | apply Same.alloc | apply Same.drew | apply Same.drewN)); done)) ?_; rintro e w6 ⟨rfl, k6⟩))
          all_goals
            go_wp2_with fail
            go_roundw
            case rel => exact ⟨p + 1, _, by rw [Int.natCast_add]; rfl, rfl, HUS2.out, Same.trans' KK.out (by (repeat (first | assumption | exact Same.refl _ _ | apply Same.alloc | apply Same.drew | apply Same.drewN)); done)⟩
            case measure => simp only [intOf]; omega
      · have e1 : decide (((p + 1 : Nat) : Int) < (n : Int)) = false := decide_eq_false (by omega)
        have e1' : ¬ (p : Int) + 1 < (n : Int) := by omega
        have HUA : Hid _ := HUS.out wr ua uc (RowsAt.on R3a.out kk)
        have HD : Hid (b = true ↔ UpL order l) := hup.done (by rw [← EN.out]; omega)
        clear kk hup HPL HSA HSS HRS HUS HUT
        go_wp2_with fail
        refine Calls.mono HUA.out ?_
        rintro e w10 ⟨⟨b10, rfl, hb10⟩, k10⟩
        obtain rfl : b10 = b := by
          have h1 := HD.out
          have h2 : b10 = true ↔ UpL order l := by
            rw [hb10]
            constructor
            · rintro (hh | hh)
              · intro i x y hx hy
                have := (List.getElem?_eq_some_iff.1 hy).1
                have := EN.out
                omega
              · exact hh.2
            · exact fun hh => .inr ⟨HO.out, hh⟩
          exact Bool.eq_iff_iff.2 (h2.trans h1.symm)
        have KF : Hid (Kept w w10) := Same.trans' K3.out (Same.trans' KK.out k10)
        clear k10 hb10 HUA
        go_wp2_with fail
        go_ret
        exact ⟨by cases b10 <;> rfl, KF.out⟩
  · refine Calls.mono (HSN.out ho w2 _) ?_
    rintro e w3 ⟨rfl, k3⟩
    have R3a : Hid (RowsAt w3 ua l) := RowsAt.on R2.out k3
    have K3 : Hid (Kept w w3) := Same.trans' K2.out k3
    have HO : Hid _ := ho
    clear k3 HSO HSN R2 K2
    go_wp2_with fail
    refine Calls.mono (HPL.out _ K3.out) ?_
    rintro e w4 ⟨v4, rfl, o4, k4⟩
    obtain ⟨pa, pc, rfl, rp4, -, -, -⟩ := OwnQ.rows o4
    rw [← EN.out]
    have HS4 : Hid _ := HSA.out w4 ua pa uc pc (RowsAt.on R3a.out k4) rp4
    have K4 : Hid (Kept w3 w4) := k4
    clear o4 k4 rp4
    go_wp2_with fail
    refine Calls.mono HS4.out ?_
    rintro e w5 ⟨rfl, k5⟩
    have K5 : Hid (Kept w3 w5) := Same.trans' K4.out k5
    have HUA : Hid _ := HUS.out w5 ua uc (RowsAt.on R3a.out K5.out)
    clear k5 HS4 K4 HPL HSA HSS HRS HUS HUT
    have w1' : (order < 1) ∨ (2 < order) := by omega
    have HF : Hid (∀ (b : Bool), (b = true ↔ (n < 2 ∨ ((order = 1 ∨ order = 2) ∧ UpL order l))) → b = decide (n < 2)) := fun b hb => by
      have h2 : b = true ↔ n < 2 := ⟨fun e => by
        rcases hb.1 e with g | g
        · exact g
        · exact absurd g.1 HO.out, fun e => hb.2 (.inl e)⟩
      by_cases g : n < 2
      · rw [h2.2 g, decide_eq_true g]
      · rw [decide_eq_false g]
        cases b
        · rfl
        · exact absurd (h2.1 rfl) g
    clear ho
    by_cases hq : n < 2
    · have q1 : decide ((n : Int) < 2) = true := decide_eq_true (by omega)
      have q1' : (n : Int) < 2 := by omega
      by_cases h1 : order < 1
      · have d1 : decide (order < 1) = true := decide_eq_true h1
        clear w1'
        go_wp2_with fail
        refine Calls.mono HUA.out ?_
        rintro e w10 ⟨⟨b10, rfl, hb10⟩, k10⟩
        obtain rfl : b10 = true := (HF.out b10 hb10).trans (decide_eq_true hq)
        have KF : Hid (Kept w w10) := Same.trans' K3.out (Same.trans' K5.out k10)
        clear k10 hb10 HUA HF
        go_wp2_with fail
        go_ret
        exact ⟨rfl, KF.out⟩
      · have d1 : decide (order < 1) = false := decide_eq_false h1
        have h2 : 2 < order := by omega
        have d2 : decide (2 < order) = true := decide_eq_true h2
        clear w1'
        go_wp2_with fail
        refine Calls.mono HUA.out ?_
        rintro e w10 ⟨⟨b10, rfl, hb10⟩, k10⟩
        obtain rfl : b10 = true := (HF.out b10 hb10).trans (decide_eq_true hq)
        have KF : Hid (Kept w w10) := Same.trans' K3.out (Same.trans' K5.out k10)
        clear k10 hb10 HUA HF
        go_wp2_with fail
        go_ret
        exact ⟨rfl, KF.out⟩
    · have q1 : decide ((n : Int) < 2) = false := decide_eq_false (by omega)
      have q1' : ¬ (n : Int) < 2 := by omega
      by_cases h1 : order < 1
      · have d1 : decide (order < 1) = true := decide_eq_true h1
        clear w1'
        go_wp2_with fail
        refine Calls.mono HUA.out ?_
        rintro e w10 ⟨⟨b10, rfl, hb10⟩, k10⟩
        obtain rfl : b10 = false := (HF.out b10 hb10).trans (decide_eq_false hq)
        have KF : Hid (Kept w w10) := Same.trans' K3.out (Same.trans' K5.out k10)
        clear k10 hb10 HUA HF
        go_wp2_with fail
        go_ret
        exact ⟨rfl, KF.out⟩
      · have d1 : decide (order < 1) = false := decide_eq_false h1
        have h2 : 2 < order := by omega
        have d2 : decide (2 < order) = true := decide_eq_true h2
        clear w1'
        go_wp2_with fail
        refine Calls.mono HUA.out ?_
        rintro e w10 ⟨⟨b10, rfl, hb10⟩, k10⟩
        obtain rfl : b10 = false := (HF.out b10 hb10).trans (decide_eq_false hq)
        have KF : Hid (Kept w w10) := Same.trans' K3.out (Same.trans' K5.out k10)
        clear k10 hb10 HUA HF
        go_wp2_with fail
        go_ret
        exact ⟨rfl, KF.out⟩
end Go.Proofs.Ytcbllejjiokmbaa
