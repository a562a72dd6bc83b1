/- What is proved: the law RunsKeeps answers true, for every order and list of rows that lies in memory. -/
import Derived.Test.YtcbllejjiokmbaaNEql
import Derived.Deep.DeepCutAuto
namespace Go.Proofs.Ytcbllejjiokmbaa
open Go.RowKit

/-- How often more a row stands among the first k of S than among those of L. -/
def ct (S L : List RwM) (r : RwM) (k : Nat) : Int := ((S.take k).countP (sameR · r) : Int) - ((L.take k).countP (sameR · r) : Int)
theorem ct_step {S L : List RwM} (r : RwM) {k : Nat} {x y : RwM} (hx : S[k]? = some x) (hy : L[k]? = some y) : ct S L r (k + 1) = ct S L r k + (if sameR x r = true then 1 else 0) - (if sameR y r = true then 1 else 0) := by
  unfold ct
  rw [List.take_add_one, List.take_add_one, hx, hy, List.countP_append, List.countP_append]
  simp only [Option.toList_some, List.countP_cons, List.countP_nil]
  by_cases h1 : sameR x r = true <;> by_cases h2 : sameR y r = true <;> simp [h1, h2] <;> omega
theorem ct_bound {S L : List RwM} (r : RwM) (k : Nat) (hS : S.length ≤ 300) (hL : L.length ≤ 300) : -300 ≤ ct S L r k ∧ ct S L r k ≤ 300 := by
  unfold ct
  have h1 : (S.take k).countP (sameR · r) ≤ (S.take k).length := List.countP_le_length
  have h2 : (L.take k).countP (sameR · r) ≤ (L.take k).length := List.countP_le_length
  rw [List.length_take] at h1 h2
  omega
theorem ct_end {S L : List RwM} (r : RwM) (h : S.Perm L) : ct S L r L.length = 0 := by
  unfold ct
  rw [List.take_length, show L.length = S.length from h.length_eq.symm, List.take_length, h.countP_eq]
  omega
theorem comp_next {order : Int} {l : List RwM} {i : Nat} {a b : RwM} (ha : (srt (bef order) l)[i]? = some a) (hb : (srt (bef order) l)[i + 1]? = some b) : comp order a b ≤ 0 := by
  have hp := srt_pw (bef_swo order) l
  rw [List.pairwise_iff_getElem] at hp
  obtain ⟨hi, rfl⟩ := List.getElem?_eq_some_iff.1 ha
  obtain ⟨hj, rfl⟩ := List.getElem?_eq_some_iff.1 hb
  have h := hp i (i + 1) hi hj (by omega)
  generalize (srt (bef order) l)[i] = x at h ⊢
  generalize (srt (bef order) l)[i + 1] = y at h ⊢
  unfold bef at h
  rw [decide_eq_false_iff_not, comp_swap order x y] at h
  rcases comp_cases order x y with e | e | e <;> omega
set_option maxRecDepth 100000 in
set_option maxHeartbeats 4000000 in
theorem keeps_law (order : Int) (w : World) (a : Option Addr) (cap : Nat) (l : List RwM) (h : ArgR w a cap l) : Calls Try.prog 6 #[.int .i64 order, .slice a l.length cap] w fun e w' => e = .returned (.bool true) ∧ Kept w w' := by
  have HA : Hid (∀ W, _) := anchor10_any
  have HR : Hid _ := h
  obtain ⟨n, en⟩ : ∃ n, n = l.length := ⟨_, rfl⟩
  by_cases hb : order < 1 ∨ 2 < order ∨ 300 < n
  · rw [← en]
    clear h en
    go_enter Try.func6, Try.ntmps6
    go_wp2_with fail
    refine Calls.mono (HA.out _) ?_
    rintro e w1 ⟨rfl, k1⟩
    have K1 : Hid _ := k1
    clear k1
    have HBB : Hid _ := hb
    clear hb
    by_cases h1 : order < 1
    · have d1 : decide (order < 1) = true := decide_eq_true h1
      go_wp2_with fail
      go_ret
      exact ⟨rfl, K1.out⟩
    · have d1 : decide (order < 1) = false := decide_eq_false h1
      by_cases h2 : 2 < order
      · have d2 : decide (2 < order) = true := decide_eq_true h2
        go_wp2_with fail
        go_ret
        exact ⟨rfl, K1.out⟩
      · have d2 : decide (2 < order) = false := decide_eq_false h2
        have h3 : 300 < n := by have := HBB.out; omega
        have d3 : decide ((300 : Int) < (n : Int)) = true := decide_eq_true (by omega)
        have d3' : (300 : Int) < (n : Int) := by omega
        go_wp2_with fail
        go_ret
        exact ⟨rfl, K1.out⟩
  have d1 : decide (order < 1) = false := decide_eq_false (by omega)
  have d1' : ¬ order < 1 := by omega
  have d2 : decide (2 < order) = false := decide_eq_false (by omega)
  have d2' : ¬ 2 < order := by omega
  have d3 : decide ((300 : Int) < (n : Int)) = false := decide_eq_false (by omega)
  have d3' : ¬ (300 : Int) < (n : Int) := by omega
  have hn3 : n ≤ 300 := by omega
  have HCP : Hid (∀ W, Kept w W → ∀ ty, _) := fun W (k : Kept w W) ty => copy_rows (cap := cap) Try.underlying22 Try.infoRow (h.rows.on k) h.nil (by have := h.len; omega) ty
  have HSO : Hid (∀ (W : World) (v : Value), W.ownsRow w.heap.size 26 7 v l.length (rwc l) → Calls Try.prog 26 #[.int .i64 order, v] W fun e w' => ∃ u, e = .returned (.tuple #[u, .int .i64 0]) ∧ OwnR W.heap.size w' u (srt (bef order) l) ∧ Kept W w') := fun W v hv => by
    obtain ⟨va, vc, rfl, hra, -⟩ := OwnR.rows hv
    exact sort10_ok (by omega) hra (by omega)
  rw [← en] at HCP ⊢
  have EN : Hid _ := en
  have LS : Hid ((srt (bef order) l).length = n) := by show _ = _; rw [srt_len, en]
  have PM : Hid _ := srt_perm (bef order) l
  clear h en hb
  go_enter Try.func6, Try.ntmps6
  go_wp2_with fail
  refine Calls.mono (HA.out _) ?_
  rintro e w1 ⟨rfl, k1⟩
  have K1 : Hid _ := k1
  have HC1 : Hid _ := HCP.out w1 k1
  have HX : Hid (∀ (v2 : Value) (w2 : World), w2.ownsRow w1.heap.size 26 7 v2 n (rwc l) → Kept w1 w2 → ∃ ua uc, v2 = .slice ua n uc ∧ Hid (Calls Try.prog 26 #[.int .i64 order, v2] w2 fun e w' => ∃ u, e = .returned (.tuple #[u, .int .i64 0]) ∧ OwnR w2.heap.size w' u (srt (bef order) l) ∧ Kept w2 w') ∧ Hid (Kept w w2)) := fun v2 w2 o2 k2 => by
    have o2' : w2.ownsRow w.heap.size 26 7 v2 l.length (rwc l) := by
      rw [← EN.out]
      exact ⟨o2.1, by
        rcases o2.2 with g | ⟨g, cp, cur, e, hb, rest⟩
        · exact .inl g
        · exact .inr ⟨g, cp, cur, e, Nat.le_trans k1.size hb, rest⟩⟩
    obtain ⟨ua, uc, e, -, -⟩ := OwnR.rows o2'
    exact ⟨ua, uc, by rw [e, EN.out], HSO.out w2 v2 o2', k1.trans' k2⟩
  clear k1 HA HCP
  go_wp2_with (at_builtin; refine wpList_app rfl (.tmp 26) (.tmp 27) 22 22 rfl (.slice (some ⟨w1.heap.size, 0, none⟩) 0 0) (.slice a n cap) rfl rfl _ HC1.out ?_; rintro v2 w2 ⟨o2, k2⟩; obtain ⟨ua, uc, rfl, HS2, K2⟩ := HX.out v2 w2 o2 k2; clear o2 k2)
  refine Calls.mono HS2.out ?_
  rintro e w3 ⟨u, rfl, o3, k3⟩
  have K3 : Hid (Kept w w3) := Same.trans' K2.out k3
  obtain ⟨sa, sc, rfl, rs3, -⟩ := OwnR.rows o3
  rw [LS.out]
  have RS : Hid _ := rs3
  clear HC1 HX HS2 HSO o3 k3 rs3 K2
  go_wp2_with fail
  go_loopw [43] (fun i wr => ∃ j : Nat, j ≤ n ∧ i = .int .i64 j ∧ Kept w3 wr) (fun i _ => n - (intOf i).toNat)
  case atStart => exact ⟨0, Nat.zero_le _, rfl, Same.refl _ _⟩
  case round =>
    obtain ⟨j, hj, rfl, kk⟩ := hrel
    have KK : Hid _ := kk
    by_cases hlt : j < n
    · have c1 : decide ((j : Int) < (n : Int)) = true := decide_eq_true (by omega)
      have c1' : (j : Int) < (n : Int) := by omega
      obtain ⟨r, hr⟩ : ∃ r, (srt (bef order) l)[j]? = some r := ⟨_, List.getElem?_eq_getElem (by rw [LS.out]; exact hlt)⟩
      have HRJ : Hid _ := hr
      have HQS : Hid (∀ x : RwM, ∀ W, _) := fun x W => eql_rows x r W
      have HCN : Hid (∀ p x, j = p + 1 → (srt (bef order) l)[p]? = some x → comp order x r ≤ 0) := fun p x e hx => comp_next hx (by rw [← e]; exact hr)
      have HCM : Hid (∀ x : RwM, ∀ W, _) := fun x W => compare_any order x r W
      have HCT : Hid (∀ k x y, (srt (bef order) l)[k]? = some x → l[k]? = some y → _) := fun k x y hx hy => ct_step r hx hy
      have HCB : Hid (∀ k, _) := fun k => ct_bound (S := srt (bef order) l) (L := l) r k (by rw [LS.out]; exact hn3) (by rw [← EN.out]; exact hn3)
      have HCE : Hid _ := ct_end r PM.out
      rw [← EN.out] at HCE
      have HBX : Hid _ := heap_new wr (.cells #[.int .i64 r.kind, .int .i64 r.time, .int .i64 r.seq, .int .i64 r.index, .int .i64 r.frm, .int .i64 r.til, .string r.body] 26)
      have KB : Hid (Kept w3 (wr.alloc (.cells #[.int .i64 r.kind, .int .i64 r.time, .int .i64 r.seq, .int .i64 r.index, .int .i64 r.frm, .int .i64 r.til, .string r.body] 26))) := kk.alloc _
      obtain ⟨g, off, rfl, hg, x0, x1, x2, x3, x4, x5, x6⟩ := (RowsAt.on RS.out kk) j r hr
      obtain ⟨c, ec⟩ : ∃ c : Nat → Int, c = ct (srt (bef order) l) l r := ⟨_, rfl⟩
      rw [← ec] at HCT HCB HCE
      have HC0 : Hid (c 0 = 0) := by show _ = _; rw [ec]; rfl
      clear ec kk hr
      obtain ⟨kind, time, seq, index, frm, til, body⟩ := r
      unfold rowV at *
      simp only at *
      go_wp2_with fail
      have hlx := lt_of_heap HBX.out
      generalize wr.alloc (.cells #[.int .i64 kind, .int .i64 time, .int .i64 seq, .int .i64 index, .int .i64 frm, .int .i64 til, .string body] 26) = W1 at HBX KB hlx ⊢
      have hh : wr.heap.size = wr.heap.size := rfl
      generalize wr.heap.size = h at *
      clear x0 x1 x2 x3 x4 x5 x6 hh
      obtain ⟨⟨r0, r1, r2, r3, r4, r5, r6⟩, -⟩ := row_obj HBX.out
      go_cut [60] (fun s60 wx => s60 = .bool false ∧ Kept W1 wx)
      case first =>
        by_cases hj0 : j = 0
        · subst hj0
          go_region
          all_goals (go_wp2_with fail)
          all_goals go_meet
          all_goals exact ⟨rfl, by first | exact Same.refl _ _ | exact (Same.refl _ _).drew⟩
        · obtain ⟨p, rfl⟩ : ∃ p, j = p + 1 := ⟨j - 1, by omega⟩
          have q0 : decide ((0 : Int) < (p : Int) + 1) = true := decide_eq_true (by omega)
          have q0' : (0 : Int) < (p : Int) + 1 := by omega
          have q1' : (p : Int) < (n : Int) := by omega
          obtain ⟨x, hx⟩ : ∃ x, (srt (bef order) l)[p]? = some x := ⟨_, List.getElem?_eq_getElem (by rw [LS.out]; omega)⟩
          have hcp := HCN.out p x rfl hx
          have HCX : Hid _ := HCM.out x
          obtain ⟨g', off', e, hgl, x0, x1, x2, x3, x4, x5, x6⟩ := (RowsAt.on RS.out KB.out) p x hx
          cases e
          obtain ⟨k1, t1, s1, i1, f1, z1, b1⟩ := x
          simp only at x0 x1 x2 x3 x4 x5 x6
          generalize comp order _ _ = cc at HCX hcp
          have HCY : Hid (∀ W, Kept W1 W → Calls Try.prog 31 #[.int .i64 order, .agg #[.int .i64 k1, .int .i64 t1, .int .i64 s1, .int .i64 i1, .int .i64 f1, .int .i64 z1, .string b1], .agg #[.int .i64 kind, .int .i64 time, .int .i64 seq, .int .i64 index, .int .i64 frm, .int .i64 til, .string body]] W fun e w' => e = .returned (.int .i64 cc) ∧ Kept W1 w') := fun W k => Calls.mono (HCX.out W) fun e w' hh => ⟨hh.1, k.trans' hh.2⟩
          have q2 : decide (0 < cc) = false := decide_eq_false (by omega)
          have q2' : ¬ 0 < cc := by omega
          have HT : Hid (∀ W, Kept W1 W → Kept W1 W ∧ W.cell? ⟨g, off + p * 7, none⟩ = some (.int .i64 k1) ∧ W.cell? ⟨g, off + p * 7 + 1, none⟩ = some (.int .i64 t1) ∧ W.cell? ⟨g, off + p * 7 + 2, none⟩ = some (.int .i64 s1) ∧ W.cell? ⟨g, off + p * 7 + 3, none⟩ = some (.int .i64 i1) ∧ W.cell? ⟨g, off + p * 7 + 4, none⟩ = some (.int .i64 f1) ∧ W.cell? ⟨g, off + p * 7 + 5, none⟩ = some (.int .i64 z1) ∧ W.cell? ⟨g, off + p * 7 + 6, none⟩ = some (.string b1) ∧ W.cell? ⟨h, 0, none⟩ = some (.int .i64 kind) ∧ W.cell? ⟨h, 1, none⟩ = some (.int .i64 time) ∧ W.cell? ⟨h, 2, none⟩ = some (.int .i64 seq) ∧ W.cell? ⟨h, 3, none⟩ = some (.int .i64 index) ∧ W.cell? ⟨h, 4, none⟩ = some (.int .i64 frm) ∧ W.cell? ⟨h, 5, none⟩ = some (.int .i64 til) ∧ W.cell? ⟨h, 6, none⟩ = some (.string body)) := fun W k =>
            ⟨k, (k.cell (p := ⟨g, _, none⟩) hgl (fun e => e)).trans x0, (k.cell (p := ⟨g, _, none⟩) hgl (fun e => e)).trans x1, (k.cell (p := ⟨g, _, none⟩) hgl (fun e => e)).trans x2, (k.cell (p := ⟨g, _, none⟩) hgl (fun e => e)).trans x3, (k.cell (p := ⟨g, _, none⟩) hgl (fun e => e)).trans x4, (k.cell (p := ⟨g, _, none⟩) hgl (fun e => e)).trans x5, (k.cell (p := ⟨g, _, none⟩) hgl (fun e => e)).trans x6,
              (k.cell (p := ⟨h, _, none⟩) hlx (fun e => e)).trans r0, (k.cell (p := ⟨h, _, none⟩) hlx (fun e => e)).trans r1, (k.cell (p := ⟨h, _, none⟩) hlx (fun e => e)).trans r2, (k.cell (p := ⟨h, _, none⟩) hlx (fun e => e)).trans r3, (k.cell (p := ⟨h, _, none⟩) hlx (fun e => e)).trans r4, (k.cell (p := ⟨h, _, none⟩) hlx (fun e => e)).trans r5, (k.cell (p := ⟨h, _, none⟩) hlx (fun e => e)).trans r6⟩
          clear hx hcp HCX HCM HCT HCB HCE HCN HQS HRJ
          have hp3 : (p : Int) ≤ 300 := by omega
          have hp4 : p < n := by omega
          have hp5 : (0 : Int) ≤ (p : Int) := by omega
          have hw1 : IntKind.i64.wrap ((p : Int) + 1 - 1) = (p : Int) := by rw [IntKind.wrap_i64]; omega
          have hw2 : IntKind.i64.wrap (p : Int) = (p : Int) := by rw [IntKind.wrap_i64]; omega
          rw [show ((p + 1 : Nat) : Int) = (p : Int) + 1 from rfl]
          go_region_held3 (fun W => Kept W1 W ∧ W.cell? ⟨g, off + p * 7, none⟩ = some (.int .i64 k1) ∧ W.cell? ⟨g, off + p * 7 + 1, none⟩ = some (.int .i64 t1) ∧ W.cell? ⟨g, off + p * 7 + 2, none⟩ = some (.int .i64 s1) ∧ W.cell? ⟨g, off + p * 7 + 3, none⟩ = some (.int .i64 i1) ∧ W.cell? ⟨g, off + p * 7 + 4, none⟩ = some (.int .i64 f1) ∧ W.cell? ⟨g, off + p * 7 + 5, none⟩ = some (.int .i64 z1) ∧ W.cell? ⟨g, off + p * 7 + 6, none⟩ = some (.string b1) ∧ W.cell? ⟨h, 0, none⟩ = some (.int .i64 kind) ∧ W.cell? ⟨h, 1, none⟩ = some (.int .i64 time) ∧ W.cell? ⟨h, 2, none⟩ = some (.int .i64 seq) ∧ W.cell? ⟨h, 3, none⟩ = some (.int .i64 index) ∧ W.cell? ⟨h, 4, none⟩ = some (.int .i64 frm) ∧ W.cell? ⟨h, 5, none⟩ = some (.int .i64 til) ∧ W.cell? ⟨h, 6, none⟩ = some (.string body))
            (exact HT.out _ (by (repeat (first | assumption | exact Same.refl _ _ | apply Same.alloc | apply Same.drew | apply Same.drewN)); done))
            ((first
            | (go_at_call 31; refine Calls.mono (HCY.out _ (by (repeat (first | assumption | exact Same.refl _ _ | apply Same.alloc | apply Same.drew | apply Same.drewN)); done)) ?_; rintro e w5 ⟨rfl, k5⟩)))
          all_goals (go_wp2_with fail)
          all_goals go_meet
          all_goals exact ⟨rfl, (by (repeat (first | assumption | exact Same.refl _ _ | apply Same.alloc | apply Same.drew | apply Same.drewN)); done)⟩
      case rest =>
        obtain ⟨rfl, hk⟩ := hcut
        have KC : Hid (Kept w3 wc) := KB.out.trans' hk
        have hbc := (hk.block _ hlx (fun e => e)).trans HBX.out
        have HBC : Hid _ := hbc
        clear hk hbc r0 r1 r2 r3 r4 r5 r6 HBX KB hlx HCM HCN
        go_wp2_with fail
        go_loopw [9, 63] (fun u9 i wr => ∃ k : Nat, k ≤ n ∧ i = .int .i64 k ∧ u9 = .int .i64 (c k) ∧ Kept wc wr) (fun _ i _ => n - (intOf i).toNat)
        case atStart => exact ⟨0, Nat.zero_le _, rfl, by rw [HC0.out], Same.refl _ _⟩
        case round =>
          obtain ⟨k, hk, rfl, rfl, kk⟩ := hrel
          have KK2 : Hid _ := kk
          by_cases hkn : k < n
          · have e1 : decide ((k : Int) < (n : Int)) = true := decide_eq_true (by omega)
            have e1' : (k : Int) < (n : Int) := by omega
            obtain ⟨x, hx⟩ : ∃ x, (srt (bef order) l)[k]? = some x := ⟨_, List.getElem?_eq_getElem (by rw [LS.out]; exact hkn)⟩
            obtain ⟨y, hy⟩ : ∃ y, l[k]? = some y := ⟨_, List.getElem?_eq_getElem (by rw [← EN.out]; exact hkn)⟩
            have hst := HCT.out k x y hx hy
            have hb1 := HCB.out k
            obtain ⟨g', off', e, hgl, x0, x1, x2, x3, x4, x5, x6⟩ := (RowsAt.on RS.out (KC.out.trans' kk)) k x hx
            cases e
            obtain ⟨ga, offa, ea, hal, y0, y1, y2, y3, y4, y5, y6⟩ := (RowsAt.on HR.out.rows ((K3.out.trans' KC.out).trans' kk)) k y hy
            subst ea
            have hbx := (kk.block _ (lt_of_heap HBC.out) (fun e => e)).trans HBC.out
            obtain ⟨⟨r0, r1, r2, r3, r4, r5, r6⟩, -⟩ := row_obj hbx
            have hlx := lt_of_heap hbx
            have HQ1 := HQS.out x
            have HQ2 := HQS.out y
            generalize hs1 : sameR x _ = s1 at hst HQ1
            generalize hs2 : sameR y _ = s2 at hst HQ2
            obtain ⟨xk, xt, xs, xi, xf, xz, xb⟩ := x
            obtain ⟨yk, yt, ys, yi, yf, yz, yb⟩ := y
            simp only at x0 x1 x2 x3 x4 x5 x6 y0 y1 y2 y3 y4 y5 y6 HQ1 HQ2
            generalize c k = ck at *
            have EST : Hid _ := hst
            have b1 := hb1.1
            have b2 := hb1.2
            clear hst hs1 hs2 hx hy kk hbx hb1
            cases s1 <;> cases s2
            all_goals (go_wp2_with fail)
            all_goals go_region
            all_goals (go_wp2_with fail)
            all_goals go_region
            all_goals (go_wp2_with fail)
            all_goals
              go_roundw
              case rel => exact ⟨k + 1, hkn, by rw [Int.natCast_add]; rfl, congrArg (Value.int IntKind.i64) (by have e := EST.out; simp at e; omega), by first | exact KK2.out | exact KK2.out.drew | exact KK2.out.drew.drew⟩
              case measure => simp only [intOf]; omega
          · obtain rfl : n = k := by omega
            have e1 : decide ((n : Int) < (n : Int)) = false := by simp
            have ec : c n = 0 := HCE.out
            rw [ec]
            have KW : Hid (Kept w3 wr) := KC.out.trans' KK2.out
            clear kk
            go_wp2_with fail
            go_roundw
            case rel => exact ⟨j + 1, hlt, by rw [Int.natCast_add]; rfl, KW.out⟩
            case measure => simp only [intOf]; omega
    · obtain rfl : n = j := by omega
      have c1 : decide ((n : Int) < (n : Int)) = false := by simp
      clear kk
      go_wp2_with fail
      go_ret
      exact ⟨rfl, Same.trans' K3.out KK.out⟩
end Go.Proofs.Ytcbllejjiokmbaa
