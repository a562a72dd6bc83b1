/- What is proved: the law RunsMemory answers true, for every list of rows that lies in memory. -/
import Derived.Test.YtcbllejjiokmbabNMeK
import Derived.Test.YtcbllejjiokmbabQValR
namespace Go.Proofs.Ytcbllejjiokmbab
open Go.RowKit

theorem szs_le {l : List RwM} (h : ∀ r ∈ l, rightR r) : szs l ≤ 561 * l.length := by
  induction l with
  | nil => simp [szs]
  | cons r l ih =>
    have h1 := (bytesR_len (h r (by simp))).2
    have h2 := ih fun x hx => h x (by simp [hx])
    simp only [List.length_cons, szs]
    omega
theorem szs_take {l : List RwM} (h : ∀ r ∈ l, rightR r) (hn : l.length ≤ 100) {j : Nat} {r : RwM} (hr : l[j]? = some r) : rightR r ∧ szs (l.take j) + (bytesR r).length ≤ 16777216 := by
  have h0 := h r (List.mem_of_getElem? hr)
  have h1 := szs_le (l := l.take j) fun x hx => h x (List.mem_of_mem_take hx)
  have h2 := (bytesR_len h0).2
  rw [List.length_take] at h1
  exact ⟨h0, by omega⟩
theorem Bf.step {w w1 w2 : World} {base b : Nat} {order : Int} {bud : Nat} {v : Value} {xs : List RwM} {pk : Nat} (h : Bf base w1 b order bud v xs pk) (hb : w.heap.size ≤ base) (k : Same (fun k => w.heap.size ≤ k) w w1) (k2 : Same (fun k => k = b ∨ v.ownBlock = some k) w1 w2) : Same (fun k => w.heap.size ≤ k) w w2 :=
  k.trans k2 fun i _ hi => by
    rcases hi with e | e
    · have := h.low; omega
    · have := (OwnR.block h.own e).1; omega
/-- A list of one's own that lies apart of a buffer and ahead of all that comes. -/
theorem OwnR.shape {base : Nat} {w : World} {v : Value} {l : List RwM} (h : OwnR base w v l) (h0 : 0 < l.length) : ∃ g cap, v = .slice (some ⟨g, 0, none⟩) l.length cap := by
  rcases h.2 with ⟨rfl, hn⟩ | ⟨g, cap, cur, rfl, hb, hg, _⟩
  · omega
  · exact ⟨g, cap, rfl⟩
theorem OwnR.low {base base' : Nat} {w : World} {v : Value} {l : List RwM} (h : OwnR base w v l) (hb : base' ≤ base) : OwnR base' w v l := ⟨h.1, by
  rcases h.2 with g | ⟨g, cp, cur, e, hb', rest⟩
  · exact .inl g
  · exact .inr ⟨g, cp, cur, e, Nat.le_trans hb hb', rest⟩⟩
set_option maxRecDepth 100000 in
set_option maxHeartbeats 8000000 in
theorem memory_law (w : World) (a : Option Addr) (cap : Nat) (l : List RwM) (h : ArgR w a cap l) : Calls Try.prog 3 #[.slice a l.length cap] w fun e w' => e = .returned (.bool true) ∧ Kept w w' := by
  have HA : Hid (∀ W, _) := anchor10_any
  have HR : Hid _ := h
  have hl2 : l.length ≤ 2199023255552 := by have := h.len; omega
  obtain ⟨n, en⟩ : ∃ n, n = l.length := ⟨_, rfl⟩
  have HCP : Hid (∀ W, RowsAt W a l → ∀ ty, _) := fun W (k : RowsAt W a l) ty => copy_rows (cap := cap) Try.underlying22 Try.infoRow k h.nil hl2 ty
  have HSO : Hid (∀ (W : World) (b : Option Addr) (c : Nat), RowsAt W b l → _) := fun W b c (hb : RowsAt W b l) => sort10_ok (cap := c) (order := 1) (.inl rfl) hb hl2
  have HPL : Hid (∀ W, RowsAt W a l → _) := fun W (k : RowsAt W a l) => plains10 (cap := cap) k hl2
  have HRS : Hid (∀ (W : World) (b : Option Addr) (c : Nat), RowsAt W b l → l.length ≤ c → (b = none → l.length = 0 ∧ c = 0) → _) := fun W b c hb h1 h2 => sorted10 1 (l.length + 1) (cap := c) (Nat.lt_succ_self _) hb h1 h2 hl2
  have HSS : Hid (∀ (W : World) (b c : Option Addr) (cb cc : Nat), RowsAt W b (srt (bef 1) l) → RowsAt W c (srt (bef 1) l) → _) := fun W b c cb cc hb hc => same10_true (ca := cb) (cb := cc) hb hc (by rw [srt_len]; exact hl2)
  have LS : (srt (bef 1) l).length = n := by rw [srt_len, en]
  have LL : Hid ((srt (bef 1) l).length = n) := LS
  rw [LS] at HSS
  rw [← en] at HCP HSO HPL HRS hl2 ⊢
  have EN : Hid _ := en
  clear h en LS
  by_cases hb : n < 2 ∨ 100 < n
  · have HBB : Hid _ := hb
    clear hb
    go_enter Try.func3, Try.ntmps3
    go_wp2_with fail
    refine Calls.mono (HA.out _) ?_
    rintro e w1 ⟨rfl, k1⟩
    have K1 : Hid _ := k1
    clear k1
    by_cases h1 : n < 2
    · have d1 : decide ((n : Int) < 2) = true := decide_eq_true (by omega)
      have d1' : (n : Int) < 2 := by omega
      go_wp2_with fail
      go_ret
      exact ⟨rfl, K1.out⟩
    · have d1 : decide ((n : Int) < 2) = false := decide_eq_false (by omega)
      have d1' : ¬ (n : Int) < 2 := by omega
      have d2 : decide ((100 : Int) < (n : Int)) = true := decide_eq_true (by have := HBB.out; omega)
      have d2' : (100 : Int) < (n : Int) := by have := HBB.out; omega
      go_wp2_with fail
      go_ret
      exact ⟨rfl, K1.out⟩
  have d1 : decide ((n : Int) < 2) = false := decide_eq_false (by omega)
  have d1' : ¬ (n : Int) < 2 := by omega
  have d2 : decide ((100 : Int) < (n : Int)) = false := decide_eq_false (by omega)
  have d2' : ¬ (100 : Int) < (n : Int) := by omega
  have hn100 : n ≤ 100 := by omega
  have hn2 : 2 ≤ n := by omega
  clear hb
  go_enter Try.func3, Try.ntmps3
  go_wp2_with fail
  refine Calls.mono (HA.out _) ?_
  rintro e w1 ⟨rfl, k1⟩
  have K1 : Hid (Kept w w1) := k1
  clear k1 HA
  go_wp2_with fail
  go_loopw [41] (fun i wr => ∃ j : Nat, j ≤ n ∧ i = .int .i64 j ∧ (∀ (k : Nat) (r : RwM), k < j → l[k]? = some r → rightR r) ∧ Kept w wr) (fun i _ => n - (intOf i).toNat)
  case atStart => exact ⟨0, Nat.zero_le _, rfl, fun k r hk => by omega, K1.out⟩
  case round =>
    obtain ⟨j, hj, rfl, hrt, kk⟩ := hrel
    have KK : Hid _ := kk
    have HRT : Hid _ := hrt
    by_cases hlt : j < n
    · have c1 : decide ((j : Int) < (n : Int)) = true := decide_eq_true (by omega)
      have c1' : (j : Int) < (n : Int) := by omega
      obtain ⟨r, hr⟩ : ∃ r, l[j]? = some r := ⟨_, List.getElem?_eq_getElem (by rw [← EN.out]; exact hlt)⟩
      obtain ⟨g, off, ea, hg, x0, x1, x2, x3, x4, x5, x6⟩ := (RowsAt.on HR.out.rows kk) j r hr
      subst ea
      have HP : Hid (∀ W, _) := fun W => plain_any r W
      have HV : Hid (∀ W, _) := fun W => validR9_any r W
      have KB : Hid (Kept wr (wr.alloc (.cells #[.int .i64 r.kind, .int .i64 r.time, .int .i64 r.seq, .int .i64 r.index, .int .i64 r.frm, .int .i64 r.til, .string r.body] 25))) := (Same.refl _ wr).alloc _
      have HNX : Hid (rightR r → ∀ (k : Nat) (r : RwM), k < j + 1 → l[k]? = some r → rightR r) := fun h0 k r' hk hr' => by
        by_cases e : k = j
        · subst e
          rw [hr] at hr'
          cases hr'
          exact h0
        · exact HRT.out k r' (by omega) hr'
      clear hr kk hrt
      by_cases hv : rightR r
      · rw [decide_eq_true hv] at HV
        have HNY : Hid _ := HNX.out hv
        clear HNX hv
        obtain ⟨kind, time, seq, index, frm, til, body⟩ := r
        unfold rowV at *
        simp only at *
        go_wp2_with fail
        refine Calls.mono (HP.out _) ?_
        rintro e w2 ⟨rfl, k2⟩
        have K2 : Hid (Kept wr w2) := Same.trans' KB.out k2
        clear k2
        go_wp2_with fail
        refine Calls.mono (HV.out _) ?_
        rintro e w3 ⟨rfl, k3⟩
        have K3 : Hid (Kept w w3) := Same.trans' KK.out (Same.trans' K2.out k3)
        clear k3
        go_wp2_with fail
        go_roundw
        case rel => exact ⟨j + 1, hlt, by rw [Int.natCast_add]; rfl, HNY.out, K3.out⟩
        case measure => simp only [intOf]; omega
      · rw [decide_eq_false hv] at HV
        clear HNX hv
        obtain ⟨kind, time, seq, index, frm, til, body⟩ := r
        unfold rowV at *
        simp only at *
        go_wp2_with fail
        refine Calls.mono (HP.out _) ?_
        rintro e w2 ⟨rfl, k2⟩
        have K2 : Hid (Kept wr w2) := Same.trans' KB.out k2
        clear k2
        go_wp2_with fail
        refine Calls.mono (HV.out _) ?_
        rintro e w3 ⟨rfl, k3⟩
        have K3 : Hid (Kept w w3) := Same.trans' KK.out (Same.trans' K2.out k3)
        clear k3
        go_wp2_with fail
        go_ret
        exact ⟨rfl, K3.out⟩
    · obtain rfl : n = j := by omega
      have c1 : decide ((n : Int) < (n : Int)) = false := by simp
      have hall : ∀ r ∈ l, rightR r := fun r hr => by
        obtain ⟨k, hk, rfl⟩ := List.getElem_of_mem hr
        exact hrt k _ (by rw [EN.out]; exact hk) (List.getElem?_eq_getElem hk)
      have HAL : Hid _ := hall
      have HN : Hid (∀ W, _) := fun W => new10_ok (.inl rfl) (bud := 16777216) (by decide) (by decide) W
      have K0 : Hid (Kept w wr) := kk
      clear kk hrt HRT hall K1 KK
      go_wp2_with fail
      refine Calls.mono (HN.out _) ?_
      rintro e w2 ⟨b, rfl, bf2, k2⟩
      have hbase : w.heap.size ≤ wr.heap.size := K0.out.size
      have FL : Hid (∃ v pk, Bf wr.heap.size w2 b 1 16777216 v (l.take 0) pk ∧ Same (fun k => w.heap.size ≤ k) w w2) := ⟨_, _, bf2, Kept.to (Same.trans' K0.out k2) _⟩
      clear bf2 k2 HN K0
      generalize wr.heap.size = base at *
      go_wp2_with fail
      go_loopw [62] (fun i wr => ∃ (j : Nat) (v : Value) (pk : Nat), j ≤ n ∧ i = .int .i64 j ∧ Bf base wr b 1 16777216 v (l.take j) pk ∧ Same (fun k => w.heap.size ≤ k) w wr) (fun i _ => n - (intOf i).toNat)
      case atStart =>
        obtain ⟨v, pk, h1, h2⟩ := FL.out
        exact ⟨0, v, pk, Nat.zero_le _, rfl, h1, h2⟩
      case round =>
        clear FL
        obtain ⟨j, v, pk, hj, rfl, bf, ks⟩ := hrel
        have BF : Hid _ := bf
        have KS : Hid _ := ks
        by_cases hlt : j < n
        · have c1 : decide ((j : Int) < (n : Int)) = true := decide_eq_true (by omega)
          have c1' : (j : Int) < (n : Int) := by omega
          obtain ⟨r, hr⟩ : ∃ r, l[j]? = some r := ⟨_, List.getElem?_eq_getElem (by rw [← EN.out]; exact hlt)⟩
          obtain ⟨g, off, ea, hg, x0, x1, x2, x3, x4, x5, x6⟩ := (RowsAt.kept HR.out.rows ks (fun k hk e => by have := HR.out.rows.lt hk; omega)) j r hr
          subst ea
          obtain ⟨h0, h1⟩ := szs_take HAL.out (by rw [← EN.out]; exact hn100) hr
          have KB : Hid (Kept wr (wr.alloc (.cells #[.int .i64 r.kind, .int .i64 r.time, .int .i64 r.seq, .int .i64 r.index, .int .i64 r.frm, .int .i64 r.til, .string r.body] 25))) := (Same.refl _ wr).alloc _
          have HAD : Hid _ := add10_ok (bf.on KB.out) h0 h1
          rw [← getElem_take_succ hr] at HAD
          clear hr bf ks h0 h1
          obtain ⟨kind, time, seq, index, frm, til, body⟩ := r
          unfold rowV at *
          simp only at *
          go_wp2_with fail
          refine Calls.mono HAD.out ?_
          rintro e w4 ⟨rfl, v4, bf4, s4, n4⟩
          have R : Hid _ := And.intro bf4 ((BF.out.on KB.out).step hbase (KS.out.trans' (Kept.to KB.out _)) s4)
          clear bf4 s4 n4
          go_wp2_with fail
          go_roundw
          case rel => exact ⟨j + 1, v4, _, hlt, by rw [Int.natCast_add]; rfl, R.out⟩
          case measure => simp only [intOf]; omega
        · obtain rfl : n = j := by omega
          have c1 : decide ((n : Int) < (n : Int)) = false := by simp
          have ra : RowsAt wr a l := RowsAt.kept HR.out.rows ks fun k hk e => by have := HR.out.rows.lt hk; omega
          have HC1 : Hid _ := HCP.out wr ra
          have BF1 : Hid (Bf base wr b 1 16777216 v l pk) := by
            have := BF.out
            rwa [EN.out, List.take_length] at this
          have HX : Hid (∀ (v2 : Value) (w2 : World), w2.ownsRow wr.heap.size 25 7 v2 n (rwc l) → Kept wr w2 → ∃ g5 c5, v2 = .slice (some ⟨g5, 0, none⟩) n c5 ∧ Hid (OwnR wr.heap.size w2 (.slice (some ⟨g5, 0, none⟩) n c5) l ∧ Kept wr w2)) := fun v2 w2 o2 k2 => by
            rw [EN.out] at o2
            obtain ⟨g5, c5, e⟩ := OwnR.shape o2 (by rw [← EN.out]; omega)
            refine ⟨g5, c5, by rw [e, EN.out], ?_, k2⟩
            rw [e] at o2
            rw [EN.out]
            exact o2
          have KS1 : Hid _ := ks
          clear bf ks ra BF KS HCP
          go_wp2_with (at_builtin; refine wpList_app rfl (.tmp 71) (.tmp 72) 22 22 rfl (.slice (some ⟨wr.heap.size, 0, none⟩) 0 0) (.slice a n cap) rfl rfl _ HC1.out ?_; rintro v2 w2 ⟨o2, k2⟩; obtain ⟨g5, c5, rfl, R2⟩ := HX.out v2 w2 o2 k2; clear o2 k2)
          clear HC1 HX
          refine Calls.mono (HSO.out w2 _ _ (by obtain ⟨x, c, e, hr, -⟩ := OwnR.rows R2.out.1; simp only [Value.slice.injEq] at e; obtain ⟨rfl, -, -⟩ := e; exact hr)) ?_
          rintro e w3 ⟨v3, rfl, o3, k3⟩
          obtain ⟨g0, c0, rfl⟩ := OwnR.shape o3 (by rw [LL.out]; omega)
          rw [LL.out] at o3 ⊢
          have O3 : Hid (OwnR w2.heap.size w3 (.slice (some ⟨g0, 0, none⟩) n c0) (srt (bef 1) l) ∧ Kept w2 w3) := ⟨o3, k3⟩
          have RA3 : Hid (RowsAt w3 (some ⟨g5, 0, none⟩) l) := by
            show RowsAt _ _ _
            obtain ⟨x, c, e, hr, -⟩ := OwnR.rows R2.out.1
            simp only [Value.slice.injEq] at e
            obtain ⟨rfl, -, -⟩ := e
            exact hr.on k3
          clear o3 k3
          go_wp2_with fail
          refine Calls.mono (HSO.out w3 _ _ RA3.out) ?_
          rintro e w4 ⟨v4, rfl, o4, k4⟩
          obtain ⟨g1, c1', rfl⟩ := OwnR.shape o4 (by rw [LL.out]; omega)
          rw [LL.out] at o4 ⊢
          have O4 : Hid (OwnR w3.heap.size w4 (.slice (some ⟨g1, 0, none⟩) n c1') (srt (bef 1) l) ∧ Kept w3 w4) := ⟨o4, k4⟩
          have BF4 : Hid _ := BF1.out.on (Same.trans' (Same.trans' R2.out.2 O3.out.2) k4)
          have HTK : Hid _ := take10 BF4.out
          clear o4 k4 RA3 HSO
          go_wp2_with fail
          refine Calls.mono HTK.out ?_
          rintro e w5 ⟨v5, rfl, o5, bf5, s5⟩
          obtain ⟨g2, c2', rfl⟩ := OwnR.shape o5 (by rw [LL.out]; omega)
          rw [LL.out] at o5 ⊢
          have O5 : Hid (OwnR w4.heap.size w5 (.slice (some ⟨g2, 0, none⟩) n c2') (srt (bef 1) l) ∧ Same (fun k => k = b) w4 w5) := ⟨o5, s5⟩
          have hb4 := lt_of_heap BF4.out.obj
          have KS5 : Hid (Same (fun k => w.heap.size ≤ k) w w5) := BF4.out.step hbase (KS1.out.trans' (Kept.to (Same.trans' (Same.trans' R2.out.2 O3.out.2) O4.out.2) _)) (s5.mono fun i _ e => .inl e)
          have FL5 : Hid (Bf base w5 b 1 16777216 (.slice none 0 0) (l.take 0) pk) := bf5
          clear o5 s5 bf5 HTK
          go_wp2_with fail
          go_loopw [88] (fun i wr => ∃ (j : Nat) (v : Value) (pk : Nat), j ≤ n ∧ i = .int .i64 j ∧ Bf base wr b 1 16777216 v (l.take j) pk ∧ (∀ k, v.ownBlock = some k → w5.heap.size ≤ k) ∧ Same (fun k => k = b ∨ w5.heap.size ≤ k) w5 wr) (fun i _ => n - (intOf i).toNat)
          case atStart => exact ⟨0, _, _, Nat.zero_le _, rfl, FL5.out, fun k hk => by simp [Value.ownBlock] at hk, Same.refl _ _⟩
          case round =>
            clear FL5
            obtain ⟨j, v, pk, hj, rfl, bf, hv, ks⟩ := hrel
            have BF : Hid _ := bf
            have KS : Hid _ := ks
            have HVV : Hid _ := hv
            have ksw : Same (fun k => w.heap.size ≤ k) w wr := KS5.out.trans ks fun i _ e => by
              rcases e with e | e
              · have := bf.low; omega
              · have := KS5.out.size; omega
            have KSW : Hid _ := ksw
            by_cases hlt : j < n
            · have c1 : decide ((j : Int) < (n : Int)) = true := decide_eq_true (by omega)
              have c1' : (j : Int) < (n : Int) := by omega
              obtain ⟨r, hr⟩ : ∃ r, l[j]? = some r := ⟨_, List.getElem?_eq_getElem (by rw [← EN.out]; exact hlt)⟩
              obtain ⟨g, off, ea, hg, x0, x1, x2, x3, x4, x5, x6⟩ := (RowsAt.kept HR.out.rows ksw (fun k hk e => by have := HR.out.rows.lt hk; omega)) j r hr
              subst ea
              obtain ⟨h0, h1⟩ := szs_take HAL.out (by rw [← EN.out]; exact hn100) hr
              have KB : Hid (Kept wr (wr.alloc (.cells #[.int .i64 r.kind, .int .i64 r.time, .int .i64 r.seq, .int .i64 r.index, .int .i64 r.frm, .int .i64 r.til, .string r.body] 25))) := (Same.refl _ wr).alloc _
              have HAD : Hid _ := add10_ok (bf.on KB.out) h0 h1
              rw [← getElem_take_succ hr] at HAD
              clear hr bf ks h0 h1 hv ksw
              obtain ⟨kind, time, seq, index, frm, til, body⟩ := r
              unfold rowV at *
              simp only at *
              go_wp2_with fail
              refine Calls.mono HAD.out ?_
              rintro e w9 ⟨rfl, v9, bf9, s9, n9⟩
              have R : Hid (Bf base w9 b 1 16777216 v9 _ _ ∧ (∀ k, v9.ownBlock = some k → w5.heap.size ≤ k) ∧ Same (fun k => k = b ∨ w5.heap.size ≤ k) w5 w9) := ⟨bf9, fun k hk => by
                rcases n9 k hk with e | e
                · exact HVV.out k e
                · have h1 := KS.out.size
                  have h2 := KB.out.size
                  omega, (KS.out.trans' (Kept.to KB.out _)).trans s9 fun i _ e => by
                rcases e with e | e
                · exact .inl e
                · exact .inr (HVV.out i e)⟩
              clear bf9 s9 n9
              go_wp2_with fail
              go_roundw
              case rel => exact ⟨j + 1, v9, _, hlt, by rw [Int.natCast_add]; rfl, R.out⟩
              case measure => simp only [intOf]; omega
            · obtain rfl : n = j := by omega
              have c1 : decide ((n : Int) < (n : Int)) = false := by simp
              have BF6 : Hid (Bf base wr b 1 16777216 v l pk) := by
                have := BF.out
                rwa [EN.out, List.take_length] at this
              have HTK : Hid _ := take10 BF6.out
              clear bf ks hv ksw BF
              go_wp2_with fail
              refine Calls.mono HTK.out ?_
              rintro e w6 ⟨v6, rfl, o6, bf6, s6⟩
              obtain ⟨g3, c3', rfl⟩ := OwnR.shape o6 (by rw [LL.out]; omega)
              rw [LL.out] at o6 ⊢
              have hb5 : b < w5.heap.size := Nat.lt_of_lt_of_le hb4 O5.out.2.size
              have KS6 : Hid (Same (fun k => w.heap.size ≤ k) w w6) := BF6.out.step hbase KSW.out (s6.mono fun i _ e => .inl e)
              have ks56 : Same (fun k => k = b ∨ w5.heap.size ≤ k) w5 w6 := KS.out.trans s6 fun i _ e => .inl e
              -- the five lists, as they lie in w6
              have nb : ∀ {w0 : World} {bs g c : Nat} {L : List RwM}, OwnR bs w0 (.slice (some ⟨g, 0, none⟩) n c) L → ∀ {W : World} {bs' : Nat} {v' : Value} {x' : List RwM} {p' : Nat}, Bf bs' W b 1 16777216 v' x' p' → Kept w0 W → g ≠ b := fun {w0 bs g c L} ho {W bs' v' x' p'} hB k e => by
                obtain ⟨-, cur, -, hg, -⟩ := OwnR.parts ho
                have h1 := (k.block _ (lt_of_heap hg) (fun e => e)).trans hg
                rw [e] at h1
                have := h1.symm.trans hB.obj
                simp at this
              have p4 : OwnR w.heap.size w4 (.slice (some ⟨g5, 0, none⟩) n c5) l := OwnR.low (OwnR.kept (OwnR.kept R2.out.1 O3.out.2 (fun _ _ e => e)) O4.out.2 (fun _ _ e => e)) KS1.out.size
              have p0 : OwnR w.heap.size w4 (.slice (some ⟨g0, 0, none⟩) n c0) (srt (bef 1) l) := OwnR.low (OwnR.kept O3.out.1 O4.out.2 (fun _ _ e => e)) (Nat.le_trans KS1.out.size R2.out.2.size)
              have p1 : OwnR w.heap.size w4 (.slice (some ⟨g1, 0, none⟩) n c1') (srt (bef 1) l) := OwnR.low O4.out.1 (Nat.le_trans KS1.out.size (Same.trans' R2.out.2 O3.out.2).size)
              have lt4 := (OwnR.block R2.out.1 (k := g5) rfl)
              have lt0 := (OwnR.block O3.out.1 (k := g0) rfl)
              have lt1 := (OwnR.block O4.out.1 (k := g1) rfl)
              have lt2 := (OwnR.block O5.out.1 (k := g2) rfl)
              have lt3 := (OwnR.block o6 (k := g3) rfl)
              have sz3 := O3.out.2.size
              have sz4 := O4.out.2.size
              have szr := KS.out.size
              have ne4 := nb p4 BF4.out (Same.refl _ _)
              have ne0 := nb p0 BF4.out (Same.refl _ _)
              have ne1 := nb p1 BF4.out (Same.refl _ _)
              have sz5 := O5.out.2.size
              have mv : ∀ {g c : Nat} {L : List RwM}, OwnR w.heap.size w4 (.slice (some ⟨g, 0, none⟩) n c) L → g ≠ b → g < w4.heap.size → OwnR w.heap.size w6 (.slice (some ⟨g, 0, none⟩) n c) L := fun {g c L} ho hne hlt => OwnR.kept (OwnR.kept ho O5.out.2 fun k hk e => by
                simp [Value.ownBlock] at hk
                omega) ks56 fun k hk e => by
                simp [Value.ownBlock] at hk
                omega
              have q4 := mv p4 ne4 (by omega)
              have q0 := mv p0 ne0 (by omega)
              have q1 := mv p1 ne1 (by omega)
              have q2 : OwnR w.heap.size w6 (.slice (some ⟨g2, 0, none⟩) n c2') (srt (bef 1) l) := OwnR.low (OwnR.kept O5.out.1 ks56 fun k hk e => by
                simp [Value.ownBlock] at hk
                omega) (Nat.le_trans KS1.out.size (Nat.le_trans R2.out.2.size (Nat.le_trans sz3 sz4)))
              have q3 : OwnR w.heap.size w6 (.slice (some ⟨g3, 0, none⟩) n c3') (srt (bef 1) l) := OwnR.low o6 KSW.out.size
              have Q : Hid ((OwnR w.heap.size w6 (.slice (some ⟨g0, 0, none⟩) n c0) (srt (bef 1) l) ∧ OwnR w.heap.size w6 (.slice (some ⟨g1, 0, none⟩) n c1') (srt (bef 1) l) ∧ OwnR w.heap.size w6 (.slice (some ⟨g2, 0, none⟩) n c2') (srt (bef 1) l) ∧ OwnR w.heap.size w6 (.slice (some ⟨g3, 0, none⟩) n c3') (srt (bef 1) l) ∧ OwnR w.heap.size w6 (.slice (some ⟨g5, 0, none⟩) n c5) l) ∧ g5 < g0 ∧ g0 < g1 ∧ g1 < g2 ∧ g2 < g3) := ⟨⟨q0, q1, q2, q3, q4⟩, by omega, by omega, by omega, by omega⟩
              clear o6 bf6 s6 ks56 nb p4 p0 p1 lt4 lt0 lt1 lt2 lt3 sz3 sz4 szr ne4 ne0 ne1 sz5 mv q4 q0 q1 q2 q3 HTK O3 O4 O5 R2 BF1 BF4 BF6 KS KSW KS1 KS5 HVV hb4 hb5
              have RW : Hid (∀ W, Kept w6 W → RowsAt W a l) := fun W k => RowsAt.kept HR.out.rows (KS6.out.trans' (k.to _)) fun k hk e => by have := HR.out.rows.lt hk; omega
              go_wp2_with fail
              refine Calls.mono (HPL.out _ (RW.out _ (Same.refl _ _))) ?_
              rintro e w7 ⟨v7, rfl, o7, k7⟩
              obtain ⟨qa, qc, rfl, rq7, hq1, hq2, -⟩ := OwnQ.rows o7
              rw [← EN.out]
              have HS7 : Hid _ := HRS.out w7 qa qc rq7 (by rw [EN.out]; exact hq1) (by rw [EN.out]; exact hq2)
              have K7 : Hid (Kept w6 w7) := k7
              clear o7 k7 rq7 hq1 hq2 HPL HRS
              go_wp2_with fail
              refine Calls.mono HS7.out ?_
              rintro e w8 ⟨v8, rfl, o8, k8⟩
              obtain ⟨ta, tc, rfl, rt8, -, -, -⟩ := OwnQ.rows o8
              rw [LL.out]
              have RT : Hid (∀ W, Kept w8 W → RowsAt W ta (srt (bef 1) l)) := fun W k => rt8.on k
              have K8 : Hid (Kept w6 w8) := Same.trans' K7.out k8
              have RO : Hid (∀ {g c : Nat}, OwnR w.heap.size w6 (.slice (some ⟨g, 0, none⟩) n c) (srt (bef 1) l) → ∀ W, Kept w8 W → RowsAt W (some ⟨g, 0, none⟩) (srt (bef 1) l)) := fun {g c} ho W k => by
                obtain ⟨x, c', e, hr, -⟩ := OwnR.rows ho
                simp only [Value.slice.injEq] at e
                obtain ⟨rfl, -, -⟩ := e
                exact hr.on (Same.trans' K8.out k)
              clear o8 k8 rt8 K7 HS7
              go_wp2_with fail
              refine Calls.mono (HSS.out _ _ _ _ _ (RO.out Q.out.1.1 _ (Same.refl _ _)) (RT.out _ (Same.refl _ _))) ?_
              rintro e w9 ⟨rfl, k9⟩
              have K9 : Hid (Kept w8 w9) := k9
              clear k9
              go_wp2_with fail
              refine Calls.mono (HSS.out _ _ _ _ _ (RO.out Q.out.1.2.1 _ K9.out) (RT.out _ K9.out)) ?_
              rintro e w10 ⟨rfl, k10⟩
              have K10 : Hid (Kept w8 w10) := Same.trans' K9.out k10
              clear k10 K9
              go_wp2_with fail
              refine Calls.mono (HSS.out _ _ _ _ _ (RO.out Q.out.1.2.2.1 _ K10.out) (RT.out _ K10.out)) ?_
              rintro e w11 ⟨rfl, k11⟩
              have K11 : Hid (Kept w8 w11) := Same.trans' K10.out k11
              clear k11 K10
              go_wp2_with fail
              refine Calls.mono (HSS.out _ _ _ _ _ (RO.out Q.out.1.2.2.2.1 _ K11.out) (RT.out _ K11.out)) ?_
              rintro e w12 ⟨rfl, k12⟩
              have K12 : Hid (Kept w6 w12) := Same.trans' K8.out (Same.trans' K11.out k12)
              have M0 : Hid _ := ls_new (OwnR.kept Q.out.1.1 K12.out (fun _ _ e => e)) (OwnR.kept Q.out.1.2.1 K12.out (fun _ _ e => e)) (OwnR.kept Q.out.1.2.2.1 K12.out (fun _ _ e => e)) (OwnR.kept Q.out.1.2.2.2.1 K12.out (fun _ _ e => e)) (OwnR.kept Q.out.1.2.2.2.2 K12.out (fun _ _ e => e)) Q.out.2.1 Q.out.2.2.1 Q.out.2.2.2.1 Q.out.2.2.2.2 (KS6.out.trans' (Kept.to K12.out _))
              clear k12 K11 K8 RO RT HSS Q RW KS6 K12
              go_wp2_with fail
              have hg9 : w12.heap.size < (w12.alloc (.cells #[.slice (some ⟨g0, 0, none⟩) n c0, .slice (some ⟨g1, 0, none⟩) n c1', .slice (some ⟨g2, 0, none⟩) n c2', .slice (some ⟨g3, 0, none⟩) n c3', .slice (some ⟨g5, 0, none⟩) n c5] 22)).heap.size := by simp
              generalize w12.alloc (.cells #[.slice (some ⟨g0, 0, none⟩) n c0, .slice (some ⟨g1, 0, none⟩) n c1', .slice (some ⟨g2, 0, none⟩) n c2', .slice (some ⟨g3, 0, none⟩) n c3', .slice (some ⟨g5, 0, none⟩) n c5] 22) = WL at M0 hg9 ⊢
              generalize w12.heap.size = gL at *
              generalize pick5 g0 g1 g2 g3 g5 = G at *
              generalize pick5 c0 c1' c2' c3' c5 = C at *
              go_loopw [132] (fun i wr => ∃ (I : Nat) (X : Nat → List RwM), I ≤ 5 ∧ i = .int .i64 I ∧ Mkd w wr gL G C n I 0 X) (fun i _ => 5 - (intOf i).toNat)
              case atStart => exact ⟨0, _, Nat.zero_le _, rfl, M0.out⟩
              case round =>
                clear M0
                obtain ⟨I, X, hI5, rfl, mk⟩ := hrel
                have MK : Hid _ := mk
                by_cases hI : I < 5
                · have c1 : decide ((I : Int) < 5) = true := decide_eq_true (by omega)
                  have c1' : (I : Int) < 5 := by omega
                  have hc := mk.ls.cell hI
                  have hgl := lt_of_heap mk.ls.lst
                  clear mk
                  go_wp2_with fail
                  clear hc hgl
                  go_loopw [139] (fun i wr => ∃ (k : Nat) (X : Nat → List RwM), k ≤ n ∧ i = .int .i64 k ∧ Mkd w wr gL G C n I k X) (fun i _ => n - (intOf i).toNat)
                  case atStart => exact ⟨0, X, Nat.zero_le _, rfl, MK.out⟩
                  case round =>
                    clear MK
                    obtain ⟨k, X, hk, rfl, mk⟩ := hrel
                    have MK : Hid _ := mk
                    by_cases hlt : k < n
                    · have e1 : decide ((k : Int) < (n : Int)) = true := decide_eq_true (by omega)
                      have e1' : (k : Int) < (n : Int) := by omega
                      have hlX := mk.ls.len hI
                      obtain ⟨⟨v0, v1, v2, v3, v4, v5, v6, s0, s1, s2, s3, s4, s5, s6⟩, f0, f1, f2, f3, f4, f5, f6, hgl⟩ := OwnR.slots (mk.ls.own I hI) (k := k) (by omega)
                      have M1 : Hid _ := mk.put hI hlt
                      generalize G I = gI at *
                      clear mk hlX
                      go_wp2_with fail
                      go_roundw
                      case rel => exact ⟨k + 1, _, hlt, by rw [Int.natCast_add]; rfl, M1.out⟩
                      case measure => simp only [intOf]; omega
                    · obtain rfl : n = k := by omega
                      have e1 : decide ((n : Int) < (n : Int)) = false := by simp
                      have M1 : Hid _ := mk.next hI
                      clear mk
                      go_wp2_with fail
                      go_roundw
                      case rel => exact ⟨I + 1, X, hI, by rw [Int.natCast_add]; rfl, M1.out⟩
                      case measure => simp only [intOf]; omega
                · obtain rfl : I = 5 := by omega
                  have hX : ∀ i, i < 5 → X i = List.replicate n (mkR (10 + i)) := mk.done
                  have HX : Hid _ := hX
                  have L5 : Hid _ := mk.ls
                  clear mk hX MK
                  go_wp2_with fail
                  go_loopw [152] (fun i wr => ∃ I : Nat, I ≤ 5 ∧ i = .int .i64 I ∧ Ls w wr gL G C n X) (fun i _ => 5 - (intOf i).toNat)
                  case atStart => exact ⟨0, Nat.zero_le _, rfl, L5.out⟩
                  case round =>
                    clear L5
                    obtain ⟨I, hI5, rfl, ls⟩ := hrel
                    have LS6 : Hid _ := ls
                    by_cases hI : I < 5
                    · have c1 : decide ((I : Int) < 5) = true := decide_eq_true (by omega)
                      have c1' : (I : Int) < 5 := by omega
                      have hc := ls.cell hI
                      have hgl := lt_of_heap ls.lst
                      have G0 : Hid (Gr w wr gL G C n X I (.slice (some ⟨G I, 0, none⟩) n (C I)) []) := ⟨ls, G I, C I, by rw [List.append_nil, ls.len hI], by rw [List.append_nil, ls.len hI]; exact ls.own I hI, .inl ⟨rfl, rfl⟩⟩
                      have hlX := ls.len hI
                      clear ls
                      go_wp2_with fail
                      clear hc hgl
                      go_loopw [24, 25] (fun v i wr => ∃ (k : Nat) (T : List RwM), k ≤ 40 ∧ T.length = k ∧ i = .int .i64 k ∧ Gr w wr gL G C n X I v T) (fun _ i _ => 40 - (intOf i).toNat)
                      case atStart => exact ⟨0, [], by omega, rfl, rfl, G0.out⟩
                      case round =>
                        clear G0
                        obtain ⟨k, T, hk, hT, rfl, gr⟩ := hrel
                        have GR : Hid _ := gr
                        by_cases hlt : k < 40
                        · have e1 : decide ((k : Int) < 40) = true := decide_eq_true (by omega)
                          have e1' : (k : Int) < 40 := by omega
                          have HAP : Hid (∀ ty, _) := fun ty => gr.more hI (mkR (90 + (I : Int))) (by rw [List.length_append, hlX, hT]; omega) ty
                          simp only [mkR] at HAP
                          have hT2 : Hid _ := hT
                          clear gr hT
                          go_wp2_with (at_builtin; refine wpList_app rfl (.tmp 161) (.tmp 165) 22 22 rfl u24 (.slice (some ⟨wr.heap.size, 0, none⟩) 1 1) rfl rfl _ HAP.out ?_; rintro v5 w5 g5; have G5 : Hid _ := g5; clear g5)
                          refine ⟨⟨v5, .int .i64 ((k : Int) + 1), _, _, _, _, _, _, _, _, _, _, ⟨k + 1, _, hlt, ?_, ?_, G5.out⟩, rfl⟩, ?_⟩
                          · rw [List.length_append, hT2.out]; rfl
                          · rw [Int.natCast_add]; rfl
                          · show 40 - (intOf (.int .i64 ((k : Int) + 1))).toNat < 40 - (intOf (.int .i64 (k : Int))).toNat
                            simp only [intOf]; omega
                        · obtain rfl : k = 40 := by omega
                          have L1 : Hid _ := gr.ls
                          clear gr
                          go_wp2_with fail
                          go_roundw
                          case rel => exact ⟨I + 1, hI, by rw [Int.natCast_add]; rfl, L1.out⟩
                          case measure => simp only [intOf]; omega
                    · obtain rfl : I = 5 := by omega
                      clear ls
                      go_wp2_with fail
                      go_loopw [170] (fun i wr => ∃ I : Nat, I ≤ 5 ∧ i = .int .i64 I ∧ Ls w wr gL G C n X) (fun i _ => 5 - (intOf i).toNat)
                      case atStart => exact ⟨0, Nat.zero_le _, rfl, LS6.out⟩
                      case round =>
                        clear LS6
                        obtain ⟨I, hI5, rfl, ls⟩ := hrel
                        have LS7 : Hid _ := ls
                        by_cases hI : I < 5
                        · have c1 : decide ((I : Int) < 5) = true := decide_eq_true (by omega)
                          have c1' : (I : Int) < 5 := by omega
                          have hc := ls.cell hI
                          have hgl := lt_of_heap ls.lst
                          clear ls
                          go_wp2_with fail
                          clear hc hgl
                          go_loopw [177] (fun i wr => ∃ k : Nat, k ≤ n ∧ i = .int .i64 k ∧ Ls w wr gL G C n X) (fun i _ => n - (intOf i).toNat)
                          case atStart => exact ⟨0, Nat.zero_le _, rfl, LS7.out⟩
                          case round =>
                            clear LS7
                            obtain ⟨k, hk, rfl, ls⟩ := hrel
                            have LS8 : Hid _ := ls
                            by_cases hlt : k < n
                            · have e1 : decide ((k : Int) < (n : Int)) = true := decide_eq_true (by omega)
                              have e1' : (k : Int) < (n : Int) := by omega
                              obtain ⟨x, c, e, hr, -⟩ := OwnR.rows (ls.own I hI)
                              simp only [Value.slice.injEq] at e
                              obtain ⟨rfl, -, -⟩ := e
                              obtain ⟨g', off', e, hgl, y0, -⟩ := hr k (mkR (10 + I)) (by rw [HX.out I hI, List.getElem?_replicate, if_pos hlt])
                              cases e
                              simp only [mkR, Nat.zero_add] at y0
                              generalize G I = gI at *
                              clear ls hr
                              go_wp2_with fail
                              go_roundw
                              case rel => exact ⟨k + 1, hlt, by rw [Int.natCast_add]; rfl, LS8.out⟩
                              case measure => simp only [intOf]; omega
                            · obtain rfl : n = k := by omega
                              have e1 : decide ((n : Int) < (n : Int)) = false := by simp
                              clear ls
                              go_wp2_with fail
                              go_roundw
                              case rel => exact ⟨I + 1, hI, by rw [Int.natCast_add]; rfl, LS8.out⟩
                              case measure => simp only [intOf]; omega
                        · obtain rfl : I = 5 := by omega
                          clear ls
                          go_wp2_with fail
                          go_ret
                          exact ⟨rfl, LS7.out.same.mono fun i hi e => by omega⟩
end Go.Proofs.Ytcbllejjiokmbab
