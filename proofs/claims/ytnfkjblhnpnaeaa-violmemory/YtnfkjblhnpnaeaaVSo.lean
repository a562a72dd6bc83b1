/- What is proved: symMerge of the library's stable sort merges two sorted parts, those alike as they stood; in any program with this text, the row lies in memory. -/
import Derived.Test.YtnfkjblhnpnaeaaVSn
namespace Go.Proofs.Ytnfkjblhnpnaeaa
open Go.RowKit

theorem len_take {l : List Nb} {c : Nat} (h : c ≤ l.length) : (l.take c).length = c := by rw [List.length_take]; omega
theorem srt_nil_l {R : List Nb} (h : StS R) : srt ltN ([] ++ R) = R := by rw [List.nil_append]; exact (StS.eqs h (List.Perm.refl _)).symm
theorem srt_nil_r {L : List Nb} (h : StS L) : srt ltN (L ++ []) = L := by rw [List.append_nil]; exact (StS.eqs h (List.Perm.refl _)).symm
set_option maxRecDepth 100000 in
set_option maxHeartbeats 6400000 in
theorem sym3 {P : Program} {k : Nat} {enc : Vl → List Value} (AS : As P k enc) {base : Nat} {w : World} {g N cap : Nat} {A L R C : List Nb} (h : Own (en enc) k 30 base w (.slice (some ⟨g, 0, none⟩) N cap) (A ++ L ++ R ++ C)) (hN : N ≤ 1172812402961) (hL : StS L) (hR : StS R) (hn : ∀ x ∈ L, ∀ y ∈ R, x.n < y.n) (hd : Dis (L ++ R)) (hl1 : 1 < L.length) (hr1 : 1 < R.length)
    (IH : ∀ (W : World) (A' L' R' C' : List Nb), L'.length + R'.length < L.length + R.length → Own (en enc) k 30 base W (.slice (some ⟨g, 0, none⟩) N cap) (A' ++ L' ++ R' ++ C') → StS L' → StS R' → (∀ x ∈ L', ∀ y ∈ R', x.n < y.n) → Dis (L' ++ R') → 0 < L'.length → 0 < R'.length → Calls P 46 #[.slice (some ⟨g, 0, none⟩) N cap, .int .i64 (A'.length : Int), .int .i64 ((A'.length + L'.length : Nat) : Int), .int .i64 ((A'.length + L'.length + R'.length : Nat) : Int), cmpF] W fun e w' => e = .returned (.tuple #[]) ∧ Own (en enc) k 30 base w' (.slice (some ⟨g, 0, none⟩) N cap) (A' ++ srt ltN (L' ++ R') ++ C') ∧ Same (fun b => b = g) W w') :
    Calls P 46 #[.slice (some ⟨g, 0, none⟩) N cap, .int .i64 (A.length : Int), .int .i64 ((A.length + L.length : Nat) : Int), .int .i64 ((A.length + L.length + R.length : Nat) : Int), cmpF] w fun e w' => e = .returned (.tuple #[]) ∧ Own (en enc) k 30 base w' (.slice (some ⟨g, 0, none⟩) N cap) (A ++ srt ltN (L ++ R) ++ C) ∧ Same (fun b => b = g) w w' := by
  have AA : Hid (As P k enc) := AS
  obtain ⟨mixed, E, fW, fR, fM, fT, eW, eR, eM, eI, eC, cmp, t0, t3, t4, t28, t77, a0, a3, a4, a28, a30, z0, z3, z4, z28, z30⟩ := AS
  have u28 := run_underlying t28
  have u77 := run_underlying (t77.trans Try.underlying77)
  have t77' := t77.trans Try.underlying77
  have EE : Hid (Ek (en enc) k) := ek_en E
  have HC : Hid (∀ a b W, _) := cmp
  have HIH : Hid _ := IH
  have hNl : N = (A ++ L ++ R ++ C).length := h.lt.2
  simp only [List.length_append] at hNl
  obtain ⟨a, ea⟩ : ∃ a, a = A.length := ⟨_, rfl⟩
  obtain ⟨m, em⟩ : ∃ m, m = A.length + L.length := ⟨_, rfl⟩
  obtain ⟨b, eb⟩ : ∃ b, b = A.length + L.length + R.length := ⟨_, rfl⟩
  rw [← eb, ← em, ← ea]
  obtain ⟨ll, ell⟩ : ∃ q, q = L.length := ⟨_, rfl⟩
  obtain ⟨rl, erl⟩ : ∃ q, q = R.length := ⟨_, rfl⟩
  obtain ⟨mid, emid⟩ : ∃ q, q = (a + b) / 2 := ⟨_, rfl⟩
  obtain ⟨n, en'⟩ : ∃ q, q = mid + m := ⟨_, rfl⟩
  obtain ⟨p, ep⟩ : ∃ q, q = n - 1 := ⟨_, rfl⟩
  have hbN : b ≤ N := by omega
  have hma : (m : Int) - (a : Int) = (ll : Int) := by omega
  have hll : ((ll : Int) == 1) = false := by simp; omega
  have hll' : ¬ (ll : Int) = 1 := by omega
  have hbm : (b : Int) - (m : Int) = (rl : Int) := by omega
  have hrl : ((rl : Int) == 1) = false := by simp; omega
  have hrl' : ¬ (rl : Int) = 1 := by omega
  have hbN2 : (b : Int) ≤ 1172812402961 := by omega
  have haN2 : (a : Int) ≤ 1172812402961 := by omega
  have hmN2 : (m : Int) ≤ 1172812402961 := by omega
  have hmidI : ((a : Int) + (b : Int)) / 2 = (mid : Int) := by omega
  have hnI : (mid : Int) + (m : Int) = (n : Int) := by omega
  have hpI : (n : Int) - 1 = (p : Int) := by omega
  have hnN : (n : Int) ≤ 2345624805922 := by omega
  have hmidN : (mid : Int) ≤ 1172812402961 := by omega
  have hpN : (p : Int) ≤ 2345624805922 := by omega
  have EA : Hid (a = A.length ∧ m = A.length + L.length ∧ b = A.length + L.length + R.length ∧ ll = L.length ∧ rl = R.length ∧ mid = (a + b) / 2 ∧ n = mid + m ∧ p = n - 1 ∧ 1 < L.length ∧ 1 < R.length ∧ b ≤ N) := ⟨ea, em, eb, ell, erl, emid, en', ep, hl1, hr1, hbN⟩
  have HO : Hid (Own (en enc) k 30 base w (.slice (some ⟨g, 0, none⟩) N cap) (A ++ L ++ R ++ C)) := h
  have HL : Hid (StS L) := hL
  have HR : Hid (StS R) := hR
  have HNN : Hid (∀ x ∈ L, ∀ y ∈ R, x.n < y.n) := hn
  have HDI : Hid (Dis (L ++ R)) := hd
  have HGX : Hid (∀ q x, a ≤ q → L[q - a]? = some x → (A ++ L ++ R ++ C)[q]? = some x) := fun q x h1 h2 => by
    have h3 := (List.getElem?_eq_some_iff.1 h2).1
    rw [List.append_assoc, List.getElem?_append_left (by simp; omega), List.getElem?_append_right (by omega), ← ea]
    exact h2
  have HGY : Hid (∀ q y, m ≤ q → R[q - m]? = some y → (A ++ L ++ R ++ C)[q]? = some y) := fun q y h1 h2 => by
    have h3 := (List.getElem?_eq_some_iff.1 h2).1
    rw [List.append_assoc, List.getElem?_append_right (by simp; omega), List.getElem?_append_left (by simp; omega)]
    rw [← h2]
    congr 1
    simp
    omega
  have HROT : Hid (∀ W A' X Y C', Own (en enc) k 30 base W (.slice (some ⟨g, 0, none⟩) N cap) (A' ++ X ++ Y ++ C') → 0 < X.length → 0 < Y.length → _) := fun W A' X Y C' o h1 h2 => rot_p AA.out (A := A') (X := X) (Y := Y) (C := C') cmpF o hN h1 h2
  obtain ⟨s0, r0, hcase⟩ : ∃ s0 r0, (mid < m ∧ s0 = n - b ∧ r0 = mid) ∨ (m ≤ mid ∧ s0 = a ∧ r0 = m) := by
    by_cases hmm : mid < m
    · exact ⟨n - b, mid, .inl ⟨hmm, rfl, rfl⟩⟩
    · exact ⟨a, m, .inr ⟨by omega, rfl, rfl⟩⟩
  have HCASE : Hid ((mid < m ∧ s0 = n - b ∧ r0 = mid) ∨ (m ≤ mid ∧ s0 = a ∧ r0 = m)) := hcase
  have hs0 : s0 ≤ r0 := by omega
  clear cmp fW fR fT eW eI hNl h ea em eb hL hR hn hd E ell erl emid en' ep IH hl1 hr1
  go_enter fM, Try.ntmps46
  rcases hcase with ⟨hmm, hsz, hrz⟩ | ⟨hmm, hsz, hrz⟩
  · have dm : (mid : Int) < (m : Int) := by omega
    have dmb : decide ((m : Int) > (mid : Int)) = true := decide_eq_true dm
    subst r0
    have hszI : (n : Int) - (b : Int) = (s0 : Int) := by have := EA.out; omega
    have HS0 : Hid (s0 = n - b) := hsz
    clear hsz
    go_wp2_with fail
    go_loopw [20, 21] (fun u v wr => ∃ s r : Nat, u = .int .i64 (s : Int) ∧ v = .int .i64 (r : Int) ∧ s0 ≤ s ∧ s ≤ r ∧ r ≤ mid ∧ (∀ c x y, s0 ≤ c → c < s → L[c - a]? = some x → R[n - 1 - c - m]? = some y → ltV y.v x.v = false) ∧ (∀ c x y, r ≤ c → c < mid → L[c - a]? = some x → R[n - 1 - c - m]? = some y → ltV y.v x.v = true) ∧ Grw w wr) (fun u v _ => (intOf v).toNat - (intOf u).toNat)
    case atStart => exact ⟨s0, mid, rfl, rfl, Nat.le_refl _, hs0, Nat.le_refl _, fun c x y h1 h2 => by omega, fun c x y h1 h2 => by omega, Grw.refl _⟩
    case round =>
      obtain ⟨s, r, rfl, rfl, h1, h2, h3, hlo, hhi, gw⟩ := hrel
      rename World => WL
      have HW : Hid (Grw w WL) := gw
      have hb9 := EA.out
      by_cases hij : s < r
      · have d1 : (s : Int) < (r : Int) := by omega
        have d1b : decide ((s : Int) < (r : Int)) = true := decide_eq_true d1
        obtain ⟨c, ec⟩ : ∃ q, q = (s + r) / 2 := ⟨_, rfl⟩
        have hc : ((s : Int) + (r : Int)) / 2 = (c : Int) := by omega
        have hcN : (c : Int) < (N : Int) := by omega
        have hsN : (s : Int) ≤ 1172812402961 := by omega
        have hrN : (r : Int) ≤ 1172812402961 := by omega
        have hc1 : s ≤ c := by omega
        have hc2 : c < r := by omega
        obtain ⟨pc, epc⟩ : ∃ q, q = p - c := ⟨_, rfl⟩
        have hpc : (p : Int) - (c : Int) = (pc : Int) := by omega
        have hpcN : (pc : Int) < (N : Int) := by omega
        have hwpc : IntKind.i64.wrap ((p : Int) - (c : Int)) = (pc : Int) := by rw [IntKind.wrap_i64] <;> omega
        have hwpd : IntKind.i64.wrap (pc : Int) = (pc : Int) := by rw [IntKind.wrap_i64] <;> omega
        obtain ⟨x, hx⟩ : ∃ x, L[c - a]? = some x := ⟨_, List.getElem?_eq_getElem (by omega)⟩
        obtain ⟨y, hy⟩ : ∃ y, R[n - 1 - c - m]? = some y := ⟨_, List.getElem?_eq_getElem (by omega)⟩
        have hpcm : pc - m = n - 1 - c - m := by omega
        have lx := (HO.out.on gw.kept).loadg EE.out (HGX.out c x (by omega) hx) P
        have ly := (HO.out.on gw.kept).loadg EE.out (HGY.out pc y (by omega) (by rw [hpcm]; exact hy)) P
        have hcc := fun W => HC.out y.v x.v W
        have hxy := HNN.out x (List.mem_of_getElem? hx) y (List.mem_of_getElem? hy)
        have HYES : Hid (decide (compV y.v x.v < 0) = true → ∀ c' x' y', c ≤ c' → c' < mid → L[c' - a]? = some x' → R[n - 1 - c' - m]? = some y' → ltV y'.v x'.v = true) := fun e c' x' y' h5 h6 h7 h8 => by
          rw [← ltN_back (HNN.out x' (List.mem_of_getElem? h7) y' (List.mem_of_getElem? h8))]
          exact lt_chain (HR.out.at h8 hy (by omega)) (by rw [ltN_back hxy]; exact e) (HL.out.at hx h7 (by omega))
        have HNO : Hid (decide (compV y.v x.v < 0) = false → ∀ c' x' y', s0 ≤ c' → c' < c + 1 → L[c' - a]? = some x' → R[n - 1 - c' - m]? = some y' → ltV y'.v x'.v = false) := fun e c' x' y' h5 h6 h7 h8 => by
          cases h9 : ltV y'.v x'.v
          · rfl
          · rw [← ltN_back (HNN.out x' (List.mem_of_getElem? h7) y' (List.mem_of_getElem? h8))] at h9
            have := lt_chain (HR.out.at hy h8 (by omega)) h9 (HL.out.at h7 hx (by omega))
            rw [ltN_back hxy] at this
            unfold ltV at this
            rw [this] at e
            cases e
        have HLO : Hid (∀ c x y, s0 ≤ c → c < s → L[c - a]? = some x → R[n - 1 - c - m]? = some y → ltV y.v x.v = false) := hlo
        have HHI : Hid (∀ c x y, r ≤ c → c < mid → L[c - a]? = some x → R[n - 1 - c - m]? = some y → ltV y.v x.v = true) := hhi
        clear hlo hhi gw hx hy ec epc hpcm hxy hb9
        generalize compV y.v x.v = cv at hcc HYES HNO
        obtain ⟨cx, ecx⟩ : ∃ c, c = enc x.v := ⟨_, rfl⟩
        obtain ⟨cy, ecy⟩ : ∃ c, c = enc y.v := ⟨_, rfl⟩
        simp only [en] at lx ly
        rw [← ecx] at lx hcc
        rw [← ecy] at ly hcc
        clear ecx ecy
        by_cases hcv : cv < 0
        · have dc : decide (cv < 0) = true := decide_eq_true hcv
          go_wp2_with fail
          go_quiet_grown (first | (go_at_fn 17; refine Calls.grown_of (hcc _)))
          clear lx ly hcc
          have G : Hid (Grw WL (Sort.grow (WL.drewN nq) osq)) := ⟨nq, osq, rfl⟩
          go_wp2_with fail
          go_roundw
          case rel => exact ⟨s, c, rfl, rfl, h1, hc1, by omega, HLO.out, HYES.out dc, HW.out.trans G.out⟩
          case measure => simp only [intOf]; omega
        · have dc : decide (cv < 0) = false := decide_eq_false hcv
          go_wp2_with fail
          go_quiet_grown (first | (go_at_fn 17; refine Calls.grown_of (hcc _)))
          clear lx ly hcc
          have G : Hid (Grw WL (Sort.grow (WL.drewN nq) osq)) := ⟨nq, osq, rfl⟩
          go_wp2_with fail
          go_roundw
          case rel => exact ⟨c + 1, r, by simp, rfl, by omega, by omega, h3, HNO.out dc, HHI.out, HW.out.trans G.out⟩
          case measure => simp only [intOf]; omega
      · obtain rfl : r = s := by omega
        have d1 : ¬ (r : Int) < (r : Int) := by omega
        obtain ⟨cA, cB⟩ := sym_cut HL.out HR.out HNN.out (a := a) (m := m) (b := b) (mid := mid) (n := n) (s0 := s0) (r0 := mid) (s := r) (by omega) (by omega) (by omega) (by omega) (by omega) (by omega) (.inl ⟨by omega, HS0.out, rfl⟩) h1 h3 hlo hhi
        have HJ := sym_join HL.out HR.out HDI.out (r - a) (n - r - m) cA cB
        obtain ⟨e, ee⟩ : ∃ q, q = n - r := ⟨_, rfl⟩
        have heI : (n : Int) - (r : Int) = (e : Int) := by omega
        obtain ⟨u, eu⟩ : ∃ q, q = r - a := ⟨_, rfl⟩
        obtain ⟨v, ev⟩ : ∃ q, q = n - r - m := ⟨_, rfl⟩
        rw [← eu, ← ev] at HJ
        have hu : u ≤ L.length := by omega
        have hv : v ≤ R.length := by omega
        have hlu := len_take hu
        have hlv := len_take hv
        have hdu : (L.drop u).length = L.length - u := List.length_drop
        have hdv : (R.drop v).length = R.length - v := List.length_drop
        obtain ⟨sl1, sl2, -⟩ := HL.out.split u
        obtain ⟨sr1, sr2, -⟩ := HR.out.split v
        have hfull : Own (en enc) k 30 base WL (.slice (some ⟨g, 0, none⟩) N cap) ((A ++ L.take u) ++ L.drop u ++ R.take v ++ (R.drop v ++ C)) := by
          have h7 := HO.out.on gw.kept
          have e7 : (A ++ L.take u) ++ L.drop u ++ R.take v ++ (R.drop v ++ C) = A ++ L ++ R ++ C := by
            conv => rhs; rw [← List.take_append_drop u L, ← List.take_append_drop v R]
            simp only [List.append_assoc]
          rw [e7]; exact h7
        have hsm : Same (fun b => b = g) w WL := gw.kept.to _
        obtain ⟨L1, eL1⟩ : ∃ q, q = L.take u := ⟨_, rfl⟩
        obtain ⟨L2, eL2⟩ : ∃ q, q = L.drop u := ⟨_, rfl⟩
        obtain ⟨R1, eR1⟩ : ∃ q, q = R.take v := ⟨_, rfl⟩
        obtain ⟨R2, eR2⟩ : ∃ q, q = R.drop v := ⟨_, rfl⟩
        have hm1 : ∀ z ∈ L1, z ∈ L := fun z hz => by rw [eL1] at hz; exact List.mem_of_mem_take hz
        have hm2 : ∀ z ∈ L2, z ∈ L := fun z hz => by rw [eL2] at hz; exact List.mem_of_mem_drop hz
        have hm3 : ∀ z ∈ R1, z ∈ R := fun z hz => by rw [eR1] at hz; exact List.mem_of_mem_take hz
        have hm4 : ∀ z ∈ R2, z ∈ R := fun z hz => by rw [eR2] at hz; exact List.mem_of_mem_drop hz
        have hdd : Dis ((L1 ++ R1) ++ (L2 ++ R2)) := by
          refine HDI.out.perm (List.Perm.symm ?_)
          conv => rhs; rw [← List.take_append_drop u L, ← List.take_append_drop v R]
          rw [eL1, eL2, eR1, eR2]
          simp only [List.append_assoc]
          refine List.Perm.append_left _ ?_
          rw [← List.append_assoc, ← List.append_assoc]
          exact (List.perm_append_comm).append_right _
        obtain ⟨dd1, dd2, -⟩ := List.pairwise_append.1 hdd
        rw [← eL1, ← eL2, ← eR1, ← eR2] at HJ hfull
        rw [← eL1] at hlu sl1
        rw [← eL2] at hdu sl2
        rw [← eR1] at hlv sr1
        rw [← eR2] at hdv sr2
        have HJH : Hid (srt ltN (L1 ++ R1) ++ srt ltN (L2 ++ R2) = srt ltN (L ++ R)) := HJ
        have HST : Hid (StS L1 ∧ StS L2 ∧ StS R1 ∧ StS R2 ∧ Dis (L1 ++ R1) ∧ Dis (L2 ++ R2)) := ⟨sl1, sl2, sr1, sr2, dd1, dd2⟩
        have HN1 : Hid (∀ x ∈ L1, ∀ y ∈ R1, x.n < y.n) := fun x hx y hy => HNN.out x (hm1 x hx) y (hm3 y hy)
        have HN2 : Hid (∀ x ∈ L2, ∀ y ∈ R2, x.n < y.n) := fun x hx y hy => HNN.out x (hm2 x hx) y (hm4 y hy)
        have HLN : Hid (L1.length = r - a ∧ L2.length = m - r ∧ R1.length = e - m ∧ R2.length = b - e ∧ a ≤ r ∧ r ≤ m ∧ m ≤ e ∧ e ≤ b ∧ mid + (m - r) = e ∧ r + (e - m) = mid) := by
          refine ⟨?_, ?_, ?_, ?_, ?_, ?_, ?_, ?_, ?_, ?_⟩ <;> omega
        have HFU : Hid (Own (en enc) k 30 base WL (.slice (some ⟨g, 0, none⟩) N cap) ((A ++ L1) ++ L2 ++ R1 ++ (R2 ++ C))) := hfull
        have HSM : Hid (Same (fun b => b = g) w WL) := hsm
        have hrB : (r : Int) ≤ 1172812402961 := by omega
        have heB : (e : Int) ≤ 1172812402961 := by omega
        clear hlo hhi gw cA cB HJ hfull hsm ee eu ev hu hv hlu hlv hdu hdv sl1 sl2 sr1 sr2 dd1 dd2 hdd hm1 hm2 hm3 hm4 eL1 eL2 eR1 eR2 hb9 u v HC HGX HGY
        by_cases h_1 : r < m
        · skip
          by_cases h_2 : m < e
          · skip
            by_cases h_3 : a < r
            · skip
              by_cases h_4 : e < b
              · skip
                have q1 : (r : Int) < (m : Int) := by have := HLN.out; have := EA.out; omega
                have q1b : decide ((r : Int) < (m : Int)) = true := decide_eq_true q1
                have q2 : (m : Int) < (e : Int) := by have := HLN.out; have := EA.out; omega
                have q2b : decide ((m : Int) < (e : Int)) = true := decide_eq_true q2
                have q3 : (a : Int) < (r : Int) := by have := HLN.out; have := EA.out; omega
                have q3b : decide ((a : Int) < (r : Int)) = true := decide_eq_true q3
                have q4 : (r : Int) < (mid : Int) := by have := HLN.out; have := EA.out; omega
                have q4b : decide ((r : Int) < (mid : Int)) = true := decide_eq_true q4
                have q5 : (mid : Int) < (e : Int) := by have := HLN.out; have := EA.out; omega
                have q5b : decide ((mid : Int) < (e : Int)) = true := decide_eq_true q5
                have q6 : (e : Int) < (b : Int) := by have := HLN.out; have := EA.out; omega
                have q6b : decide ((e : Int) < (b : Int)) = true := decide_eq_true q6
                have hE := HLN.out
                have HX : Hid _ := HROT.out WL (A ++ L1) L2 R1 (R2 ++ C) HFU.out (by omega) (by omega)
                rw [show (A ++ L1).length = r by rw [List.length_append]; have := EA.out; omega, show r + L2.length = m by omega, show m + R1.length = e by omega] at HX
                clear hE
                go_wp2_with fail
                refine Calls.mono HX.out ?_
                rintro rr W1 ⟨rfl, o1, s1⟩
                have HO1 : Hid (Own (en enc) k 30 base W1 (.slice (some ⟨g, 0, none⟩) N cap) (A ++ L1 ++ R1 ++ (L2 ++ R2 ++ C)) ∧ Same (fun b => b = g) w W1) := ⟨by simpa only [List.append_assoc] using o1, HSM.out.trans' s1⟩
                clear o1 s1 HX HFU HSM
                have hE := HLN.out
                have HX : Hid _ := HIH.out W1 A L1 R1 (L2 ++ R2 ++ C) (by have := EA.out; omega) HO1.out.1 HST.out.1 HST.out.2.2.1 HN1.out HST.out.2.2.2.2.1 (by omega) (by omega)
                rw [show A.length = a by have := EA.out; omega, show a + L1.length = r by omega, show r + R1.length = mid by omega] at HX
                clear hE
                go_wp2_with fail
                refine Calls.mono HX.out ?_
                rintro rr W2 ⟨rfl, o1, s1⟩
                have HO2 : Hid (Own (en enc) k 30 base W2 (.slice (some ⟨g, 0, none⟩) N cap) ((A ++ srt ltN (L1 ++ R1)) ++ L2 ++ R2 ++ C) ∧ Same (fun b => b = g) w W2) := ⟨by simpa only [List.append_assoc] using o1, HO1.out.2.trans' s1⟩
                clear o1 s1 HX HO1
                have hE := HLN.out
                have HX : Hid _ := HIH.out W2 (A ++ srt ltN (L1 ++ R1)) L2 R2 C (by have := EA.out; omega) HO2.out.1 HST.out.2.1 HST.out.2.2.2.1 HN2.out HST.out.2.2.2.2.2 (by omega) (by omega)
                rw [show (A ++ srt ltN (L1 ++ R1)).length = mid by rw [List.length_append, srt_len, List.length_append]; have := EA.out; omega, show mid + L2.length = e by omega, show e + R2.length = b by omega] at HX
                clear hE
                go_wp2_with fail
                refine Calls.mono HX.out ?_
                rintro rr W3 ⟨rfl, o1, s1⟩
                have HO3 : Hid (Own (en enc) k 30 base W3 (.slice (some ⟨g, 0, none⟩) N cap) (A ++ srt ltN (L ++ R) ++ C) ∧ Same (fun b => b = g) w W3) := ⟨by rw [← HJH.out]; simpa only [List.append_assoc] using o1, HO2.out.2.trans' s1⟩
                clear o1 s1 HX HO2
                go_wp2_with fail
                all_goals (go_end0; have h9 := HO3.out; exact ⟨rfl, by simpa only [List.append_assoc] using h9⟩)
              · skip
                have q1 : (r : Int) < (m : Int) := by have := HLN.out; have := EA.out; omega
                have q1b : decide ((r : Int) < (m : Int)) = true := decide_eq_true q1
                have q2 : (m : Int) < (e : Int) := by have := HLN.out; have := EA.out; omega
                have q2b : decide ((m : Int) < (e : Int)) = true := decide_eq_true q2
                have q3 : (a : Int) < (r : Int) := by have := HLN.out; have := EA.out; omega
                have q3b : decide ((a : Int) < (r : Int)) = true := decide_eq_true q3
                have q4 : (r : Int) < (mid : Int) := by have := HLN.out; have := EA.out; omega
                have q4b : decide ((r : Int) < (mid : Int)) = true := decide_eq_true q4
                have q5 : (mid : Int) < (e : Int) := by have := HLN.out; have := EA.out; omega
                have q5b : decide ((mid : Int) < (e : Int)) = true := decide_eq_true q5
                have q6 : ¬ (e : Int) < (b : Int) := by have := HLN.out; have := EA.out; omega
                have q6b : decide ((e : Int) < (b : Int)) = false := decide_eq_false q6
                have hE := HLN.out
                have HX : Hid _ := HROT.out WL (A ++ L1) L2 R1 (R2 ++ C) HFU.out (by omega) (by omega)
                rw [show (A ++ L1).length = r by rw [List.length_append]; have := EA.out; omega, show r + L2.length = m by omega, show m + R1.length = e by omega] at HX
                clear hE
                go_wp2_with fail
                refine Calls.mono HX.out ?_
                rintro rr W1 ⟨rfl, o1, s1⟩
                have HO1 : Hid (Own (en enc) k 30 base W1 (.slice (some ⟨g, 0, none⟩) N cap) (A ++ L1 ++ R1 ++ (L2 ++ R2 ++ C)) ∧ Same (fun b => b = g) w W1) := ⟨by simpa only [List.append_assoc] using o1, HSM.out.trans' s1⟩
                clear o1 s1 HX HFU HSM
                have hE := HLN.out
                have HX : Hid _ := HIH.out W1 A L1 R1 (L2 ++ R2 ++ C) (by have := EA.out; omega) HO1.out.1 HST.out.1 HST.out.2.2.1 HN1.out HST.out.2.2.2.2.1 (by omega) (by omega)
                rw [show A.length = a by have := EA.out; omega, show a + L1.length = r by omega, show r + R1.length = mid by omega] at HX
                clear hE
                go_wp2_with fail
                refine Calls.mono HX.out ?_
                rintro rr W2 ⟨rfl, o1, s1⟩
                have HO2 : Hid (Own (en enc) k 30 base W2 (.slice (some ⟨g, 0, none⟩) N cap) ((A ++ srt ltN (L1 ++ R1)) ++ L2 ++ R2 ++ C) ∧ Same (fun b => b = g) w W2) := ⟨by simpa only [List.append_assoc] using o1, HO1.out.2.trans' s1⟩
                clear o1 s1 HX HO1
                have hE := HLN.out
                have HO3 : Hid (Own (en enc) k 30 base W2 (.slice (some ⟨g, 0, none⟩) N cap) (A ++ srt ltN (L ++ R) ++ C) ∧ Same (fun b => b = g) w W2) := by
                  refine ⟨?_, HO2.out.2⟩
                  have h8 := HO2.out.1
                  have e8 : srt ltN (L2 ++ R2) = L2 ++ R2 := by rw [show R2 = [] from List.eq_nil_of_length_eq_zero (by omega), srt_nil_r HST.out.2.1, List.append_nil]
                  rw [← HJH.out, e8]
                  simpa only [List.append_assoc] using h8
                clear hE HO2
                go_wp2_with fail
                all_goals (go_end0; have h9 := HO3.out; exact ⟨rfl, by simpa only [List.append_assoc] using h9⟩)
            · skip
              by_cases h_4 : e < b
              · skip
                have q1 : (r : Int) < (m : Int) := by have := HLN.out; have := EA.out; omega
                have q1b : decide ((r : Int) < (m : Int)) = true := decide_eq_true q1
                have q2 : (m : Int) < (e : Int) := by have := HLN.out; have := EA.out; omega
                have q2b : decide ((m : Int) < (e : Int)) = true := decide_eq_true q2
                have q3 : ¬ (a : Int) < (r : Int) := by have := HLN.out; have := EA.out; omega
                have q3b : decide ((a : Int) < (r : Int)) = false := decide_eq_false q3
                have q4 : (r : Int) < (mid : Int) := by have := HLN.out; have := EA.out; omega
                have q4b : decide ((r : Int) < (mid : Int)) = true := decide_eq_true q4
                have q5 : (mid : Int) < (e : Int) := by have := HLN.out; have := EA.out; omega
                have q5b : decide ((mid : Int) < (e : Int)) = true := decide_eq_true q5
                have q6 : (e : Int) < (b : Int) := by have := HLN.out; have := EA.out; omega
                have q6b : decide ((e : Int) < (b : Int)) = true := decide_eq_true q6
                have hE := HLN.out
                have HX : Hid _ := HROT.out WL (A ++ L1) L2 R1 (R2 ++ C) HFU.out (by omega) (by omega)
                rw [show (A ++ L1).length = r by rw [List.length_append]; have := EA.out; omega, show r + L2.length = m by omega, show m + R1.length = e by omega] at HX
                clear hE
                go_wp2_with fail
                refine Calls.mono HX.out ?_
                rintro rr W1 ⟨rfl, o1, s1⟩
                have HO1 : Hid (Own (en enc) k 30 base W1 (.slice (some ⟨g, 0, none⟩) N cap) (A ++ L1 ++ R1 ++ (L2 ++ R2 ++ C)) ∧ Same (fun b => b = g) w W1) := ⟨by simpa only [List.append_assoc] using o1, HSM.out.trans' s1⟩
                clear o1 s1 HX HFU HSM
                have hE := HLN.out
                have HO2 : Hid (Own (en enc) k 30 base W1 (.slice (some ⟨g, 0, none⟩) N cap) ((A ++ srt ltN (L1 ++ R1)) ++ L2 ++ R2 ++ C) ∧ Same (fun b => b = g) w W1) := by
                  refine ⟨?_, HO1.out.2⟩
                  have h8 := HO1.out.1
                  have e8 : srt ltN (L1 ++ R1) = L1 ++ R1 := by rw [show L1 = [] from List.eq_nil_of_length_eq_zero (by omega), srt_nil_l HST.out.2.2.1]; rfl
                  rw [e8]
                  simpa only [List.append_assoc] using h8
                clear hE HO1
                have hE := HLN.out
                have HX : Hid _ := HIH.out W1 (A ++ srt ltN (L1 ++ R1)) L2 R2 C (by have := EA.out; omega) HO2.out.1 HST.out.2.1 HST.out.2.2.2.1 HN2.out HST.out.2.2.2.2.2 (by omega) (by omega)
                rw [show (A ++ srt ltN (L1 ++ R1)).length = mid by rw [List.length_append, srt_len, List.length_append]; have := EA.out; omega, show mid + L2.length = e by omega, show e + R2.length = b by omega] at HX
                clear hE
                go_wp2_with fail
                refine Calls.mono HX.out ?_
                rintro rr W3 ⟨rfl, o1, s1⟩
                have HO3 : Hid (Own (en enc) k 30 base W3 (.slice (some ⟨g, 0, none⟩) N cap) (A ++ srt ltN (L ++ R) ++ C) ∧ Same (fun b => b = g) w W3) := ⟨by rw [← HJH.out]; simpa only [List.append_assoc] using o1, HO2.out.2.trans' s1⟩
                clear o1 s1 HX HO2
                go_wp2_with fail
                all_goals (go_end0; have h9 := HO3.out; exact ⟨rfl, by simpa only [List.append_assoc] using h9⟩)
              · skip
                have q1 : (r : Int) < (m : Int) := by have := HLN.out; have := EA.out; omega
                have q1b : decide ((r : Int) < (m : Int)) = true := decide_eq_true q1
                have q2 : (m : Int) < (e : Int) := by have := HLN.out; have := EA.out; omega
                have q2b : decide ((m : Int) < (e : Int)) = true := decide_eq_true q2
                have q3 : ¬ (a : Int) < (r : Int) := by have := HLN.out; have := EA.out; omega
                have q3b : decide ((a : Int) < (r : Int)) = false := decide_eq_false q3
                have q4 : (r : Int) < (mid : Int) := by have := HLN.out; have := EA.out; omega
                have q4b : decide ((r : Int) < (mid : Int)) = true := decide_eq_true q4
                have q5 : (mid : Int) < (e : Int) := by have := HLN.out; have := EA.out; omega
                have q5b : decide ((mid : Int) < (e : Int)) = true := decide_eq_true q5
                have q6 : ¬ (e : Int) < (b : Int) := by have := HLN.out; have := EA.out; omega
                have q6b : decide ((e : Int) < (b : Int)) = false := decide_eq_false q6
                have hE := HLN.out
                have HX : Hid _ := HROT.out WL (A ++ L1) L2 R1 (R2 ++ C) HFU.out (by omega) (by omega)
                rw [show (A ++ L1).length = r by rw [List.length_append]; have := EA.out; omega, show r + L2.length = m by omega, show m + R1.length = e by omega] at HX
                clear hE
                go_wp2_with fail
                refine Calls.mono HX.out ?_
                rintro rr W1 ⟨rfl, o1, s1⟩
                have HO1 : Hid (Own (en enc) k 30 base W1 (.slice (some ⟨g, 0, none⟩) N cap) (A ++ L1 ++ R1 ++ (L2 ++ R2 ++ C)) ∧ Same (fun b => b = g) w W1) := ⟨by simpa only [List.append_assoc] using o1, HSM.out.trans' s1⟩
                clear o1 s1 HX HFU HSM
                have hE := HLN.out
                have HO2 : Hid (Own (en enc) k 30 base W1 (.slice (some ⟨g, 0, none⟩) N cap) ((A ++ srt ltN (L1 ++ R1)) ++ L2 ++ R2 ++ C) ∧ Same (fun b => b = g) w W1) := by
                  refine ⟨?_, HO1.out.2⟩
                  have h8 := HO1.out.1
                  have e8 : srt ltN (L1 ++ R1) = L1 ++ R1 := by rw [show L1 = [] from List.eq_nil_of_length_eq_zero (by omega), srt_nil_l HST.out.2.2.1]; rfl
                  rw [e8]
                  simpa only [List.append_assoc] using h8
                clear hE HO1
                have hE := HLN.out
                have HO3 : Hid (Own (en enc) k 30 base W1 (.slice (some ⟨g, 0, none⟩) N cap) (A ++ srt ltN (L ++ R) ++ C) ∧ Same (fun b => b = g) w W1) := by
                  refine ⟨?_, HO2.out.2⟩
                  have h8 := HO2.out.1
                  have e8 : srt ltN (L2 ++ R2) = L2 ++ R2 := by rw [show R2 = [] from List.eq_nil_of_length_eq_zero (by omega), srt_nil_r HST.out.2.1, List.append_nil]
                  rw [← HJH.out, e8]
                  simpa only [List.append_assoc] using h8
                clear hE HO2
                go_wp2_with fail
                all_goals (go_end0; have h9 := HO3.out; exact ⟨rfl, by simpa only [List.append_assoc] using h9⟩)
          · skip
            by_cases h_3 : a < r
            · skip
              by_cases h_4 : e < b
              · skip
                have q1 : (r : Int) < (m : Int) := by have := HLN.out; have := EA.out; omega
                have q1b : decide ((r : Int) < (m : Int)) = true := decide_eq_true q1
                have q2 : ¬ (m : Int) < (e : Int) := by have := HLN.out; have := EA.out; omega
                have q2b : decide ((m : Int) < (e : Int)) = false := decide_eq_false q2
                have q3 : (a : Int) < (r : Int) := by have := HLN.out; have := EA.out; omega
                have q3b : decide ((a : Int) < (r : Int)) = true := decide_eq_true q3
                have q4 : ¬ (r : Int) < (mid : Int) := by have := HLN.out; have := EA.out; omega
                have q4b : decide ((r : Int) < (mid : Int)) = false := decide_eq_false q4
                have q5 : (mid : Int) < (e : Int) := by have := HLN.out; have := EA.out; omega
                have q5b : decide ((mid : Int) < (e : Int)) = true := decide_eq_true q5
                have q6 : (e : Int) < (b : Int) := by have := HLN.out; have := EA.out; omega
                have q6b : decide ((e : Int) < (b : Int)) = true := decide_eq_true q6
                have hE := HLN.out
                have HO1 : Hid (Own (en enc) k 30 base WL (.slice (some ⟨g, 0, none⟩) N cap) (A ++ L1 ++ R1 ++ (L2 ++ R2 ++ C)) ∧ Same (fun b => b = g) w WL) := by
                  refine ⟨?_, HSM.out⟩
                  have h8 := HFU.out
                  rw [show R1 = [] from List.eq_nil_of_length_eq_zero (by omega)] at h8 ⊢
                  simpa only [List.append_assoc, List.append_nil, List.nil_append] using h8
                clear hE HFU HSM
                have hE := HLN.out
                have HO2 : Hid (Own (en enc) k 30 base WL (.slice (some ⟨g, 0, none⟩) N cap) ((A ++ srt ltN (L1 ++ R1)) ++ L2 ++ R2 ++ C) ∧ Same (fun b => b = g) w WL) := by
                  refine ⟨?_, HO1.out.2⟩
                  have h8 := HO1.out.1
                  have e8 : srt ltN (L1 ++ R1) = L1 ++ R1 := by rw [show R1 = [] from List.eq_nil_of_length_eq_zero (by omega), srt_nil_r HST.out.1, List.append_nil]
                  rw [e8]
                  simpa only [List.append_assoc] using h8
                clear hE HO1
                have hE := HLN.out
                have HX : Hid _ := HIH.out WL (A ++ srt ltN (L1 ++ R1)) L2 R2 C (by have := EA.out; omega) HO2.out.1 HST.out.2.1 HST.out.2.2.2.1 HN2.out HST.out.2.2.2.2.2 (by omega) (by omega)
                rw [show (A ++ srt ltN (L1 ++ R1)).length = mid by rw [List.length_append, srt_len, List.length_append]; have := EA.out; omega, show mid + L2.length = e by omega, show e + R2.length = b by omega] at HX
                clear hE
                go_wp2_with fail
                refine Calls.mono HX.out ?_
                rintro rr W3 ⟨rfl, o1, s1⟩
                have HO3 : Hid (Own (en enc) k 30 base W3 (.slice (some ⟨g, 0, none⟩) N cap) (A ++ srt ltN (L ++ R) ++ C) ∧ Same (fun b => b = g) w W3) := ⟨by rw [← HJH.out]; simpa only [List.append_assoc] using o1, HO2.out.2.trans' s1⟩
                clear o1 s1 HX HO2
                go_wp2_with fail
                all_goals (go_end0; have h9 := HO3.out; exact ⟨rfl, by simpa only [List.append_assoc] using h9⟩)
              · skip
                have q1 : (r : Int) < (m : Int) := by have := HLN.out; have := EA.out; omega
                have q1b : decide ((r : Int) < (m : Int)) = true := decide_eq_true q1
                have q2 : ¬ (m : Int) < (e : Int) := by have := HLN.out; have := EA.out; omega
                have q2b : decide ((m : Int) < (e : Int)) = false := decide_eq_false q2
                have q3 : (a : Int) < (r : Int) := by have := HLN.out; have := EA.out; omega
                have q3b : decide ((a : Int) < (r : Int)) = true := decide_eq_true q3
                have q4 : ¬ (r : Int) < (mid : Int) := by have := HLN.out; have := EA.out; omega
                have q4b : decide ((r : Int) < (mid : Int)) = false := decide_eq_false q4
                have q5 : (mid : Int) < (e : Int) := by have := HLN.out; have := EA.out; omega
                have q5b : decide ((mid : Int) < (e : Int)) = true := decide_eq_true q5
                have q6 : ¬ (e : Int) < (b : Int) := by have := HLN.out; have := EA.out; omega
                have q6b : decide ((e : Int) < (b : Int)) = false := decide_eq_false q6
                have hE := HLN.out
                have HO1 : Hid (Own (en enc) k 30 base WL (.slice (some ⟨g, 0, none⟩) N cap) (A ++ L1 ++ R1 ++ (L2 ++ R2 ++ C)) ∧ Same (fun b => b = g) w WL) := by
                  refine ⟨?_, HSM.out⟩
                  have h8 := HFU.out
                  rw [show R1 = [] from List.eq_nil_of_length_eq_zero (by omega)] at h8 ⊢
                  simpa only [List.append_assoc, List.append_nil, List.nil_append] using h8
                clear hE HFU HSM
                have hE := HLN.out
                have HO2 : Hid (Own (en enc) k 30 base WL (.slice (some ⟨g, 0, none⟩) N cap) ((A ++ srt ltN (L1 ++ R1)) ++ L2 ++ R2 ++ C) ∧ Same (fun b => b = g) w WL) := by
                  refine ⟨?_, HO1.out.2⟩
                  have h8 := HO1.out.1
                  have e8 : srt ltN (L1 ++ R1) = L1 ++ R1 := by rw [show R1 = [] from List.eq_nil_of_length_eq_zero (by omega), srt_nil_r HST.out.1, List.append_nil]
                  rw [e8]
                  simpa only [List.append_assoc] using h8
                clear hE HO1
                have hE := HLN.out
                have HO3 : Hid (Own (en enc) k 30 base WL (.slice (some ⟨g, 0, none⟩) N cap) (A ++ srt ltN (L ++ R) ++ C) ∧ Same (fun b => b = g) w WL) := by
                  refine ⟨?_, HO2.out.2⟩
                  have h8 := HO2.out.1
                  have e8 : srt ltN (L2 ++ R2) = L2 ++ R2 := by rw [show R2 = [] from List.eq_nil_of_length_eq_zero (by omega), srt_nil_r HST.out.2.1, List.append_nil]
                  rw [← HJH.out, e8]
                  simpa only [List.append_assoc] using h8
                clear hE HO2
                go_wp2_with fail
                all_goals (go_end0; have h9 := HO3.out; exact ⟨rfl, by simpa only [List.append_assoc] using h9⟩)
            · skip
              by_cases h_4 : e < b
              · skip
                have q1 : (r : Int) < (m : Int) := by have := HLN.out; have := EA.out; omega
                have q1b : decide ((r : Int) < (m : Int)) = true := decide_eq_true q1
                have q2 : ¬ (m : Int) < (e : Int) := by have := HLN.out; have := EA.out; omega
                have q2b : decide ((m : Int) < (e : Int)) = false := decide_eq_false q2
                have q3 : ¬ (a : Int) < (r : Int) := by have := HLN.out; have := EA.out; omega
                have q3b : decide ((a : Int) < (r : Int)) = false := decide_eq_false q3
                have q4 : ¬ (r : Int) < (mid : Int) := by have := HLN.out; have := EA.out; omega
                have q4b : decide ((r : Int) < (mid : Int)) = false := decide_eq_false q4
                have q5 : (mid : Int) < (e : Int) := by have := HLN.out; have := EA.out; omega
                have q5b : decide ((mid : Int) < (e : Int)) = true := decide_eq_true q5
                have q6 : (e : Int) < (b : Int) := by have := HLN.out; have := EA.out; omega
                have q6b : decide ((e : Int) < (b : Int)) = true := decide_eq_true q6
                have hE := HLN.out
                have HO1 : Hid (Own (en enc) k 30 base WL (.slice (some ⟨g, 0, none⟩) N cap) (A ++ L1 ++ R1 ++ (L2 ++ R2 ++ C)) ∧ Same (fun b => b = g) w WL) := by
                  refine ⟨?_, HSM.out⟩
                  have h8 := HFU.out
                  rw [show R1 = [] from List.eq_nil_of_length_eq_zero (by omega)] at h8 ⊢
                  simpa only [List.append_assoc, List.append_nil, List.nil_append] using h8
                clear hE HFU HSM
                have hE := HLN.out
                have HO2 : Hid (Own (en enc) k 30 base WL (.slice (some ⟨g, 0, none⟩) N cap) ((A ++ srt ltN (L1 ++ R1)) ++ L2 ++ R2 ++ C) ∧ Same (fun b => b = g) w WL) := by
                  refine ⟨?_, HO1.out.2⟩
                  have h8 := HO1.out.1
                  have e8 : srt ltN (L1 ++ R1) = L1 ++ R1 := by rw [show L1 = [] from List.eq_nil_of_length_eq_zero (by omega), srt_nil_l HST.out.2.2.1]; rfl
                  rw [e8]
                  simpa only [List.append_assoc] using h8
                clear hE HO1
                have hE := HLN.out
                have HX : Hid _ := HIH.out WL (A ++ srt ltN (L1 ++ R1)) L2 R2 C (by have := EA.out; omega) HO2.out.1 HST.out.2.1 HST.out.2.2.2.1 HN2.out HST.out.2.2.2.2.2 (by omega) (by omega)
                rw [show (A ++ srt ltN (L1 ++ R1)).length = mid by rw [List.length_append, srt_len, List.length_append]; have := EA.out; omega, show mid + L2.length = e by omega, show e + R2.length = b by omega] at HX
                clear hE
                go_wp2_with fail
                refine Calls.mono HX.out ?_
                rintro rr W3 ⟨rfl, o1, s1⟩
                have HO3 : Hid (Own (en enc) k 30 base W3 (.slice (some ⟨g, 0, none⟩) N cap) (A ++ srt ltN (L ++ R) ++ C) ∧ Same (fun b => b = g) w W3) := ⟨by rw [← HJH.out]; simpa only [List.append_assoc] using o1, HO2.out.2.trans' s1⟩
                clear o1 s1 HX HO2
                go_wp2_with fail
                all_goals (go_end0; have h9 := HO3.out; exact ⟨rfl, by simpa only [List.append_assoc] using h9⟩)
              · skip
                have q1 : (r : Int) < (m : Int) := by have := HLN.out; have := EA.out; omega
                have q1b : decide ((r : Int) < (m : Int)) = true := decide_eq_true q1
                have q2 : ¬ (m : Int) < (e : Int) := by have := HLN.out; have := EA.out; omega
                have q2b : decide ((m : Int) < (e : Int)) = false := decide_eq_false q2
                have q3 : ¬ (a : Int) < (r : Int) := by have := HLN.out; have := EA.out; omega
                have q3b : decide ((a : Int) < (r : Int)) = false := decide_eq_false q3
                have q4 : ¬ (r : Int) < (mid : Int) := by have := HLN.out; have := EA.out; omega
                have q4b : decide ((r : Int) < (mid : Int)) = false := decide_eq_false q4
                have q5 : (mid : Int) < (e : Int) := by have := HLN.out; have := EA.out; omega
                have q5b : decide ((mid : Int) < (e : Int)) = true := decide_eq_true q5
                have q6 : ¬ (e : Int) < (b : Int) := by have := HLN.out; have := EA.out; omega
                have q6b : decide ((e : Int) < (b : Int)) = false := decide_eq_false q6
                have hE := HLN.out
                have HO1 : Hid (Own (en enc) k 30 base WL (.slice (some ⟨g, 0, none⟩) N cap) (A ++ L1 ++ R1 ++ (L2 ++ R2 ++ C)) ∧ Same (fun b => b = g) w WL) := by
                  refine ⟨?_, HSM.out⟩
                  have h8 := HFU.out
                  rw [show R1 = [] from List.eq_nil_of_length_eq_zero (by omega)] at h8 ⊢
                  simpa only [List.append_assoc, List.append_nil, List.nil_append] using h8
                clear hE HFU HSM
                have hE := HLN.out
                have HO2 : Hid (Own (en enc) k 30 base WL (.slice (some ⟨g, 0, none⟩) N cap) ((A ++ srt ltN (L1 ++ R1)) ++ L2 ++ R2 ++ C) ∧ Same (fun b => b = g) w WL) := by
                  refine ⟨?_, HO1.out.2⟩
                  have h8 := HO1.out.1
                  have e8 : srt ltN (L1 ++ R1) = L1 ++ R1 := by rw [show L1 = [] from List.eq_nil_of_length_eq_zero (by omega), srt_nil_l HST.out.2.2.1]; rfl
                  rw [e8]
                  simpa only [List.append_assoc] using h8
                clear hE HO1
                have hE := HLN.out
                have HO3 : Hid (Own (en enc) k 30 base WL (.slice (some ⟨g, 0, none⟩) N cap) (A ++ srt ltN (L ++ R) ++ C) ∧ Same (fun b => b = g) w WL) := by
                  refine ⟨?_, HO2.out.2⟩
                  have h8 := HO2.out.1
                  have e8 : srt ltN (L2 ++ R2) = L2 ++ R2 := by rw [show R2 = [] from List.eq_nil_of_length_eq_zero (by omega), srt_nil_r HST.out.2.1, List.append_nil]
                  rw [← HJH.out, e8]
                  simpa only [List.append_assoc] using h8
                clear hE HO2
                go_wp2_with fail
                all_goals (go_end0; have h9 := HO3.out; exact ⟨rfl, by simpa only [List.append_assoc] using h9⟩)
        · skip
          by_cases h_2 : m < e
          · skip
            by_cases h_3 : a < r
            · skip
              by_cases h_4 : e < b
              · skip
                have q1 : ¬ (r : Int) < (m : Int) := by have := HLN.out; have := EA.out; omega
                have q1b : decide ((r : Int) < (m : Int)) = false := decide_eq_false q1
                have q2 : (m : Int) < (e : Int) := by have := HLN.out; have := EA.out; omega
                have q2b : decide ((m : Int) < (e : Int)) = true := decide_eq_true q2
                have q3 : (a : Int) < (r : Int) := by have := HLN.out; have := EA.out; omega
                have q3b : decide ((a : Int) < (r : Int)) = true := decide_eq_true q3
                have q4 : (r : Int) < (mid : Int) := by have := HLN.out; have := EA.out; omega
                have q4b : decide ((r : Int) < (mid : Int)) = true := decide_eq_true q4
                have q5 : ¬ (mid : Int) < (e : Int) := by have := HLN.out; have := EA.out; omega
                have q5b : decide ((mid : Int) < (e : Int)) = false := decide_eq_false q5
                have q6 : (e : Int) < (b : Int) := by have := HLN.out; have := EA.out; omega
                have q6b : decide ((e : Int) < (b : Int)) = true := decide_eq_true q6
                have hE := HLN.out
                have HO1 : Hid (Own (en enc) k 30 base WL (.slice (some ⟨g, 0, none⟩) N cap) (A ++ L1 ++ R1 ++ (L2 ++ R2 ++ C)) ∧ Same (fun b => b = g) w WL) := by
                  refine ⟨?_, HSM.out⟩
                  have h8 := HFU.out
                  rw [show L2 = [] from List.eq_nil_of_length_eq_zero (by omega)] at h8 ⊢
                  simpa only [List.append_assoc, List.append_nil, List.nil_append] using h8
                clear hE HFU HSM
                have hE := HLN.out
                have HX : Hid _ := HIH.out WL A L1 R1 (L2 ++ R2 ++ C) (by have := EA.out; omega) HO1.out.1 HST.out.1 HST.out.2.2.1 HN1.out HST.out.2.2.2.2.1 (by omega) (by omega)
                rw [show A.length = a by have := EA.out; omega, show a + L1.length = r by omega, show r + R1.length = mid by omega] at HX
                clear hE
                go_wp2_with fail
                refine Calls.mono HX.out ?_
                rintro rr W2 ⟨rfl, o1, s1⟩
                have HO2 : Hid (Own (en enc) k 30 base W2 (.slice (some ⟨g, 0, none⟩) N cap) ((A ++ srt ltN (L1 ++ R1)) ++ L2 ++ R2 ++ C) ∧ Same (fun b => b = g) w W2) := ⟨by simpa only [List.append_assoc] using o1, HO1.out.2.trans' s1⟩
                clear o1 s1 HX HO1
                have hE := HLN.out
                have HO3 : Hid (Own (en enc) k 30 base W2 (.slice (some ⟨g, 0, none⟩) N cap) (A ++ srt ltN (L ++ R) ++ C) ∧ Same (fun b => b = g) w W2) := by
                  refine ⟨?_, HO2.out.2⟩
                  have h8 := HO2.out.1
                  have e8 : srt ltN (L2 ++ R2) = L2 ++ R2 := by rw [show L2 = [] from List.eq_nil_of_length_eq_zero (by omega), srt_nil_l HST.out.2.2.2.1]; rfl
                  rw [← HJH.out, e8]
                  simpa only [List.append_assoc] using h8
                clear hE HO2
                go_wp2_with fail
                all_goals (go_end0; have h9 := HO3.out; exact ⟨rfl, by simpa only [List.append_assoc] using h9⟩)
              · skip
                have q1 : ¬ (r : Int) < (m : Int) := by have := HLN.out; have := EA.out; omega
                have q1b : decide ((r : Int) < (m : Int)) = false := decide_eq_false q1
                have q2 : (m : Int) < (e : Int) := by have := HLN.out; have := EA.out; omega
                have q2b : decide ((m : Int) < (e : Int)) = true := decide_eq_true q2
                have q3 : (a : Int) < (r : Int) := by have := HLN.out; have := EA.out; omega
                have q3b : decide ((a : Int) < (r : Int)) = true := decide_eq_true q3
                have q4 : (r : Int) < (mid : Int) := by have := HLN.out; have := EA.out; omega
                have q4b : decide ((r : Int) < (mid : Int)) = true := decide_eq_true q4
                have q5 : ¬ (mid : Int) < (e : Int) := by have := HLN.out; have := EA.out; omega
                have q5b : decide ((mid : Int) < (e : Int)) = false := decide_eq_false q5
                have q6 : ¬ (e : Int) < (b : Int) := by have := HLN.out; have := EA.out; omega
                have q6b : decide ((e : Int) < (b : Int)) = false := decide_eq_false q6
                have hE := HLN.out
                have HO1 : Hid (Own (en enc) k 30 base WL (.slice (some ⟨g, 0, none⟩) N cap) (A ++ L1 ++ R1 ++ (L2 ++ R2 ++ C)) ∧ Same (fun b => b = g) w WL) := by
                  refine ⟨?_, HSM.out⟩
                  have h8 := HFU.out
                  rw [show L2 = [] from List.eq_nil_of_length_eq_zero (by omega)] at h8 ⊢
                  simpa only [List.append_assoc, List.append_nil, List.nil_append] using h8
                clear hE HFU HSM
                have hE := HLN.out
                have HX : Hid _ := HIH.out WL A L1 R1 (L2 ++ R2 ++ C) (by have := EA.out; omega) HO1.out.1 HST.out.1 HST.out.2.2.1 HN1.out HST.out.2.2.2.2.1 (by omega) (by omega)
                rw [show A.length = a by have := EA.out; omega, show a + L1.length = r by omega, show r + R1.length = mid by omega] at HX
                clear hE
                go_wp2_with fail
                refine Calls.mono HX.out ?_
                rintro rr W2 ⟨rfl, o1, s1⟩
                have HO2 : Hid (Own (en enc) k 30 base W2 (.slice (some ⟨g, 0, none⟩) N cap) ((A ++ srt ltN (L1 ++ R1)) ++ L2 ++ R2 ++ C) ∧ Same (fun b => b = g) w W2) := ⟨by simpa only [List.append_assoc] using o1, HO1.out.2.trans' s1⟩
                clear o1 s1 HX HO1
                have hE := HLN.out
                have HO3 : Hid (Own (en enc) k 30 base W2 (.slice (some ⟨g, 0, none⟩) N cap) (A ++ srt ltN (L ++ R) ++ C) ∧ Same (fun b => b = g) w W2) := by
                  refine ⟨?_, HO2.out.2⟩
                  have h8 := HO2.out.1
                  have e8 : srt ltN (L2 ++ R2) = L2 ++ R2 := by rw [show L2 = [] from List.eq_nil_of_length_eq_zero (by omega), srt_nil_l HST.out.2.2.2.1]; rfl
                  rw [← HJH.out, e8]
                  simpa only [List.append_assoc] using h8
                clear hE HO2
                go_wp2_with fail
                all_goals (go_end0; have h9 := HO3.out; exact ⟨rfl, by simpa only [List.append_assoc] using h9⟩)
            · skip
              by_cases h_4 : e < b
              · skip
                have q1 : ¬ (r : Int) < (m : Int) := by have := HLN.out; have := EA.out; omega
                have q1b : decide ((r : Int) < (m : Int)) = false := decide_eq_false q1
                have q2 : (m : Int) < (e : Int) := by have := HLN.out; have := EA.out; omega
                have q2b : decide ((m : Int) < (e : Int)) = true := decide_eq_true q2
                have q3 : ¬ (a : Int) < (r : Int) := by have := HLN.out; have := EA.out; omega
                have q3b : decide ((a : Int) < (r : Int)) = false := decide_eq_false q3
                have q4 : (r : Int) < (mid : Int) := by have := HLN.out; have := EA.out; omega
                have q4b : decide ((r : Int) < (mid : Int)) = true := decide_eq_true q4
                have q5 : ¬ (mid : Int) < (e : Int) := by have := HLN.out; have := EA.out; omega
                have q5b : decide ((mid : Int) < (e : Int)) = false := decide_eq_false q5
                have q6 : (e : Int) < (b : Int) := by have := HLN.out; have := EA.out; omega
                have q6b : decide ((e : Int) < (b : Int)) = true := decide_eq_true q6
                have hE := HLN.out
                have HO1 : Hid (Own (en enc) k 30 base WL (.slice (some ⟨g, 0, none⟩) N cap) (A ++ L1 ++ R1 ++ (L2 ++ R2 ++ C)) ∧ Same (fun b => b = g) w WL) := by
                  refine ⟨?_, HSM.out⟩
                  have h8 := HFU.out
                  rw [show L2 = [] from List.eq_nil_of_length_eq_zero (by omega)] at h8 ⊢
                  simpa only [List.append_assoc, List.append_nil, List.nil_append] using h8
                clear hE HFU HSM
                have hE := HLN.out
                have HO2 : Hid (Own (en enc) k 30 base WL (.slice (some ⟨g, 0, none⟩) N cap) ((A ++ srt ltN (L1 ++ R1)) ++ L2 ++ R2 ++ C) ∧ Same (fun b => b = g) w WL) := by
                  refine ⟨?_, HO1.out.2⟩
                  have h8 := HO1.out.1
                  have e8 : srt ltN (L1 ++ R1) = L1 ++ R1 := by rw [show L1 = [] from List.eq_nil_of_length_eq_zero (by omega), srt_nil_l HST.out.2.2.1]; rfl
                  rw [e8]
                  simpa only [List.append_assoc] using h8
                clear hE HO1
                have hE := HLN.out
                have HO3 : Hid (Own (en enc) k 30 base WL (.slice (some ⟨g, 0, none⟩) N cap) (A ++ srt ltN (L ++ R) ++ C) ∧ Same (fun b => b = g) w WL) := by
                  refine ⟨?_, HO2.out.2⟩
                  have h8 := HO2.out.1
                  have e8 : srt ltN (L2 ++ R2) = L2 ++ R2 := by rw [show L2 = [] from List.eq_nil_of_length_eq_zero (by omega), srt_nil_l HST.out.2.2.2.1]; rfl
                  rw [← HJH.out, e8]
                  simpa only [List.append_assoc] using h8
                clear hE HO2
                go_wp2_with fail
                all_goals (go_end0; have h9 := HO3.out; exact ⟨rfl, by simpa only [List.append_assoc] using h9⟩)
              · skip
                have q1 : ¬ (r : Int) < (m : Int) := by have := HLN.out; have := EA.out; omega
                have q1b : decide ((r : Int) < (m : Int)) = false := decide_eq_false q1
                have q2 : (m : Int) < (e : Int) := by have := HLN.out; have := EA.out; omega
                have q2b : decide ((m : Int) < (e : Int)) = true := decide_eq_true q2
                have q3 : ¬ (a : Int) < (r : Int) := by have := HLN.out; have := EA.out; omega
                have q3b : decide ((a : Int) < (r : Int)) = false := decide_eq_false q3
                have q4 : (r : Int) < (mid : Int) := by have := HLN.out; have := EA.out; omega
                have q4b : decide ((r : Int) < (mid : Int)) = true := decide_eq_true q4
                have q5 : ¬ (mid : Int) < (e : Int) := by have := HLN.out; have := EA.out; omega
                have q5b : decide ((mid : Int) < (e : Int)) = false := decide_eq_false q5
                have q6 : ¬ (e : Int) < (b : Int) := by have := HLN.out; have := EA.out; omega
                have q6b : decide ((e : Int) < (b : Int)) = false := decide_eq_false q6
                have hE := HLN.out
                have HO1 : Hid (Own (en enc) k 30 base WL (.slice (some ⟨g, 0, none⟩) N cap) (A ++ L1 ++ R1 ++ (L2 ++ R2 ++ C)) ∧ Same (fun b => b = g) w WL) := by
                  refine ⟨?_, HSM.out⟩
                  have h8 := HFU.out
                  rw [show L2 = [] from List.eq_nil_of_length_eq_zero (by omega)] at h8 ⊢
                  simpa only [List.append_assoc, List.append_nil, List.nil_append] using h8
                clear hE HFU HSM
                have hE := HLN.out
                have HO2 : Hid (Own (en enc) k 30 base WL (.slice (some ⟨g, 0, none⟩) N cap) ((A ++ srt ltN (L1 ++ R1)) ++ L2 ++ R2 ++ C) ∧ Same (fun b => b = g) w WL) := by
                  refine ⟨?_, HO1.out.2⟩
                  have h8 := HO1.out.1
                  have e8 : srt ltN (L1 ++ R1) = L1 ++ R1 := by rw [show L1 = [] from List.eq_nil_of_length_eq_zero (by omega), srt_nil_l HST.out.2.2.1]; rfl
                  rw [e8]
                  simpa only [List.append_assoc] using h8
                clear hE HO1
                have hE := HLN.out
                have HO3 : Hid (Own (en enc) k 30 base WL (.slice (some ⟨g, 0, none⟩) N cap) (A ++ srt ltN (L ++ R) ++ C) ∧ Same (fun b => b = g) w WL) := by
                  refine ⟨?_, HO2.out.2⟩
                  have h8 := HO2.out.1
                  have e8 : srt ltN (L2 ++ R2) = L2 ++ R2 := by rw [show L2 = [] from List.eq_nil_of_length_eq_zero (by omega), srt_nil_l HST.out.2.2.2.1]; rfl
                  rw [← HJH.out, e8]
                  simpa only [List.append_assoc] using h8
                clear hE HO2
                go_wp2_with fail
                all_goals (go_end0; have h9 := HO3.out; exact ⟨rfl, by simpa only [List.append_assoc] using h9⟩)
          · skip
            by_cases h_3 : a < r
            · skip
              by_cases h_4 : e < b
              · skip
                have q1 : ¬ (r : Int) < (m : Int) := by have := HLN.out; have := EA.out; omega
                have q1b : decide ((r : Int) < (m : Int)) = false := decide_eq_false q1
                have q2 : ¬ (m : Int) < (e : Int) := by have := HLN.out; have := EA.out; omega
                have q2b : decide ((m : Int) < (e : Int)) = false := decide_eq_false q2
                have q3 : (a : Int) < (r : Int) := by have := HLN.out; have := EA.out; omega
                have q3b : decide ((a : Int) < (r : Int)) = true := decide_eq_true q3
                have q4 : ¬ (r : Int) < (mid : Int) := by have := HLN.out; have := EA.out; omega
                have q4b : decide ((r : Int) < (mid : Int)) = false := decide_eq_false q4
                have q5 : ¬ (mid : Int) < (e : Int) := by have := HLN.out; have := EA.out; omega
                have q5b : decide ((mid : Int) < (e : Int)) = false := decide_eq_false q5
                have q6 : (e : Int) < (b : Int) := by have := HLN.out; have := EA.out; omega
                have q6b : decide ((e : Int) < (b : Int)) = true := decide_eq_true q6
                have hE := HLN.out
                have HO1 : Hid (Own (en enc) k 30 base WL (.slice (some ⟨g, 0, none⟩) N cap) (A ++ L1 ++ R1 ++ (L2 ++ R2 ++ C)) ∧ Same (fun b => b = g) w WL) := by
                  refine ⟨?_, HSM.out⟩
                  have h8 := HFU.out
                  rw [show L2 = [] from List.eq_nil_of_length_eq_zero (by omega)] at h8 ⊢
                  simpa only [List.append_assoc, List.append_nil, List.nil_append] using h8
                clear hE HFU HSM
                have hE := HLN.out
                have HO2 : Hid (Own (en enc) k 30 base WL (.slice (some ⟨g, 0, none⟩) N cap) ((A ++ srt ltN (L1 ++ R1)) ++ L2 ++ R2 ++ C) ∧ Same (fun b => b = g) w WL) := by
                  refine ⟨?_, HO1.out.2⟩
                  have h8 := HO1.out.1
                  have e8 : srt ltN (L1 ++ R1) = L1 ++ R1 := by rw [show R1 = [] from List.eq_nil_of_length_eq_zero (by omega), srt_nil_r HST.out.1, List.append_nil]
                  rw [e8]
                  simpa only [List.append_assoc] using h8
                clear hE HO1
                have hE := HLN.out
                have HO3 : Hid (Own (en enc) k 30 base WL (.slice (some ⟨g, 0, none⟩) N cap) (A ++ srt ltN (L ++ R) ++ C) ∧ Same (fun b => b = g) w WL) := by
                  refine ⟨?_, HO2.out.2⟩
                  have h8 := HO2.out.1
                  have e8 : srt ltN (L2 ++ R2) = L2 ++ R2 := by rw [show L2 = [] from List.eq_nil_of_length_eq_zero (by omega), srt_nil_l HST.out.2.2.2.1]; rfl
                  rw [← HJH.out, e8]
                  simpa only [List.append_assoc] using h8
                clear hE HO2
                go_wp2_with fail
                all_goals (go_end0; have h9 := HO3.out; exact ⟨rfl, by simpa only [List.append_assoc] using h9⟩)
              · skip
                have q1 : ¬ (r : Int) < (m : Int) := by have := HLN.out; have := EA.out; omega
                have q1b : decide ((r : Int) < (m : Int)) = false := decide_eq_false q1
                have q2 : ¬ (m : Int) < (e : Int) := by have := HLN.out; have := EA.out; omega
                have q2b : decide ((m : Int) < (e : Int)) = false := decide_eq_false q2
                have q3 : (a : Int) < (r : Int) := by have := HLN.out; have := EA.out; omega
                have q3b : decide ((a : Int) < (r : Int)) = true := decide_eq_true q3
                have q4 : ¬ (r : Int) < (mid : Int) := by have := HLN.out; have := EA.out; omega
                have q4b : decide ((r : Int) < (mid : Int)) = false := decide_eq_false q4
                have q5 : ¬ (mid : Int) < (e : Int) := by have := HLN.out; have := EA.out; omega
                have q5b : decide ((mid : Int) < (e : Int)) = false := decide_eq_false q5
                have q6 : ¬ (e : Int) < (b : Int) := by have := HLN.out; have := EA.out; omega
                have q6b : decide ((e : Int) < (b : Int)) = false := decide_eq_false q6
                have hE := HLN.out
                have HO1 : Hid (Own (en enc) k 30 base WL (.slice (some ⟨g, 0, none⟩) N cap) (A ++ L1 ++ R1 ++ (L2 ++ R2 ++ C)) ∧ Same (fun b => b = g) w WL) := by
                  refine ⟨?_, HSM.out⟩
                  have h8 := HFU.out
                  rw [show L2 = [] from List.eq_nil_of_length_eq_zero (by omega)] at h8 ⊢
                  simpa only [List.append_assoc, List.append_nil, List.nil_append] using h8
                clear hE HFU HSM
                have hE := HLN.out
                have HO2 : Hid (Own (en enc) k 30 base WL (.slice (some ⟨g, 0, none⟩) N cap) ((A ++ srt ltN (L1 ++ R1)) ++ L2 ++ R2 ++ C) ∧ Same (fun b => b = g) w WL) := by
                  refine ⟨?_, HO1.out.2⟩
                  have h8 := HO1.out.1
                  have e8 : srt ltN (L1 ++ R1) = L1 ++ R1 := by rw [show R1 = [] from List.eq_nil_of_length_eq_zero (by omega), srt_nil_r HST.out.1, List.append_nil]
                  rw [e8]
                  simpa only [List.append_assoc] using h8
                clear hE HO1
                have hE := HLN.out
                have HO3 : Hid (Own (en enc) k 30 base WL (.slice (some ⟨g, 0, none⟩) N cap) (A ++ srt ltN (L ++ R) ++ C) ∧ Same (fun b => b = g) w WL) := by
                  refine ⟨?_, HO2.out.2⟩
                  have h8 := HO2.out.1
                  have e8 : srt ltN (L2 ++ R2) = L2 ++ R2 := by rw [show L2 = [] from List.eq_nil_of_length_eq_zero (by omega), srt_nil_l HST.out.2.2.2.1]; rfl
                  rw [← HJH.out, e8]
                  simpa only [List.append_assoc] using h8
                clear hE HO2
                go_wp2_with fail
                all_goals (go_end0; have h9 := HO3.out; exact ⟨rfl, by simpa only [List.append_assoc] using h9⟩)
            · skip
              by_cases h_4 : e < b
              · skip
                have q1 : ¬ (r : Int) < (m : Int) := by have := HLN.out; have := EA.out; omega
                have q1b : decide ((r : Int) < (m : Int)) = false := decide_eq_false q1
                have q2 : ¬ (m : Int) < (e : Int) := by have := HLN.out; have := EA.out; omega
                have q2b : decide ((m : Int) < (e : Int)) = false := decide_eq_false q2
                have q3 : ¬ (a : Int) < (r : Int) := by have := HLN.out; have := EA.out; omega
                have q3b : decide ((a : Int) < (r : Int)) = false := decide_eq_false q3
                have q4 : ¬ (r : Int) < (mid : Int) := by have := HLN.out; have := EA.out; omega
                have q4b : decide ((r : Int) < (mid : Int)) = false := decide_eq_false q4
                have q5 : ¬ (mid : Int) < (e : Int) := by have := HLN.out; have := EA.out; omega
                have q5b : decide ((mid : Int) < (e : Int)) = false := decide_eq_false q5
                have q6 : (e : Int) < (b : Int) := by have := HLN.out; have := EA.out; omega
                have q6b : decide ((e : Int) < (b : Int)) = true := decide_eq_true q6
                have hE := HLN.out
                have HO1 : Hid (Own (en enc) k 30 base WL (.slice (some ⟨g, 0, none⟩) N cap) (A ++ L1 ++ R1 ++ (L2 ++ R2 ++ C)) ∧ Same (fun b => b = g) w WL) := by
                  refine ⟨?_, HSM.out⟩
                  have h8 := HFU.out
                  rw [show L2 = [] from List.eq_nil_of_length_eq_zero (by omega)] at h8 ⊢
                  simpa only [List.append_assoc, List.append_nil, List.nil_append] using h8
                clear hE HFU HSM
                have hE := HLN.out
                have HO2 : Hid (Own (en enc) k 30 base WL (.slice (some ⟨g, 0, none⟩) N cap) ((A ++ srt ltN (L1 ++ R1)) ++ L2 ++ R2 ++ C) ∧ Same (fun b => b = g) w WL) := by
                  refine ⟨?_, HO1.out.2⟩
                  have h8 := HO1.out.1
                  have e8 : srt ltN (L1 ++ R1) = L1 ++ R1 := by rw [show L1 = [] from List.eq_nil_of_length_eq_zero (by omega), srt_nil_l HST.out.2.2.1]; rfl
                  rw [e8]
                  simpa only [List.append_assoc] using h8
                clear hE HO1
                have hE := HLN.out
                have HO3 : Hid (Own (en enc) k 30 base WL (.slice (some ⟨g, 0, none⟩) N cap) (A ++ srt ltN (L ++ R) ++ C) ∧ Same (fun b => b = g) w WL) := by
                  refine ⟨?_, HO2.out.2⟩
                  have h8 := HO2.out.1
                  have e8 : srt ltN (L2 ++ R2) = L2 ++ R2 := by rw [show L2 = [] from List.eq_nil_of_length_eq_zero (by omega), srt_nil_l HST.out.2.2.2.1]; rfl
                  rw [← HJH.out, e8]
                  simpa only [List.append_assoc] using h8
                clear hE HO2
                go_wp2_with fail
                all_goals (go_end0; have h9 := HO3.out; exact ⟨rfl, by simpa only [List.append_assoc] using h9⟩)
              · skip
                have q1 : ¬ (r : Int) < (m : Int) := by have := HLN.out; have := EA.out; omega
                have q1b : decide ((r : Int) < (m : Int)) = false := decide_eq_false q1
                have q2 : ¬ (m : Int) < (e : Int) := by have := HLN.out; have := EA.out; omega
                have q2b : decide ((m : Int) < (e : Int)) = false := decide_eq_false q2
                have q3 : ¬ (a : Int) < (r : Int) := by have := HLN.out; have := EA.out; omega
                have q3b : decide ((a : Int) < (r : Int)) = false := decide_eq_false q3
                have q4 : ¬ (r : Int) < (mid : Int) := by have := HLN.out; have := EA.out; omega
                have q4b : decide ((r : Int) < (mid : Int)) = false := decide_eq_false q4
                have q5 : ¬ (mid : Int) < (e : Int) := by have := HLN.out; have := EA.out; omega
                have q5b : decide ((mid : Int) < (e : Int)) = false := decide_eq_false q5
                have q6 : ¬ (e : Int) < (b : Int) := by have := HLN.out; have := EA.out; omega
                have q6b : decide ((e : Int) < (b : Int)) = false := decide_eq_false q6
                have hE := HLN.out
                have HO1 : Hid (Own (en enc) k 30 base WL (.slice (some ⟨g, 0, none⟩) N cap) (A ++ L1 ++ R1 ++ (L2 ++ R2 ++ C)) ∧ Same (fun b => b = g) w WL) := by
                  refine ⟨?_, HSM.out⟩
                  have h8 := HFU.out
                  rw [show L2 = [] from List.eq_nil_of_length_eq_zero (by omega)] at h8 ⊢
                  simpa only [List.append_assoc, List.append_nil, List.nil_append] using h8
                clear hE HFU HSM
                have hE := HLN.out
                have HO2 : Hid (Own (en enc) k 30 base WL (.slice (some ⟨g, 0, none⟩) N cap) ((A ++ srt ltN (L1 ++ R1)) ++ L2 ++ R2 ++ C) ∧ Same (fun b => b = g) w WL) := by
                  refine ⟨?_, HO1.out.2⟩
                  have h8 := HO1.out.1
                  have e8 : srt ltN (L1 ++ R1) = L1 ++ R1 := by rw [show L1 = [] from List.eq_nil_of_length_eq_zero (by omega), srt_nil_l HST.out.2.2.1]; rfl
                  rw [e8]
                  simpa only [List.append_assoc] using h8
                clear hE HO1
                have hE := HLN.out
                have HO3 : Hid (Own (en enc) k 30 base WL (.slice (some ⟨g, 0, none⟩) N cap) (A ++ srt ltN (L ++ R) ++ C) ∧ Same (fun b => b = g) w WL) := by
                  refine ⟨?_, HO2.out.2⟩
                  have h8 := HO2.out.1
                  have e8 : srt ltN (L2 ++ R2) = L2 ++ R2 := by rw [show L2 = [] from List.eq_nil_of_length_eq_zero (by omega), srt_nil_l HST.out.2.2.2.1]; rfl
                  rw [← HJH.out, e8]
                  simpa only [List.append_assoc] using h8
                clear hE HO2
                go_wp2_with fail
                all_goals (go_end0; have h9 := HO3.out; exact ⟨rfl, by simpa only [List.append_assoc] using h9⟩)
  · have dm : ¬ (mid : Int) < (m : Int) := by omega
    have dmb : decide ((m : Int) > (mid : Int)) = false := decide_eq_false dm
    subst r0
    subst s0
    go_wp2_with fail
    go_loopw [20, 21] (fun u v wr => ∃ s r : Nat, u = .int .i64 (s : Int) ∧ v = .int .i64 (r : Int) ∧ a ≤ s ∧ s ≤ r ∧ r ≤ m ∧ (∀ c x y, a ≤ c → c < s → L[c - a]? = some x → R[n - 1 - c - m]? = some y → ltV y.v x.v = false) ∧ (∀ c x y, r ≤ c → c < m → L[c - a]? = some x → R[n - 1 - c - m]? = some y → ltV y.v x.v = true) ∧ Grw w wr) (fun u v _ => (intOf v).toNat - (intOf u).toNat)
    case atStart => exact ⟨a, m, rfl, rfl, Nat.le_refl _, hs0, Nat.le_refl _, fun c x y h1 h2 => by omega, fun c x y h1 h2 => by omega, Grw.refl _⟩
    case round =>
      obtain ⟨s, r, rfl, rfl, h1, h2, h3, hlo, hhi, gw⟩ := hrel
      rename World => WL
      have HW : Hid (Grw w WL) := gw
      have hb9 := EA.out
      by_cases hij : s < r
      · have d1 : (s : Int) < (r : Int) := by omega
        have d1b : decide ((s : Int) < (r : Int)) = true := decide_eq_true d1
        obtain ⟨c, ec⟩ : ∃ q, q = (s + r) / 2 := ⟨_, rfl⟩
        have hc : ((s : Int) + (r : Int)) / 2 = (c : Int) := by omega
        have hcN : (c : Int) < (N : Int) := by omega
        have hsN : (s : Int) ≤ 1172812402961 := by omega
        have hrN : (r : Int) ≤ 1172812402961 := by omega
        have hc1 : s ≤ c := by omega
        have hc2 : c < r := by omega
        obtain ⟨pc, epc⟩ : ∃ q, q = p - c := ⟨_, rfl⟩
        have hpc : (p : Int) - (c : Int) = (pc : Int) := by omega
        have hpcN : (pc : Int) < (N : Int) := by omega
        have hwpc : IntKind.i64.wrap ((p : Int) - (c : Int)) = (pc : Int) := by rw [IntKind.wrap_i64] <;> omega
        have hwpd : IntKind.i64.wrap (pc : Int) = (pc : Int) := by rw [IntKind.wrap_i64] <;> omega
        obtain ⟨x, hx⟩ : ∃ x, L[c - a]? = some x := ⟨_, List.getElem?_eq_getElem (by omega)⟩
        obtain ⟨y, hy⟩ : ∃ y, R[n - 1 - c - m]? = some y := ⟨_, List.getElem?_eq_getElem (by omega)⟩
        have hpcm : pc - m = n - 1 - c - m := by omega
        have lx := (HO.out.on gw.kept).loadg EE.out (HGX.out c x (by omega) hx) P
        have ly := (HO.out.on gw.kept).loadg EE.out (HGY.out pc y (by omega) (by rw [hpcm]; exact hy)) P
        have hcc := fun W => HC.out y.v x.v W
        have hxy := HNN.out x (List.mem_of_getElem? hx) y (List.mem_of_getElem? hy)
        have HYES : Hid (decide (compV y.v x.v < 0) = true → ∀ c' x' y', c ≤ c' → c' < m → L[c' - a]? = some x' → R[n - 1 - c' - m]? = some y' → ltV y'.v x'.v = true) := fun e c' x' y' h5 h6 h7 h8 => by
          rw [← ltN_back (HNN.out x' (List.mem_of_getElem? h7) y' (List.mem_of_getElem? h8))]
          exact lt_chain (HR.out.at h8 hy (by omega)) (by rw [ltN_back hxy]; exact e) (HL.out.at hx h7 (by omega))
        have HNO : Hid (decide (compV y.v x.v < 0) = false → ∀ c' x' y', a ≤ c' → c' < c + 1 → L[c' - a]? = some x' → R[n - 1 - c' - m]? = some y' → ltV y'.v x'.v = false) := fun e c' x' y' h5 h6 h7 h8 => by
          cases h9 : ltV y'.v x'.v
          · rfl
          · rw [← ltN_back (HNN.out x' (List.mem_of_getElem? h7) y' (List.mem_of_getElem? h8))] at h9
            have := lt_chain (HR.out.at hy h8 (by omega)) h9 (HL.out.at h7 hx (by omega))
            rw [ltN_back hxy] at this
            unfold ltV at this
            rw [this] at e
            cases e
        have HLO : Hid (∀ c x y, a ≤ c → c < s → L[c - a]? = some x → R[n - 1 - c - m]? = some y → ltV y.v x.v = false) := hlo
        have HHI : Hid (∀ c x y, r ≤ c → c < m → L[c - a]? = some x → R[n - 1 - c - m]? = some y → ltV y.v x.v = true) := hhi
        clear hlo hhi gw hx hy ec epc hpcm hxy hb9
        generalize compV y.v x.v = cv at hcc HYES HNO
        obtain ⟨cx, ecx⟩ : ∃ c, c = enc x.v := ⟨_, rfl⟩
        obtain ⟨cy, ecy⟩ : ∃ c, c = enc y.v := ⟨_, rfl⟩
        simp only [en] at lx ly
        rw [← ecx] at lx hcc
        rw [← ecy] at ly hcc
        clear ecx ecy
        by_cases hcv : cv < 0
        · have dc : decide (cv < 0) = true := decide_eq_true hcv
          go_wp2_with fail
          go_quiet_grown (first | (go_at_fn 17; refine Calls.grown_of (hcc _)))
          clear lx ly hcc
          have G : Hid (Grw WL (Sort.grow (WL.drewN nq) osq)) := ⟨nq, osq, rfl⟩
          go_wp2_with fail
          go_roundw
          case rel => exact ⟨s, c, rfl, rfl, h1, hc1, by omega, HLO.out, HYES.out dc, HW.out.trans G.out⟩
          case measure => simp only [intOf]; omega
        · have dc : decide (cv < 0) = false := decide_eq_false hcv
          go_wp2_with fail
          go_quiet_grown (first | (go_at_fn 17; refine Calls.grown_of (hcc _)))
          clear lx ly hcc
          have G : Hid (Grw WL (Sort.grow (WL.drewN nq) osq)) := ⟨nq, osq, rfl⟩
          go_wp2_with fail
          go_roundw
          case rel => exact ⟨c + 1, r, by simp, rfl, by omega, by omega, h3, HNO.out dc, HHI.out, HW.out.trans G.out⟩
          case measure => simp only [intOf]; omega
      · obtain rfl : r = s := by omega
        have d1 : ¬ (r : Int) < (r : Int) := by omega
        obtain ⟨cA, cB⟩ := sym_cut HL.out HR.out HNN.out (a := a) (m := m) (b := b) (mid := mid) (n := n) (s0 := a) (r0 := m) (s := r) (by omega) (by omega) (by omega) (by omega) (by omega) (by omega) (.inr ⟨by omega, rfl, rfl⟩) h1 h3 hlo hhi
        have HJ := sym_join HL.out HR.out HDI.out (r - a) (n - r - m) cA cB
        obtain ⟨e, ee⟩ : ∃ q, q = n - r := ⟨_, rfl⟩
        have heI : (n : Int) - (r : Int) = (e : Int) := by omega
        obtain ⟨u, eu⟩ : ∃ q, q = r - a := ⟨_, rfl⟩
        obtain ⟨v, ev⟩ : ∃ q, q = n - r - m := ⟨_, rfl⟩
        rw [← eu, ← ev] at HJ
        have hu : u ≤ L.length := by omega
        have hv : v ≤ R.length := by omega
        have hlu := len_take hu
        have hlv := len_take hv
        have hdu : (L.drop u).length = L.length - u := List.length_drop
        have hdv : (R.drop v).length = R.length - v := List.length_drop
        obtain ⟨sl1, sl2, -⟩ := HL.out.split u
        obtain ⟨sr1, sr2, -⟩ := HR.out.split v
        have hfull : Own (en enc) k 30 base WL (.slice (some ⟨g, 0, none⟩) N cap) ((A ++ L.take u) ++ L.drop u ++ R.take v ++ (R.drop v ++ C)) := by
          have h7 := HO.out.on gw.kept
          have e7 : (A ++ L.take u) ++ L.drop u ++ R.take v ++ (R.drop v ++ C) = A ++ L ++ R ++ C := by
            conv => rhs; rw [← List.take_append_drop u L, ← List.take_append_drop v R]
            simp only [List.append_assoc]
          rw [e7]; exact h7
        have hsm : Same (fun b => b = g) w WL := gw.kept.to _
        obtain ⟨L1, eL1⟩ : ∃ q, q = L.take u := ⟨_, rfl⟩
        obtain ⟨L2, eL2⟩ : ∃ q, q = L.drop u := ⟨_, rfl⟩
        obtain ⟨R1, eR1⟩ : ∃ q, q = R.take v := ⟨_, rfl⟩
        obtain ⟨R2, eR2⟩ : ∃ q, q = R.drop v := ⟨_, rfl⟩
        have hm1 : ∀ z ∈ L1, z ∈ L := fun z hz => by rw [eL1] at hz; exact List.mem_of_mem_take hz
        have hm2 : ∀ z ∈ L2, z ∈ L := fun z hz => by rw [eL2] at hz; exact List.mem_of_mem_drop hz
        have hm3 : ∀ z ∈ R1, z ∈ R := fun z hz => by rw [eR1] at hz; exact List.mem_of_mem_take hz
        have hm4 : ∀ z ∈ R2, z ∈ R := fun z hz => by rw [eR2] at hz; exact List.mem_of_mem_drop hz
        have hdd : Dis ((L1 ++ R1) ++ (L2 ++ R2)) := by
          refine HDI.out.perm (List.Perm.symm ?_)
          conv => rhs; rw [← List.take_append_drop u L, ← List.take_append_drop v R]
          rw [eL1, eL2, eR1, eR2]
          simp only [List.append_assoc]
          refine List.Perm.append_left _ ?_
          rw [← List.append_assoc, ← List.append_assoc]
          exact (List.perm_append_comm).append_right _
        obtain ⟨dd1, dd2, -⟩ := List.pairwise_append.1 hdd
        rw [← eL1, ← eL2, ← eR1, ← eR2] at HJ hfull
        rw [← eL1] at hlu sl1
        rw [← eL2] at hdu sl2
        rw [← eR1] at hlv sr1
        rw [← eR2] at hdv sr2
        have HJH : Hid (srt ltN (L1 ++ R1) ++ srt ltN (L2 ++ R2) = srt ltN (L ++ R)) := HJ
        have HST : Hid (StS L1 ∧ StS L2 ∧ StS R1 ∧ StS R2 ∧ Dis (L1 ++ R1) ∧ Dis (L2 ++ R2)) := ⟨sl1, sl2, sr1, sr2, dd1, dd2⟩
        have HN1 : Hid (∀ x ∈ L1, ∀ y ∈ R1, x.n < y.n) := fun x hx y hy => HNN.out x (hm1 x hx) y (hm3 y hy)
        have HN2 : Hid (∀ x ∈ L2, ∀ y ∈ R2, x.n < y.n) := fun x hx y hy => HNN.out x (hm2 x hx) y (hm4 y hy)
        have HLN : Hid (L1.length = r - a ∧ L2.length = m - r ∧ R1.length = e - m ∧ R2.length = b - e ∧ a ≤ r ∧ r ≤ m ∧ m ≤ e ∧ e ≤ b ∧ mid + (m - r) = e ∧ r + (e - m) = mid) := by
          refine ⟨?_, ?_, ?_, ?_, ?_, ?_, ?_, ?_, ?_, ?_⟩ <;> omega
        have HFU : Hid (Own (en enc) k 30 base WL (.slice (some ⟨g, 0, none⟩) N cap) ((A ++ L1) ++ L2 ++ R1 ++ (R2 ++ C))) := hfull
        have HSM : Hid (Same (fun b => b = g) w WL) := hsm
        have hrB : (r : Int) ≤ 1172812402961 := by omega
        have heB : (e : Int) ≤ 1172812402961 := by omega
        clear hlo hhi gw cA cB HJ hfull hsm ee eu ev hu hv hlu hlv hdu hdv sl1 sl2 sr1 sr2 dd1 dd2 hdd hm1 hm2 hm3 hm4 eL1 eL2 eR1 eR2 hb9 u v HC HGX HGY
        by_cases h_1 : r < m
        · skip
          by_cases h_2 : m < e
          · skip
            by_cases h_3 : a < r
            · skip
              by_cases h_4 : e < b
              · skip
                have q1 : (r : Int) < (m : Int) := by have := HLN.out; have := EA.out; omega
                have q1b : decide ((r : Int) < (m : Int)) = true := decide_eq_true q1
                have q2 : (m : Int) < (e : Int) := by have := HLN.out; have := EA.out; omega
                have q2b : decide ((m : Int) < (e : Int)) = true := decide_eq_true q2
                have q3 : (a : Int) < (r : Int) := by have := HLN.out; have := EA.out; omega
                have q3b : decide ((a : Int) < (r : Int)) = true := decide_eq_true q3
                have q4 : (r : Int) < (mid : Int) := by have := HLN.out; have := EA.out; omega
                have q4b : decide ((r : Int) < (mid : Int)) = true := decide_eq_true q4
                have q5 : (mid : Int) < (e : Int) := by have := HLN.out; have := EA.out; omega
                have q5b : decide ((mid : Int) < (e : Int)) = true := decide_eq_true q5
                have q6 : (e : Int) < (b : Int) := by have := HLN.out; have := EA.out; omega
                have q6b : decide ((e : Int) < (b : Int)) = true := decide_eq_true q6
                have hE := HLN.out
                have HX : Hid _ := HROT.out WL (A ++ L1) L2 R1 (R2 ++ C) HFU.out (by omega) (by omega)
                rw [show (A ++ L1).length = r by rw [List.length_append]; have := EA.out; omega, show r + L2.length = m by omega, show m + R1.length = e by omega] at HX
                clear hE
                go_wp2_with fail
                refine Calls.mono HX.out ?_
                rintro rr W1 ⟨rfl, o1, s1⟩
                have HO1 : Hid (Own (en enc) k 30 base W1 (.slice (some ⟨g, 0, none⟩) N cap) (A ++ L1 ++ R1 ++ (L2 ++ R2 ++ C)) ∧ Same (fun b => b = g) w W1) := ⟨by simpa only [List.append_assoc] using o1, HSM.out.trans' s1⟩
                clear o1 s1 HX HFU HSM
                have hE := HLN.out
                have HX : Hid _ := HIH.out W1 A L1 R1 (L2 ++ R2 ++ C) (by have := EA.out; omega) HO1.out.1 HST.out.1 HST.out.2.2.1 HN1.out HST.out.2.2.2.2.1 (by omega) (by omega)
                rw [show A.length = a by have := EA.out; omega, show a + L1.length = r by omega, show r + R1.length = mid by omega] at HX
                clear hE
                go_wp2_with fail
                refine Calls.mono HX.out ?_
                rintro rr W2 ⟨rfl, o1, s1⟩
                have HO2 : Hid (Own (en enc) k 30 base W2 (.slice (some ⟨g, 0, none⟩) N cap) ((A ++ srt ltN (L1 ++ R1)) ++ L2 ++ R2 ++ C) ∧ Same (fun b => b = g) w W2) := ⟨by simpa only [List.append_assoc] using o1, HO1.out.2.trans' s1⟩
                clear o1 s1 HX HO1
                have hE := HLN.out
                have HX : Hid _ := HIH.out W2 (A ++ srt ltN (L1 ++ R1)) L2 R2 C (by have := EA.out; omega) HO2.out.1 HST.out.2.1 HST.out.2.2.2.1 HN2.out HST.out.2.2.2.2.2 (by omega) (by omega)
                rw [show (A ++ srt ltN (L1 ++ R1)).length = mid by rw [List.length_append, srt_len, List.length_append]; have := EA.out; omega, show mid + L2.length = e by omega, show e + R2.length = b by omega] at HX
                clear hE
                go_wp2_with fail
                refine Calls.mono HX.out ?_
                rintro rr W3 ⟨rfl, o1, s1⟩
                have HO3 : Hid (Own (en enc) k 30 base W3 (.slice (some ⟨g, 0, none⟩) N cap) (A ++ srt ltN (L ++ R) ++ C) ∧ Same (fun b => b = g) w W3) := ⟨by rw [← HJH.out]; simpa only [List.append_assoc] using o1, HO2.out.2.trans' s1⟩
                clear o1 s1 HX HO2
                go_wp2_with fail
                all_goals (go_end0; have h9 := HO3.out; exact ⟨rfl, by simpa only [List.append_assoc] using h9⟩)
              · skip
                have q1 : (r : Int) < (m : Int) := by have := HLN.out; have := EA.out; omega
                have q1b : decide ((r : Int) < (m : Int)) = true := decide_eq_true q1
                have q2 : (m : Int) < (e : Int) := by have := HLN.out; have := EA.out; omega
                have q2b : decide ((m : Int) < (e : Int)) = true := decide_eq_true q2
                have q3 : (a : Int) < (r : Int) := by have := HLN.out; have := EA.out; omega
                have q3b : decide ((a : Int) < (r : Int)) = true := decide_eq_true q3
                have q4 : (r : Int) < (mid : Int) := by have := HLN.out; have := EA.out; omega
                have q4b : decide ((r : Int) < (mid : Int)) = true := decide_eq_true q4
                have q5 : (mid : Int) < (e : Int) := by have := HLN.out; have := EA.out; omega
                have q5b : decide ((mid : Int) < (e : Int)) = true := decide_eq_true q5
                have q6 : ¬ (e : Int) < (b : Int) := by have := HLN.out; have := EA.out; omega
                have q6b : decide ((e : Int) < (b : Int)) = false := decide_eq_false q6
                have hE := HLN.out
                have HX : Hid _ := HROT.out WL (A ++ L1) L2 R1 (R2 ++ C) HFU.out (by omega) (by omega)
                rw [show (A ++ L1).length = r by rw [List.length_append]; have := EA.out; omega, show r + L2.length = m by omega, show m + R1.length = e by omega] at HX
                clear hE
                go_wp2_with fail
                refine Calls.mono HX.out ?_
                rintro rr W1 ⟨rfl, o1, s1⟩
                have HO1 : Hid (Own (en enc) k 30 base W1 (.slice (some ⟨g, 0, none⟩) N cap) (A ++ L1 ++ R1 ++ (L2 ++ R2 ++ C)) ∧ Same (fun b => b = g) w W1) := ⟨by simpa only [List.append_assoc] using o1, HSM.out.trans' s1⟩
                clear o1 s1 HX HFU HSM
                have hE := HLN.out
                have HX : Hid _ := HIH.out W1 A L1 R1 (L2 ++ R2 ++ C) (by have := EA.out; omega) HO1.out.1 HST.out.1 HST.out.2.2.1 HN1.out HST.out.2.2.2.2.1 (by omega) (by omega)
                rw [show A.length = a by have := EA.out; omega, show a + L1.length = r by omega, show r + R1.length = mid by omega] at HX
                clear hE
                go_wp2_with fail
                refine Calls.mono HX.out ?_
                rintro rr W2 ⟨rfl, o1, s1⟩
                have HO2 : Hid (Own (en enc) k 30 base W2 (.slice (some ⟨g, 0, none⟩) N cap) ((A ++ srt ltN (L1 ++ R1)) ++ L2 ++ R2 ++ C) ∧ Same (fun b => b = g) w W2) := ⟨by simpa only [List.append_assoc] using o1, HO1.out.2.trans' s1⟩
                clear o1 s1 HX HO1
                have hE := HLN.out
                have HO3 : Hid (Own (en enc) k 30 base W2 (.slice (some ⟨g, 0, none⟩) N cap) (A ++ srt ltN (L ++ R) ++ C) ∧ Same (fun b => b = g) w W2) := by
                  refine ⟨?_, HO2.out.2⟩
                  have h8 := HO2.out.1
                  have e8 : srt ltN (L2 ++ R2) = L2 ++ R2 := by rw [show R2 = [] from List.eq_nil_of_length_eq_zero (by omega), srt_nil_r HST.out.2.1, List.append_nil]
                  rw [← HJH.out, e8]
                  simpa only [List.append_assoc] using h8
                clear hE HO2
                go_wp2_with fail
                all_goals (go_end0; have h9 := HO3.out; exact ⟨rfl, by simpa only [List.append_assoc] using h9⟩)
            · skip
              by_cases h_4 : e < b
              · skip
                have q1 : (r : Int) < (m : Int) := by have := HLN.out; have := EA.out; omega
                have q1b : decide ((r : Int) < (m : Int)) = true := decide_eq_true q1
                have q2 : (m : Int) < (e : Int) := by have := HLN.out; have := EA.out; omega
                have q2b : decide ((m : Int) < (e : Int)) = true := decide_eq_true q2
                have q3 : ¬ (a : Int) < (r : Int) := by have := HLN.out; have := EA.out; omega
                have q3b : decide ((a : Int) < (r : Int)) = false := decide_eq_false q3
                have q4 : (r : Int) < (mid : Int) := by have := HLN.out; have := EA.out; omega
                have q4b : decide ((r : Int) < (mid : Int)) = true := decide_eq_true q4
                have q5 : (mid : Int) < (e : Int) := by have := HLN.out; have := EA.out; omega
                have q5b : decide ((mid : Int) < (e : Int)) = true := decide_eq_true q5
                have q6 : (e : Int) < (b : Int) := by have := HLN.out; have := EA.out; omega
                have q6b : decide ((e : Int) < (b : Int)) = true := decide_eq_true q6
                have hE := HLN.out
                have HX : Hid _ := HROT.out WL (A ++ L1) L2 R1 (R2 ++ C) HFU.out (by omega) (by omega)
                rw [show (A ++ L1).length = r by rw [List.length_append]; have := EA.out; omega, show r + L2.length = m by omega, show m + R1.length = e by omega] at HX
                clear hE
                go_wp2_with fail
                refine Calls.mono HX.out ?_
                rintro rr W1 ⟨rfl, o1, s1⟩
                have HO1 : Hid (Own (en enc) k 30 base W1 (.slice (some ⟨g, 0, none⟩) N cap) (A ++ L1 ++ R1 ++ (L2 ++ R2 ++ C)) ∧ Same (fun b => b = g) w W1) := ⟨by simpa only [List.append_assoc] using o1, HSM.out.trans' s1⟩
                clear o1 s1 HX HFU HSM
                have hE := HLN.out
                have HO2 : Hid (Own (en enc) k 30 base W1 (.slice (some ⟨g, 0, none⟩) N cap) ((A ++ srt ltN (L1 ++ R1)) ++ L2 ++ R2 ++ C) ∧ Same (fun b => b = g) w W1) := by
                  refine ⟨?_, HO1.out.2⟩
                  have h8 := HO1.out.1
                  have e8 : srt ltN (L1 ++ R1) = L1 ++ R1 := by rw [show L1 = [] from List.eq_nil_of_length_eq_zero (by omega), srt_nil_l HST.out.2.2.1]; rfl
                  rw [e8]
                  simpa only [List.append_assoc] using h8
                clear hE HO1
                have hE := HLN.out
                have HX : Hid _ := HIH.out W1 (A ++ srt ltN (L1 ++ R1)) L2 R2 C (by have := EA.out; omega) HO2.out.1 HST.out.2.1 HST.out.2.2.2.1 HN2.out HST.out.2.2.2.2.2 (by omega) (by omega)
                rw [show (A ++ srt ltN (L1 ++ R1)).length = mid by rw [List.length_append, srt_len, List.length_append]; have := EA.out; omega, show mid + L2.length = e by omega, show e + R2.length = b by omega] at HX
                clear hE
                go_wp2_with fail
                refine Calls.mono HX.out ?_
                rintro rr W3 ⟨rfl, o1, s1⟩
                have HO3 : Hid (Own (en enc) k 30 base W3 (.slice (some ⟨g, 0, none⟩) N cap) (A ++ srt ltN (L ++ R) ++ C) ∧ Same (fun b => b = g) w W3) := ⟨by rw [← HJH.out]; simpa only [List.append_assoc] using o1, HO2.out.2.trans' s1⟩
                clear o1 s1 HX HO2
                go_wp2_with fail
                all_goals (go_end0; have h9 := HO3.out; exact ⟨rfl, by simpa only [List.append_assoc] using h9⟩)
              · skip
                have q1 : (r : Int) < (m : Int) := by have := HLN.out; have := EA.out; omega
                have q1b : decide ((r : Int) < (m : Int)) = true := decide_eq_true q1
                have q2 : (m : Int) < (e : Int) := by have := HLN.out; have := EA.out; omega
                have q2b : decide ((m : Int) < (e : Int)) = true := decide_eq_true q2
                have q3 : ¬ (a : Int) < (r : Int) := by have := HLN.out; have := EA.out; omega
                have q3b : decide ((a : Int) < (r : Int)) = false := decide_eq_false q3
                have q4 : (r : Int) < (mid : Int) := by have := HLN.out; have := EA.out; omega
                have q4b : decide ((r : Int) < (mid : Int)) = true := decide_eq_true q4
                have q5 : (mid : Int) < (e : Int) := by have := HLN.out; have := EA.out; omega
                have q5b : decide ((mid : Int) < (e : Int)) = true := decide_eq_true q5
                have q6 : ¬ (e : Int) < (b : Int) := by have := HLN.out; have := EA.out; omega
                have q6b : decide ((e : Int) < (b : Int)) = false := decide_eq_false q6
                have hE := HLN.out
                have HX : Hid _ := HROT.out WL (A ++ L1) L2 R1 (R2 ++ C) HFU.out (by omega) (by omega)
                rw [show (A ++ L1).length = r by rw [List.length_append]; have := EA.out; omega, show r + L2.length = m by omega, show m + R1.length = e by omega] at HX
                clear hE
                go_wp2_with fail
                refine Calls.mono HX.out ?_
                rintro rr W1 ⟨rfl, o1, s1⟩
                have HO1 : Hid (Own (en enc) k 30 base W1 (.slice (some ⟨g, 0, none⟩) N cap) (A ++ L1 ++ R1 ++ (L2 ++ R2 ++ C)) ∧ Same (fun b => b = g) w W1) := ⟨by simpa only [List.append_assoc] using o1, HSM.out.trans' s1⟩
                clear o1 s1 HX HFU HSM
                have hE := HLN.out
                have HO2 : Hid (Own (en enc) k 30 base W1 (.slice (some ⟨g, 0, none⟩) N cap) ((A ++ srt ltN (L1 ++ R1)) ++ L2 ++ R2 ++ C) ∧ Same (fun b => b = g) w W1) := by
                  refine ⟨?_, HO1.out.2⟩
                  have h8 := HO1.out.1
                  have e8 : srt ltN (L1 ++ R1) = L1 ++ R1 := by rw [show L1 = [] from List.eq_nil_of_length_eq_zero (by omega), srt_nil_l HST.out.2.2.1]; rfl
                  rw [e8]
                  simpa only [List.append_assoc] using h8
                clear hE HO1
                have hE := HLN.out
                have HO3 : Hid (Own (en enc) k 30 base W1 (.slice (some ⟨g, 0, none⟩) N cap) (A ++ srt ltN (L ++ R) ++ C) ∧ Same (fun b => b = g) w W1) := by
                  refine ⟨?_, HO2.out.2⟩
                  have h8 := HO2.out.1
                  have e8 : srt ltN (L2 ++ R2) = L2 ++ R2 := by rw [show R2 = [] from List.eq_nil_of_length_eq_zero (by omega), srt_nil_r HST.out.2.1, List.append_nil]
                  rw [← HJH.out, e8]
                  simpa only [List.append_assoc] using h8
                clear hE HO2
                go_wp2_with fail
                all_goals (go_end0; have h9 := HO3.out; exact ⟨rfl, by simpa only [List.append_assoc] using h9⟩)
          · skip
            by_cases h_3 : a < r
            · skip
              by_cases h_4 : e < b
              · skip
                have q1 : (r : Int) < (m : Int) := by have := HLN.out; have := EA.out; omega
                have q1b : decide ((r : Int) < (m : Int)) = true := decide_eq_true q1
                have q2 : ¬ (m : Int) < (e : Int) := by have := HLN.out; have := EA.out; omega
                have q2b : decide ((m : Int) < (e : Int)) = false := decide_eq_false q2
                have q3 : (a : Int) < (r : Int) := by have := HLN.out; have := EA.out; omega
                have q3b : decide ((a : Int) < (r : Int)) = true := decide_eq_true q3
                have q4 : ¬ (r : Int) < (mid : Int) := by have := HLN.out; have := EA.out; omega
                have q4b : decide ((r : Int) < (mid : Int)) = false := decide_eq_false q4
                have q5 : (mid : Int) < (e : Int) := by have := HLN.out; have := EA.out; omega
                have q5b : decide ((mid : Int) < (e : Int)) = true := decide_eq_true q5
                have q6 : (e : Int) < (b : Int) := by have := HLN.out; have := EA.out; omega
                have q6b : decide ((e : Int) < (b : Int)) = true := decide_eq_true q6
                have hE := HLN.out
                have HO1 : Hid (Own (en enc) k 30 base WL (.slice (some ⟨g, 0, none⟩) N cap) (A ++ L1 ++ R1 ++ (L2 ++ R2 ++ C)) ∧ Same (fun b => b = g) w WL) := by
                  refine ⟨?_, HSM.out⟩
                  have h8 := HFU.out
                  rw [show R1 = [] from List.eq_nil_of_length_eq_zero (by omega)] at h8 ⊢
                  simpa only [List.append_assoc, List.append_nil, List.nil_append] using h8
                clear hE HFU HSM
                have hE := HLN.out
                have HO2 : Hid (Own (en enc) k 30 base WL (.slice (some ⟨g, 0, none⟩) N cap) ((A ++ srt ltN (L1 ++ R1)) ++ L2 ++ R2 ++ C) ∧ Same (fun b => b = g) w WL) := by
                  refine ⟨?_, HO1.out.2⟩
                  have h8 := HO1.out.1
                  have e8 : srt ltN (L1 ++ R1) = L1 ++ R1 := by rw [show R1 = [] from List.eq_nil_of_length_eq_zero (by omega), srt_nil_r HST.out.1, List.append_nil]
                  rw [e8]
                  simpa only [List.append_assoc] using h8
                clear hE HO1
                have hE := HLN.out
                have HX : Hid _ := HIH.out WL (A ++ srt ltN (L1 ++ R1)) L2 R2 C (by have := EA.out; omega) HO2.out.1 HST.out.2.1 HST.out.2.2.2.1 HN2.out HST.out.2.2.2.2.2 (by omega) (by omega)
                rw [show (A ++ srt ltN (L1 ++ R1)).length = mid by rw [List.length_append, srt_len, List.length_append]; have := EA.out; omega, show mid + L2.length = e by omega, show e + R2.length = b by omega] at HX
                clear hE
                go_wp2_with fail
                refine Calls.mono HX.out ?_
                rintro rr W3 ⟨rfl, o1, s1⟩
                have HO3 : Hid (Own (en enc) k 30 base W3 (.slice (some ⟨g, 0, none⟩) N cap) (A ++ srt ltN (L ++ R) ++ C) ∧ Same (fun b => b = g) w W3) := ⟨by rw [← HJH.out]; simpa only [List.append_assoc] using o1, HO2.out.2.trans' s1⟩
                clear o1 s1 HX HO2
                go_wp2_with fail
                all_goals (go_end0; have h9 := HO3.out; exact ⟨rfl, by simpa only [List.append_assoc] using h9⟩)
              · skip
                have q1 : (r : Int) < (m : Int) := by have := HLN.out; have := EA.out; omega
                have q1b : decide ((r : Int) < (m : Int)) = true := decide_eq_true q1
                have q2 : ¬ (m : Int) < (e : Int) := by have := HLN.out; have := EA.out; omega
                have q2b : decide ((m : Int) < (e : Int)) = false := decide_eq_false q2
                have q3 : (a : Int) < (r : Int) := by have := HLN.out; have := EA.out; omega
                have q3b : decide ((a : Int) < (r : Int)) = true := decide_eq_true q3
                have q4 : ¬ (r : Int) < (mid : Int) := by have := HLN.out; have := EA.out; omega
                have q4b : decide ((r : Int) < (mid : Int)) = false := decide_eq_false q4
                have q5 : (mid : Int) < (e : Int) := by have := HLN.out; have := EA.out; omega
                have q5b : decide ((mid : Int) < (e : Int)) = true := decide_eq_true q5
                have q6 : ¬ (e : Int) < (b : Int) := by have := HLN.out; have := EA.out; omega
                have q6b : decide ((e : Int) < (b : Int)) = false := decide_eq_false q6
                have hE := HLN.out
                have HO1 : Hid (Own (en enc) k 30 base WL (.slice (some ⟨g, 0, none⟩) N cap) (A ++ L1 ++ R1 ++ (L2 ++ R2 ++ C)) ∧ Same (fun b => b = g) w WL) := by
                  refine ⟨?_, HSM.out⟩
                  have h8 := HFU.out
                  rw [show R1 = [] from List.eq_nil_of_length_eq_zero (by omega)] at h8 ⊢
                  simpa only [List.append_assoc, List.append_nil, List.nil_append] using h8
                clear hE HFU HSM
                have hE := HLN.out
                have HO2 : Hid (Own (en enc) k 30 base WL (.slice (some ⟨g, 0, none⟩) N cap) ((A ++ srt ltN (L1 ++ R1)) ++ L2 ++ R2 ++ C) ∧ Same (fun b => b = g) w WL) := by
                  refine ⟨?_, HO1.out.2⟩
                  have h8 := HO1.out.1
                  have e8 : srt ltN (L1 ++ R1) = L1 ++ R1 := by rw [show R1 = [] from List.eq_nil_of_length_eq_zero (by omega), srt_nil_r HST.out.1, List.append_nil]
                  rw [e8]
                  simpa only [List.append_assoc] using h8
                clear hE HO1
                have hE := HLN.out
                have HO3 : Hid (Own (en enc) k 30 base WL (.slice (some ⟨g, 0, none⟩) N cap) (A ++ srt ltN (L ++ R) ++ C) ∧ Same (fun b => b = g) w WL) := by
                  refine ⟨?_, HO2.out.2⟩
                  have h8 := HO2.out.1
                  have e8 : srt ltN (L2 ++ R2) = L2 ++ R2 := by rw [show R2 = [] from List.eq_nil_of_length_eq_zero (by omega), srt_nil_r HST.out.2.1, List.append_nil]
                  rw [← HJH.out, e8]
                  simpa only [List.append_assoc] using h8
                clear hE HO2
                go_wp2_with fail
                all_goals (go_end0; have h9 := HO3.out; exact ⟨rfl, by simpa only [List.append_assoc] using h9⟩)
            · skip
              by_cases h_4 : e < b
              · skip
                have q1 : (r : Int) < (m : Int) := by have := HLN.out; have := EA.out; omega
                have q1b : decide ((r : Int) < (m : Int)) = true := decide_eq_true q1
                have q2 : ¬ (m : Int) < (e : Int) := by have := HLN.out; have := EA.out; omega
                have q2b : decide ((m : Int) < (e : Int)) = false := decide_eq_false q2
                have q3 : ¬ (a : Int) < (r : Int) := by have := HLN.out; have := EA.out; omega
                have q3b : decide ((a : Int) < (r : Int)) = false := decide_eq_false q3
                have q4 : ¬ (r : Int) < (mid : Int) := by have := HLN.out; have := EA.out; omega
                have q4b : decide ((r : Int) < (mid : Int)) = false := decide_eq_false q4
                have q5 : (mid : Int) < (e : Int) := by have := HLN.out; have := EA.out; omega
                have q5b : decide ((mid : Int) < (e : Int)) = true := decide_eq_true q5
                have q6 : (e : Int) < (b : Int) := by have := HLN.out; have := EA.out; omega
                have q6b : decide ((e : Int) < (b : Int)) = true := decide_eq_true q6
                have hE := HLN.out
                have HO1 : Hid (Own (en enc) k 30 base WL (.slice (some ⟨g, 0, none⟩) N cap) (A ++ L1 ++ R1 ++ (L2 ++ R2 ++ C)) ∧ Same (fun b => b = g) w WL) := by
                  refine ⟨?_, HSM.out⟩
                  have h8 := HFU.out
                  rw [show R1 = [] from List.eq_nil_of_length_eq_zero (by omega)] at h8 ⊢
                  simpa only [List.append_assoc, List.append_nil, List.nil_append] using h8
                clear hE HFU HSM
                have hE := HLN.out
                have HO2 : Hid (Own (en enc) k 30 base WL (.slice (some ⟨g, 0, none⟩) N cap) ((A ++ srt ltN (L1 ++ R1)) ++ L2 ++ R2 ++ C) ∧ Same (fun b => b = g) w WL) := by
                  refine ⟨?_, HO1.out.2⟩
                  have h8 := HO1.out.1
                  have e8 : srt ltN (L1 ++ R1) = L1 ++ R1 := by rw [show L1 = [] from List.eq_nil_of_length_eq_zero (by omega), srt_nil_l HST.out.2.2.1]; rfl
                  rw [e8]
                  simpa only [List.append_assoc] using h8
                clear hE HO1
                have hE := HLN.out
                have HX : Hid _ := HIH.out WL (A ++ srt ltN (L1 ++ R1)) L2 R2 C (by have := EA.out; omega) HO2.out.1 HST.out.2.1 HST.out.2.2.2.1 HN2.out HST.out.2.2.2.2.2 (by omega) (by omega)
                rw [show (A ++ srt ltN (L1 ++ R1)).length = mid by rw [List.length_append, srt_len, List.length_append]; have := EA.out; omega, show mid + L2.length = e by omega, show e + R2.length = b by omega] at HX
                clear hE
                go_wp2_with fail
                refine Calls.mono HX.out ?_
                rintro rr W3 ⟨rfl, o1, s1⟩
                have HO3 : Hid (Own (en enc) k 30 base W3 (.slice (some ⟨g, 0, none⟩) N cap) (A ++ srt ltN (L ++ R) ++ C) ∧ Same (fun b => b = g) w W3) := ⟨by rw [← HJH.out]; simpa only [List.append_assoc] using o1, HO2.out.2.trans' s1⟩
                clear o1 s1 HX HO2
                go_wp2_with fail
                all_goals (go_end0; have h9 := HO3.out; exact ⟨rfl, by simpa only [List.append_assoc] using h9⟩)
              · skip
                have q1 : (r : Int) < (m : Int) := by have := HLN.out; have := EA.out; omega
                have q1b : decide ((r : Int) < (m : Int)) = true := decide_eq_true q1
                have q2 : ¬ (m : Int) < (e : Int) := by have := HLN.out; have := EA.out; omega
                have q2b : decide ((m : Int) < (e : Int)) = false := decide_eq_false q2
                have q3 : ¬ (a : Int) < (r : Int) := by have := HLN.out; have := EA.out; omega
                have q3b : decide ((a : Int) < (r : Int)) = false := decide_eq_false q3
                have q4 : ¬ (r : Int) < (mid : Int) := by have := HLN.out; have := EA.out; omega
                have q4b : decide ((r : Int) < (mid : Int)) = false := decide_eq_false q4
                have q5 : (mid : Int) < (e : Int) := by have := HLN.out; have := EA.out; omega
                have q5b : decide ((mid : Int) < (e : Int)) = true := decide_eq_true q5
                have q6 : ¬ (e : Int) < (b : Int) := by have := HLN.out; have := EA.out; omega
                have q6b : decide ((e : Int) < (b : Int)) = false := decide_eq_false q6
                have hE := HLN.out
                have HO1 : Hid (Own (en enc) k 30 base WL (.slice (some ⟨g, 0, none⟩) N cap) (A ++ L1 ++ R1 ++ (L2 ++ R2 ++ C)) ∧ Same (fun b => b = g) w WL) := by
                  refine ⟨?_, HSM.out⟩
                  have h8 := HFU.out
                  rw [show R1 = [] from List.eq_nil_of_length_eq_zero (by omega)] at h8 ⊢
                  simpa only [List.append_assoc, List.append_nil, List.nil_append] using h8
                clear hE HFU HSM
                have hE := HLN.out
                have HO2 : Hid (Own (en enc) k 30 base WL (.slice (some ⟨g, 0, none⟩) N cap) ((A ++ srt ltN (L1 ++ R1)) ++ L2 ++ R2 ++ C) ∧ Same (fun b => b = g) w WL) := by
                  refine ⟨?_, HO1.out.2⟩
                  have h8 := HO1.out.1
                  have e8 : srt ltN (L1 ++ R1) = L1 ++ R1 := by rw [show L1 = [] from List.eq_nil_of_length_eq_zero (by omega), srt_nil_l HST.out.2.2.1]; rfl
                  rw [e8]
                  simpa only [List.append_assoc] using h8
                clear hE HO1
                have hE := HLN.out
                have HO3 : Hid (Own (en enc) k 30 base WL (.slice (some ⟨g, 0, none⟩) N cap) (A ++ srt ltN (L ++ R) ++ C) ∧ Same (fun b => b = g) w WL) := by
                  refine ⟨?_, HO2.out.2⟩
                  have h8 := HO2.out.1
                  have e8 : srt ltN (L2 ++ R2) = L2 ++ R2 := by rw [show R2 = [] from List.eq_nil_of_length_eq_zero (by omega), srt_nil_r HST.out.2.1, List.append_nil]
                  rw [← HJH.out, e8]
                  simpa only [List.append_assoc] using h8
                clear hE HO2
                go_wp2_with fail
                all_goals (go_end0; have h9 := HO3.out; exact ⟨rfl, by simpa only [List.append_assoc] using h9⟩)
        · skip
          by_cases h_2 : m < e
          · skip
            by_cases h_3 : a < r
            · skip
              by_cases h_4 : e < b
              · skip
                have q1 : ¬ (r : Int) < (m : Int) := by have := HLN.out; have := EA.out; omega
                have q1b : decide ((r : Int) < (m : Int)) = false := decide_eq_false q1
                have q2 : (m : Int) < (e : Int) := by have := HLN.out; have := EA.out; omega
                have q2b : decide ((m : Int) < (e : Int)) = true := decide_eq_true q2
                have q3 : (a : Int) < (r : Int) := by have := HLN.out; have := EA.out; omega
                have q3b : decide ((a : Int) < (r : Int)) = true := decide_eq_true q3
                have q4 : (r : Int) < (mid : Int) := by have := HLN.out; have := EA.out; omega
                have q4b : decide ((r : Int) < (mid : Int)) = true := decide_eq_true q4
                have q5 : ¬ (mid : Int) < (e : Int) := by have := HLN.out; have := EA.out; omega
                have q5b : decide ((mid : Int) < (e : Int)) = false := decide_eq_false q5
                have q6 : (e : Int) < (b : Int) := by have := HLN.out; have := EA.out; omega
                have q6b : decide ((e : Int) < (b : Int)) = true := decide_eq_true q6
                have hE := HLN.out
                have HO1 : Hid (Own (en enc) k 30 base WL (.slice (some ⟨g, 0, none⟩) N cap) (A ++ L1 ++ R1 ++ (L2 ++ R2 ++ C)) ∧ Same (fun b => b = g) w WL) := by
                  refine ⟨?_, HSM.out⟩
                  have h8 := HFU.out
                  rw [show L2 = [] from List.eq_nil_of_length_eq_zero (by omega)] at h8 ⊢
                  simpa only [List.append_assoc, List.append_nil, List.nil_append] using h8
                clear hE HFU HSM
                have hE := HLN.out
                have HX : Hid _ := HIH.out WL A L1 R1 (L2 ++ R2 ++ C) (by have := EA.out; omega) HO1.out.1 HST.out.1 HST.out.2.2.1 HN1.out HST.out.2.2.2.2.1 (by omega) (by omega)
                rw [show A.length = a by have := EA.out; omega, show a + L1.length = r by omega, show r + R1.length = mid by omega] at HX
                clear hE
                go_wp2_with fail
                refine Calls.mono HX.out ?_
                rintro rr W2 ⟨rfl, o1, s1⟩
                have HO2 : Hid (Own (en enc) k 30 base W2 (.slice (some ⟨g, 0, none⟩) N cap) ((A ++ srt ltN (L1 ++ R1)) ++ L2 ++ R2 ++ C) ∧ Same (fun b => b = g) w W2) := ⟨by simpa only [List.append_assoc] using o1, HO1.out.2.trans' s1⟩
                clear o1 s1 HX HO1
                have hE := HLN.out
                have HO3 : Hid (Own (en enc) k 30 base W2 (.slice (some ⟨g, 0, none⟩) N cap) (A ++ srt ltN (L ++ R) ++ C) ∧ Same (fun b => b = g) w W2) := by
                  refine ⟨?_, HO2.out.2⟩
                  have h8 := HO2.out.1
                  have e8 : srt ltN (L2 ++ R2) = L2 ++ R2 := by rw [show L2 = [] from List.eq_nil_of_length_eq_zero (by omega), srt_nil_l HST.out.2.2.2.1]; rfl
                  rw [← HJH.out, e8]
                  simpa only [List.append_assoc] using h8
                clear hE HO2
                go_wp2_with fail
                all_goals (go_end0; have h9 := HO3.out; exact ⟨rfl, by simpa only [List.append_assoc] using h9⟩)
              · skip
                have q1 : ¬ (r : Int) < (m : Int) := by have := HLN.out; have := EA.out; omega
                have q1b : decide ((r : Int) < (m : Int)) = false := decide_eq_false q1
                have q2 : (m : Int) < (e : Int) := by have := HLN.out; have := EA.out; omega
                have q2b : decide ((m : Int) < (e : Int)) = true := decide_eq_true q2
                have q3 : (a : Int) < (r : Int) := by have := HLN.out; have := EA.out; omega
                have q3b : decide ((a : Int) < (r : Int)) = true := decide_eq_true q3
                have q4 : (r : Int) < (mid : Int) := by have := HLN.out; have := EA.out; omega
                have q4b : decide ((r : Int) < (mid : Int)) = true := decide_eq_true q4
                have q5 : ¬ (mid : Int) < (e : Int) := by have := HLN.out; have := EA.out; omega
                have q5b : decide ((mid : Int) < (e : Int)) = false := decide_eq_false q5
                have q6 : ¬ (e : Int) < (b : Int) := by have := HLN.out; have := EA.out; omega
                have q6b : decide ((e : Int) < (b : Int)) = false := decide_eq_false q6
                have hE := HLN.out
                have HO1 : Hid (Own (en enc) k 30 base WL (.slice (some ⟨g, 0, none⟩) N cap) (A ++ L1 ++ R1 ++ (L2 ++ R2 ++ C)) ∧ Same (fun b => b = g) w WL) := by
                  refine ⟨?_, HSM.out⟩
                  have h8 := HFU.out
                  rw [show L2 = [] from List.eq_nil_of_length_eq_zero (by omega)] at h8 ⊢
                  simpa only [List.append_assoc, List.append_nil, List.nil_append] using h8
                clear hE HFU HSM
                have hE := HLN.out
                have HX : Hid _ := HIH.out WL A L1 R1 (L2 ++ R2 ++ C) (by have := EA.out; omega) HO1.out.1 HST.out.1 HST.out.2.2.1 HN1.out HST.out.2.2.2.2.1 (by omega) (by omega)
                rw [show A.length = a by have := EA.out; omega, show a + L1.length = r by omega, show r + R1.length = mid by omega] at HX
                clear hE
                go_wp2_with fail
                refine Calls.mono HX.out ?_
                rintro rr W2 ⟨rfl, o1, s1⟩
                have HO2 : Hid (Own (en enc) k 30 base W2 (.slice (some ⟨g, 0, none⟩) N cap) ((A ++ srt ltN (L1 ++ R1)) ++ L2 ++ R2 ++ C) ∧ Same (fun b => b = g) w W2) := ⟨by simpa only [List.append_assoc] using o1, HO1.out.2.trans' s1⟩
                clear o1 s1 HX HO1
                have hE := HLN.out
                have HO3 : Hid (Own (en enc) k 30 base W2 (.slice (some ⟨g, 0, none⟩) N cap) (A ++ srt ltN (L ++ R) ++ C) ∧ Same (fun b => b = g) w W2) := by
                  refine ⟨?_, HO2.out.2⟩
                  have h8 := HO2.out.1
                  have e8 : srt ltN (L2 ++ R2) = L2 ++ R2 := by rw [show L2 = [] from List.eq_nil_of_length_eq_zero (by omega), srt_nil_l HST.out.2.2.2.1]; rfl
                  rw [← HJH.out, e8]
                  simpa only [List.append_assoc] using h8
                clear hE HO2
                go_wp2_with fail
                all_goals (go_end0; have h9 := HO3.out; exact ⟨rfl, by simpa only [List.append_assoc] using h9⟩)
            · skip
              by_cases h_4 : e < b
              · skip
                have q1 : ¬ (r : Int) < (m : Int) := by have := HLN.out; have := EA.out; omega
                have q1b : decide ((r : Int) < (m : Int)) = false := decide_eq_false q1
                have q2 : (m : Int) < (e : Int) := by have := HLN.out; have := EA.out; omega
                have q2b : decide ((m : Int) < (e : Int)) = true := decide_eq_true q2
                have q3 : ¬ (a : Int) < (r : Int) := by have := HLN.out; have := EA.out; omega
                have q3b : decide ((a : Int) < (r : Int)) = false := decide_eq_false q3
                have q4 : (r : Int) < (mid : Int) := by have := HLN.out; have := EA.out; omega
                have q4b : decide ((r : Int) < (mid : Int)) = true := decide_eq_true q4
                have q5 : ¬ (mid : Int) < (e : Int) := by have := HLN.out; have := EA.out; omega
                have q5b : decide ((mid : Int) < (e : Int)) = false := decide_eq_false q5
                have q6 : (e : Int) < (b : Int) := by have := HLN.out; have := EA.out; omega
                have q6b : decide ((e : Int) < (b : Int)) = true := decide_eq_true q6
                have hE := HLN.out
                have HO1 : Hid (Own (en enc) k 30 base WL (.slice (some ⟨g, 0, none⟩) N cap) (A ++ L1 ++ R1 ++ (L2 ++ R2 ++ C)) ∧ Same (fun b => b = g) w WL) := by
                  refine ⟨?_, HSM.out⟩
                  have h8 := HFU.out
                  rw [show L2 = [] from List.eq_nil_of_length_eq_zero (by omega)] at h8 ⊢
                  simpa only [List.append_assoc, List.append_nil, List.nil_append] using h8
                clear hE HFU HSM
                have hE := HLN.out
                have HO2 : Hid (Own (en enc) k 30 base WL (.slice (some ⟨g, 0, none⟩) N cap) ((A ++ srt ltN (L1 ++ R1)) ++ L2 ++ R2 ++ C) ∧ Same (fun b => b = g) w WL) := by
                  refine ⟨?_, HO1.out.2⟩
                  have h8 := HO1.out.1
                  have e8 : srt ltN (L1 ++ R1) = L1 ++ R1 := by rw [show L1 = [] from List.eq_nil_of_length_eq_zero (by omega), srt_nil_l HST.out.2.2.1]; rfl
                  rw [e8]
                  simpa only [List.append_assoc] using h8
                clear hE HO1
                have hE := HLN.out
                have HO3 : Hid (Own (en enc) k 30 base WL (.slice (some ⟨g, 0, none⟩) N cap) (A ++ srt ltN (L ++ R) ++ C) ∧ Same (fun b => b = g) w WL) := by
                  refine ⟨?_, HO2.out.2⟩
                  have h8 := HO2.out.1
                  have e8 : srt ltN (L2 ++ R2) = L2 ++ R2 := by rw [show L2 = [] from List.eq_nil_of_length_eq_zero (by omega), srt_nil_l HST.out.2.2.2.1]; rfl
                  rw [← HJH.out, e8]
                  simpa only [List.append_assoc] using h8
                clear hE HO2
                go_wp2_with fail
                all_goals (go_end0; have h9 := HO3.out; exact ⟨rfl, by simpa only [List.append_assoc] using h9⟩)
              · skip
                have q1 : ¬ (r : Int) < (m : Int) := by have := HLN.out; have := EA.out; omega
                have q1b : decide ((r : Int) < (m : Int)) = false := decide_eq_false q1
                have q2 : (m : Int) < (e : Int) := by have := HLN.out; have := EA.out; omega
                have q2b : decide ((m : Int) < (e : Int)) = true := decide_eq_true q2
                have q3 : ¬ (a : Int) < (r : Int) := by have := HLN.out; have := EA.out; omega
                have q3b : decide ((a : Int) < (r : Int)) = false := decide_eq_false q3
                have q4 : (r : Int) < (mid : Int) := by have := HLN.out; have := EA.out; omega
                have q4b : decide ((r : Int) < (mid : Int)) = true := decide_eq_true q4
                have q5 : ¬ (mid : Int) < (e : Int) := by have := HLN.out; have := EA.out; omega
                have q5b : decide ((mid : Int) < (e : Int)) = false := decide_eq_false q5
                have q6 : ¬ (e : Int) < (b : Int) := by have := HLN.out; have := EA.out; omega
                have q6b : decide ((e : Int) < (b : Int)) = false := decide_eq_false q6
                have hE := HLN.out
                have HO1 : Hid (Own (en enc) k 30 base WL (.slice (some ⟨g, 0, none⟩) N cap) (A ++ L1 ++ R1 ++ (L2 ++ R2 ++ C)) ∧ Same (fun b => b = g) w WL) := by
                  refine ⟨?_, HSM.out⟩
                  have h8 := HFU.out
                  rw [show L2 = [] from List.eq_nil_of_length_eq_zero (by omega)] at h8 ⊢
                  simpa only [List.append_assoc, List.append_nil, List.nil_append] using h8
                clear hE HFU HSM
                have hE := HLN.out
                have HO2 : Hid (Own (en enc) k 30 base WL (.slice (some ⟨g, 0, none⟩) N cap) ((A ++ srt ltN (L1 ++ R1)) ++ L2 ++ R2 ++ C) ∧ Same (fun b => b = g) w WL) := by
                  refine ⟨?_, HO1.out.2⟩
                  have h8 := HO1.out.1
                  have e8 : srt ltN (L1 ++ R1) = L1 ++ R1 := by rw [show L1 = [] from List.eq_nil_of_length_eq_zero (by omega), srt_nil_l HST.out.2.2.1]; rfl
                  rw [e8]
                  simpa only [List.append_assoc] using h8
                clear hE HO1
                have hE := HLN.out
                have HO3 : Hid (Own (en enc) k 30 base WL (.slice (some ⟨g, 0, none⟩) N cap) (A ++ srt ltN (L ++ R) ++ C) ∧ Same (fun b => b = g) w WL) := by
                  refine ⟨?_, HO2.out.2⟩
                  have h8 := HO2.out.1
                  have e8 : srt ltN (L2 ++ R2) = L2 ++ R2 := by rw [show L2 = [] from List.eq_nil_of_length_eq_zero (by omega), srt_nil_l HST.out.2.2.2.1]; rfl
                  rw [← HJH.out, e8]
                  simpa only [List.append_assoc] using h8
                clear hE HO2
                go_wp2_with fail
                all_goals (go_end0; have h9 := HO3.out; exact ⟨rfl, by simpa only [List.append_assoc] using h9⟩)
          · skip
            by_cases h_3 : a < r
            · skip
              by_cases h_4 : e < b
              · skip
                have q1 : ¬ (r : Int) < (m : Int) := by have := HLN.out; have := EA.out; omega
                have q1b : decide ((r : Int) < (m : Int)) = false := decide_eq_false q1
                have q2 : ¬ (m : Int) < (e : Int) := by have := HLN.out; have := EA.out; omega
                have q2b : decide ((m : Int) < (e : Int)) = false := decide_eq_false q2
                have q3 : (a : Int) < (r : Int) := by have := HLN.out; have := EA.out; omega
                have q3b : decide ((a : Int) < (r : Int)) = true := decide_eq_true q3
                have q4 : ¬ (r : Int) < (mid : Int) := by have := HLN.out; have := EA.out; omega
                have q4b : decide ((r : Int) < (mid : Int)) = false := decide_eq_false q4
                have q5 : ¬ (mid : Int) < (e : Int) := by have := HLN.out; have := EA.out; omega
                have q5b : decide ((mid : Int) < (e : Int)) = false := decide_eq_false q5
                have q6 : (e : Int) < (b : Int) := by have := HLN.out; have := EA.out; omega
                have q6b : decide ((e : Int) < (b : Int)) = true := decide_eq_true q6
                have hE := HLN.out
                have HO1 : Hid (Own (en enc) k 30 base WL (.slice (some ⟨g, 0, none⟩) N cap) (A ++ L1 ++ R1 ++ (L2 ++ R2 ++ C)) ∧ Same (fun b => b = g) w WL) := by
                  refine ⟨?_, HSM.out⟩
                  have h8 := HFU.out
                  rw [show L2 = [] from List.eq_nil_of_length_eq_zero (by omega)] at h8 ⊢
                  simpa only [List.append_assoc, List.append_nil, List.nil_append] using h8
                clear hE HFU HSM
                have hE := HLN.out
                have HO2 : Hid (Own (en enc) k 30 base WL (.slice (some ⟨g, 0, none⟩) N cap) ((A ++ srt ltN (L1 ++ R1)) ++ L2 ++ R2 ++ C) ∧ Same (fun b => b = g) w WL) := by
                  refine ⟨?_, HO1.out.2⟩
                  have h8 := HO1.out.1
                  have e8 : srt ltN (L1 ++ R1) = L1 ++ R1 := by rw [show R1 = [] from List.eq_nil_of_length_eq_zero (by omega), srt_nil_r HST.out.1, List.append_nil]
                  rw [e8]
                  simpa only [List.append_assoc] using h8
                clear hE HO1
                have hE := HLN.out
                have HO3 : Hid (Own (en enc) k 30 base WL (.slice (some ⟨g, 0, none⟩) N cap) (A ++ srt ltN (L ++ R) ++ C) ∧ Same (fun b => b = g) w WL) := by
                  refine ⟨?_, HO2.out.2⟩
                  have h8 := HO2.out.1
                  have e8 : srt ltN (L2 ++ R2) = L2 ++ R2 := by rw [show L2 = [] from List.eq_nil_of_length_eq_zero (by omega), srt_nil_l HST.out.2.2.2.1]; rfl
                  rw [← HJH.out, e8]
                  simpa only [List.append_assoc] using h8
                clear hE HO2
                go_wp2_with fail
                all_goals (go_end0; have h9 := HO3.out; exact ⟨rfl, by simpa only [List.append_assoc] using h9⟩)
              · skip
                have q1 : ¬ (r : Int) < (m : Int) := by have := HLN.out; have := EA.out; omega
                have q1b : decide ((r : Int) < (m : Int)) = false := decide_eq_false q1
                have q2 : ¬ (m : Int) < (e : Int) := by have := HLN.out; have := EA.out; omega
                have q2b : decide ((m : Int) < (e : Int)) = false := decide_eq_false q2
                have q3 : (a : Int) < (r : Int) := by have := HLN.out; have := EA.out; omega
                have q3b : decide ((a : Int) < (r : Int)) = true := decide_eq_true q3
                have q4 : ¬ (r : Int) < (mid : Int) := by have := HLN.out; have := EA.out; omega
                have q4b : decide ((r : Int) < (mid : Int)) = false := decide_eq_false q4
                have q5 : ¬ (mid : Int) < (e : Int) := by have := HLN.out; have := EA.out; omega
                have q5b : decide ((mid : Int) < (e : Int)) = false := decide_eq_false q5
                have q6 : ¬ (e : Int) < (b : Int) := by have := HLN.out; have := EA.out; omega
                have q6b : decide ((e : Int) < (b : Int)) = false := decide_eq_false q6
                have hE := HLN.out
                have HO1 : Hid (Own (en enc) k 30 base WL (.slice (some ⟨g, 0, none⟩) N cap) (A ++ L1 ++ R1 ++ (L2 ++ R2 ++ C)) ∧ Same (fun b => b = g) w WL) := by
                  refine ⟨?_, HSM.out⟩
                  have h8 := HFU.out
                  rw [show L2 = [] from List.eq_nil_of_length_eq_zero (by omega)] at h8 ⊢
                  simpa only [List.append_assoc, List.append_nil, List.nil_append] using h8
                clear hE HFU HSM
                have hE := HLN.out
                have HO2 : Hid (Own (en enc) k 30 base WL (.slice (some ⟨g, 0, none⟩) N cap) ((A ++ srt ltN (L1 ++ R1)) ++ L2 ++ R2 ++ C) ∧ Same (fun b => b = g) w WL) := by
                  refine ⟨?_, HO1.out.2⟩
                  have h8 := HO1.out.1
                  have e8 : srt ltN (L1 ++ R1) = L1 ++ R1 := by rw [show R1 = [] from List.eq_nil_of_length_eq_zero (by omega), srt_nil_r HST.out.1, List.append_nil]
                  rw [e8]
                  simpa only [List.append_assoc] using h8
                clear hE HO1
                have hE := HLN.out
                have HO3 : Hid (Own (en enc) k 30 base WL (.slice (some ⟨g, 0, none⟩) N cap) (A ++ srt ltN (L ++ R) ++ C) ∧ Same (fun b => b = g) w WL) := by
                  refine ⟨?_, HO2.out.2⟩
                  have h8 := HO2.out.1
                  have e8 : srt ltN (L2 ++ R2) = L2 ++ R2 := by rw [show L2 = [] from List.eq_nil_of_length_eq_zero (by omega), srt_nil_l HST.out.2.2.2.1]; rfl
                  rw [← HJH.out, e8]
                  simpa only [List.append_assoc] using h8
                clear hE HO2
                go_wp2_with fail
                all_goals (go_end0; have h9 := HO3.out; exact ⟨rfl, by simpa only [List.append_assoc] using h9⟩)
            · skip
              by_cases h_4 : e < b
              · skip
                have q1 : ¬ (r : Int) < (m : Int) := by have := HLN.out; have := EA.out; omega
                have q1b : decide ((r : Int) < (m : Int)) = false := decide_eq_false q1
                have q2 : ¬ (m : Int) < (e : Int) := by have := HLN.out; have := EA.out; omega
                have q2b : decide ((m : Int) < (e : Int)) = false := decide_eq_false q2
                have q3 : ¬ (a : Int) < (r : Int) := by have := HLN.out; have := EA.out; omega
                have q3b : decide ((a : Int) < (r : Int)) = false := decide_eq_false q3
                have q4 : ¬ (r : Int) < (mid : Int) := by have := HLN.out; have := EA.out; omega
                have q4b : decide ((r : Int) < (mid : Int)) = false := decide_eq_false q4
                have q5 : ¬ (mid : Int) < (e : Int) := by have := HLN.out; have := EA.out; omega
                have q5b : decide ((mid : Int) < (e : Int)) = false := decide_eq_false q5
                have q6 : (e : Int) < (b : Int) := by have := HLN.out; have := EA.out; omega
                have q6b : decide ((e : Int) < (b : Int)) = true := decide_eq_true q6
                have hE := HLN.out
                have HO1 : Hid (Own (en enc) k 30 base WL (.slice (some ⟨g, 0, none⟩) N cap) (A ++ L1 ++ R1 ++ (L2 ++ R2 ++ C)) ∧ Same (fun b => b = g) w WL) := by
                  refine ⟨?_, HSM.out⟩
                  have h8 := HFU.out
                  rw [show L2 = [] from List.eq_nil_of_length_eq_zero (by omega)] at h8 ⊢
                  simpa only [List.append_assoc, List.append_nil, List.nil_append] using h8
                clear hE HFU HSM
                have hE := HLN.out
                have HO2 : Hid (Own (en enc) k 30 base WL (.slice (some ⟨g, 0, none⟩) N cap) ((A ++ srt ltN (L1 ++ R1)) ++ L2 ++ R2 ++ C) ∧ Same (fun b => b = g) w WL) := by
                  refine ⟨?_, HO1.out.2⟩
                  have h8 := HO1.out.1
                  have e8 : srt ltN (L1 ++ R1) = L1 ++ R1 := by rw [show L1 = [] from List.eq_nil_of_length_eq_zero (by omega), srt_nil_l HST.out.2.2.1]; rfl
                  rw [e8]
                  simpa only [List.append_assoc] using h8
                clear hE HO1
                have hE := HLN.out
                have HO3 : Hid (Own (en enc) k 30 base WL (.slice (some ⟨g, 0, none⟩) N cap) (A ++ srt ltN (L ++ R) ++ C) ∧ Same (fun b => b = g) w WL) := by
                  refine ⟨?_, HO2.out.2⟩
                  have h8 := HO2.out.1
                  have e8 : srt ltN (L2 ++ R2) = L2 ++ R2 := by rw [show L2 = [] from List.eq_nil_of_length_eq_zero (by omega), srt_nil_l HST.out.2.2.2.1]; rfl
                  rw [← HJH.out, e8]
                  simpa only [List.append_assoc] using h8
                clear hE HO2
                go_wp2_with fail
                all_goals (go_end0; have h9 := HO3.out; exact ⟨rfl, by simpa only [List.append_assoc] using h9⟩)
              · skip
                have q1 : ¬ (r : Int) < (m : Int) := by have := HLN.out; have := EA.out; omega
                have q1b : decide ((r : Int) < (m : Int)) = false := decide_eq_false q1
                have q2 : ¬ (m : Int) < (e : Int) := by have := HLN.out; have := EA.out; omega
                have q2b : decide ((m : Int) < (e : Int)) = false := decide_eq_false q2
                have q3 : ¬ (a : Int) < (r : Int) := by have := HLN.out; have := EA.out; omega
                have q3b : decide ((a : Int) < (r : Int)) = false := decide_eq_false q3
                have q4 : ¬ (r : Int) < (mid : Int) := by have := HLN.out; have := EA.out; omega
                have q4b : decide ((r : Int) < (mid : Int)) = false := decide_eq_false q4
                have q5 : ¬ (mid : Int) < (e : Int) := by have := HLN.out; have := EA.out; omega
                have q5b : decide ((mid : Int) < (e : Int)) = false := decide_eq_false q5
                have q6 : ¬ (e : Int) < (b : Int) := by have := HLN.out; have := EA.out; omega
                have q6b : decide ((e : Int) < (b : Int)) = false := decide_eq_false q6
                have hE := HLN.out
                have HO1 : Hid (Own (en enc) k 30 base WL (.slice (some ⟨g, 0, none⟩) N cap) (A ++ L1 ++ R1 ++ (L2 ++ R2 ++ C)) ∧ Same (fun b => b = g) w WL) := by
                  refine ⟨?_, HSM.out⟩
                  have h8 := HFU.out
                  rw [show L2 = [] from List.eq_nil_of_length_eq_zero (by omega)] at h8 ⊢
                  simpa only [List.append_assoc, List.append_nil, List.nil_append] using h8
                clear hE HFU HSM
                have hE := HLN.out
                have HO2 : Hid (Own (en enc) k 30 base WL (.slice (some ⟨g, 0, none⟩) N cap) ((A ++ srt ltN (L1 ++ R1)) ++ L2 ++ R2 ++ C) ∧ Same (fun b => b = g) w WL) := by
                  refine ⟨?_, HO1.out.2⟩
                  have h8 := HO1.out.1
                  have e8 : srt ltN (L1 ++ R1) = L1 ++ R1 := by rw [show L1 = [] from List.eq_nil_of_length_eq_zero (by omega), srt_nil_l HST.out.2.2.1]; rfl
                  rw [e8]
                  simpa only [List.append_assoc] using h8
                clear hE HO1
                have hE := HLN.out
                have HO3 : Hid (Own (en enc) k 30 base WL (.slice (some ⟨g, 0, none⟩) N cap) (A ++ srt ltN (L ++ R) ++ C) ∧ Same (fun b => b = g) w WL) := by
                  refine ⟨?_, HO2.out.2⟩
                  have h8 := HO2.out.1
                  have e8 : srt ltN (L2 ++ R2) = L2 ++ R2 := by rw [show L2 = [] from List.eq_nil_of_length_eq_zero (by omega), srt_nil_l HST.out.2.2.2.1]; rfl
                  rw [← HJH.out, e8]
                  simpa only [List.append_assoc] using h8
                clear hE HO2
                go_wp2_with fail
                all_goals (go_end0; have h9 := HO3.out; exact ⟨rfl, by simpa only [List.append_assoc] using h9⟩)
end Go.Proofs.Ytnfkjblhnpnaeaa
