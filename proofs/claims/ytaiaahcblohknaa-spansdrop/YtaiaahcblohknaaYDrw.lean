/- What is proved: Drop takes out all spans that end at the floor or earlier, and tells how many; the forest lies in memory. -/
import Derived.Test.YtaiaahcblohknaaYDrp
import Derived.Test.YtaiaahcblohknaaYDrm
namespace Go.Proofs.Ytaiaahcblohknaa
open Go.RowKit
open Go.Proofs (encStr)

/-- What stands between Drop's rounds. -/
structure Dg (F : Nat → Prop) (w wr : World) (fb nb cap mb r n0 : Nat) (A : List Ks) (fl : Int) (left : Lit → Bool) (ct : Nat) (e : Int) (A' : List Ks) : Prop where
  eq : A' = dr A left fl
  ex : ∃ fr N D R FL n, Fm F wr fb nb cap fr mb A'.length e N D R ∧ Fp N fr R FL A' ∧ Rgs wr mb r n D left ct ∧ n < maxLen ∧ N.length = n0
  same : Same F w wr
  ends : ∀ y ∈ A', left (kl y.key) = false → e ≤ y.s.t
theorem Dg.sub {F : Nat → Prop} {w wr : World} {fb nb cap mb r n0 : Nat} {A : List Ks} {fl : Int} {left : Lit → Bool} {ct : Nat} {e : Int} {A' : List Ks} (h : Dg F w wr fb nb cap mb r n0 A fl left ct e A') : (∀ y ∈ A', y ∈ A) ∧ A'.length ≤ A.length := by
  rw [h.eq]
  exact ⟨fun y hy => (List.mem_filter.1 hy).1, List.length_filter_le _ _⟩
theorem Fm.has {F : Nat → Prop} {w : World} {fb nb cap fr mb : Nat} {c e : Int} {N : List Nd} {D : DataW Value} {R : List UInt8 → PT} (h : Fm F w fb nb cap fr mb c e N D R) {A : List Ks} (hl : ∀ k : ByteArray, (R k.toList).tr.list = kf A k) : ∀ y ∈ A, Go.Maps.has D (kl y.key) = true := fun y hy => by
  rcases h.look y.key with ⟨h1, -⟩ | ⟨-, h2⟩
  · have := hl y.key
    rw [h1] at this
    have hm : y.s ∈ kf A y.key := List.mem_map.2 ⟨y, List.mem_filter.2 ⟨hy, by simp⟩, rfl⟩
    rw [← this] at hm
    simp [PT.tr, Tr.list] at hm
  · exact Go.Maps.has_true_of_atKey h2
/-- One key's round. -/
theorem drk_step {F : Nat → Prop} {w wr w2 w3 : World} {fb nb cap mb r n0 n : Nat} {A : List Ks} {fl : Int} {left : Lit → Bool} {ct ct2 : Nat} {e : Int} {A' : List Ks} {R : List UInt8 → PT} {k : ByteArray} {v : Nat} (heq : A' = dr A left fl) (hs : Same F w wr) (he : ∀ y ∈ A', left (kl y.key) = false → e ≤ y.s.t) (hrw : w.heap.size ≤ r) (s2 : Same (fun b => b = r) wr w2) (hn : n < maxLen) (hlt : ct2 < ct)
    (hp : DrkP F w2 fb nb cap mb e R k n0 A' fl r n ct2 (fun z => left z && !z.sameKey (kl k)) v w3) :
    ∃ (mn : Int) (nl : Nat), (w3.cell? ⟨fb, 0, none⟩ = some (.slice (some ⟨nb, 0, none⟩) nl cap) ∧ v < nl ∧ w3.cell? ⟨fb, 4, none⟩ = some (.int .i64 e) ∧ w3.cell? ⟨nb, v * 8 + 6, none⟩ = some (.int .i64 mn) ∧ w3.frozen? ⟨fb, 4, none⟩ = false ∧ fb < w3.heap.size ∧ nb < w3.heap.size) ∧
      ∀ W, Kept (w3.setCell ⟨fb, 4, none⟩ (.int .i64 (min e mn))) W → ∃ ct3, ct3 < ct ∧ Dg F w W fb nb cap mb r n0 A fl (fun z => left z && !z.sameKey (kl k)) ct3 (min e mn) (dr A (fun z => left z && !z.sameKey (kl k)) fl) := by
  obtain ⟨T, fr', N', FL', D', rfl, m1, m2, m3, m4, ct', m5, m6⟩ := hp
  have lay : Lay N' T := by have := m2.lay k.toList; rwa [upd_same] at this
  obtain ⟨nd, en, tn⟩ := lay.tells m2.z
  have c6 := ((m1.ar.node en).1).c6
  rw [tn.fi] at c6
  obtain ⟨⟨c0, -, -, -, c4⟩, hb, hbn⟩ := m1.ar.cells
  have e1 : dr A (fun z => left z && !z.sameKey (kl k)) fl = A'.filter (late k fl) := by rw [dr_step, ← heq]
  refine ⟨T.tr.mn, N'.length, ⟨c0, (m1.ar.node en).2, c4, c6, m1.ar.unfrozen 4, hb, hbn⟩, fun W kk => ⟨ct', by omega, rfl, ⟨fr', N', D', upd R k.toList T, FL', n, ?_, ?_, ?_, hn, m4⟩, ?_, ?_⟩⟩
  · rw [e1]
    exact (m1.setE _).on kk
  · rw [e1]; exact m2
  · refine Rgs.off (Rgs.off m5 (S := fun b => b = fb) (Same.setCell (S := fun b => b = fb) (Same.refl _ w3) ⟨fb, 4, none⟩ (.inr rfl) _) (fun h9 => m1.mne.1 h9.symm) (fun h9 => ?_)) kk (fun h9 => h9) (fun h9 => h9)
    obtain ⟨es, clock, since, seen, c9, hb9, F9, h3, h4, hr9, h5⟩ := m5
    have ho := m1.ar.obj
    rw [← show r = fb from h9, hr9] at ho
    cases ho
  · refine Same.trans' (Same.trans' (Same.trans (Same.trans hs (S' := fun b => b = r) s2 (fun i hi e9 => ?_)) m3 (fun i _ hi => hi)) (Same.setCell (Same.refl _ w3) ⟨fb, 4, none⟩ (.inr m1.ff) _)) (Kept.to kk _)
    omega
  · intro y hy hl
    rw [e1] at hy
    obtain ⟨y1, y2⟩ := List.mem_filter.1 hy
    by_cases hk : y.key.toList = k.toList
    · have hm : y.s ∈ T.tr.list := by
        have := m2.lst k
        rw [upd_same] at this
        rw [this]
        exact List.mem_map.2 ⟨y, List.mem_filter.2 ⟨hy, by simp [hk]⟩, rfl⟩
      exact Int.le_trans (Int.min_le_right _ _) (Tr.mn_le T.tr y.s hm)
    · have h1 : (kl y.key).sameKey (kl k) = false := Maps.sameKey_ne (kl_ne hk)
      simp only [h1, Bool.not_false, Bool.and_true] at hl
      exact Int.le_trans (Int.min_le_left _ _) (he y y1 hl)
set_option maxRecDepth 100000 in
set_option maxHeartbeats 3200000 in
theorem drop14 {F : Nat → Prop} {w : World} {fb : Nat} {A : List Ks} {bd : Nat} (h : Fo F w fb A bd) (fl : Int) (hbd : bd ≤ 3500000000000) :
    Calls Try.prog 13 #[.pointer (some ⟨fb, 0, none⟩), .int .i64 fl] w fun r w' => r = .returned (.int .i64 ((A.length - (drp A fl).length : Nat) : Int)) ∧ StpP F w fb (drp A fl) bd w' := by
  have HFO : Hid _ := h
  obtain ⟨nb, cap, fr, mb, e, N, D, R, FL, hm, hp, he, hr, hN, hA⟩ := h
  obtain ⟨⟨c0, -, c2, c3, c4⟩, hb, -⟩ := hm.ar.cells
  by_cases hfl : fl < e
  · have d1 : decide (fl < e) = true := by simpa using hfl
    have e1 : drp A fl = A := dr_none he hfl
    rw [e1, Nat.sub_self]
    clear hm hp he hr hN hA e1
    go_enter Try.func13, Try.ntmps13
    go_wp2_with fail
    go_ret
    exact ⟨rfl, StpP.stays HFO.out (Same.refl _ _)⟩
  · have d1 : decide (fl < e) = false := by simpa using hfl
    have fz := hm.ar.unfrozen 4
    have hms := hm.setE 9223372036854775807
    have hown := hms.own
    have HFR : Hid (¬ F w.heap.size) := fun e9 => by have := hm.lt _ e9; omega
    have HSZ : Hid (Go.Maps.size D < maxLen) := by
      have h9 : Go.Maps.size D < maxLen := by have := hm.keys_le hp.lst; unfold maxLen; omega
      exact h9
    have HST : Hid (∀ w0, Rgs w0 mb w.heap.size (Go.Maps.size D) D (Go.Maps.has D) (Go.Maps.size D) → Kept (w.setCell ⟨fb, 4, none⟩ (.int .i64 9223372036854775807)) w0 → Dg F w w0 fb nb cap mb w.heap.size N.length A fl (Go.Maps.has D) (Go.Maps.size D) 9223372036854775807 A) := fun w0 hg k0 =>
      ⟨(dr_all (hm.has hp.lst) fl).symm, ⟨fr, N, D, R, FL, _, hms.on k0, hp, hg, HSZ.out, rfl⟩, Same.trans' (Same.setCell (Same.refl _ w) ⟨fb, 4, none⟩ (.inr hm.ff) _) (Kept.to k0 _), fun y hy h9 => by rw [hm.has hp.lst y hy] at h9; cases h9⟩
    have HR : Hid (∀ y ∈ A, rightS y.s = true) := hr
    have HN : Hid (N.length ≤ bd + 1) := hN
    have HA : Hid (A.length ≤ bd) := hA
    have hA9 : (A.length : Int) ≤ 3500000000000 := by omega
    clear hm hp he hr hN hA hms HFO hfl
    obtain ⟨n0, en0⟩ : ∃ n0, n0 = N.length := ⟨_, rfl⟩
    rw [← en0] at HST HN
    clear en0
    obtain ⟨n, en⟩ : ∃ n, n = A.length := ⟨_, rfl⟩
    rw [← en] at c3 hA9
    have EN : Hid (n = A.length) := en
    clear en
    go_enter Try.func13, Try.ntmps13
    go_wp2_with (at_range; refine wpList_range_own _ rfl _ 53 rfl 9 3 Try.keyedS Try.underlying53 rawE mb _ D rfl hown ?_; intro w0 hrg0 hg0 hs0)
    have hsz9 : (w.setCell ⟨fb, 4, none⟩ (.int .i64 9223372036854775807)).heap.size = w.heap.size := by simp [World.setCell]
    rw [hsz9] at hrg0
    try rw [hsz9]
    go_frame
    have P0 : Hid _ := HST.out w0 hrg0 (Same.of_grown hg0 (fun j e => by cases e))
    clear hrg0 hg0 HST hown c0 c2 c3 c4 hs0 fz d1 hsz9
    generalize hrr : w.heap.size = r at P0 HFR ⊢
    have HRW : Hid (w.heap.size ≤ r) := Nat.le_of_eq hrr
    clear hrr
    go_loopw [6, 7, 8] (fun _ _ _ wr => ∃ (left : Lit → Bool) (ct : Nat) (e : Int) (A' : List Ks), Dg F w wr fb nb cap mb r n0 A fl left ct e A') (fun _ _ _ wr => wr.rangeLeft mb r)
    case atStart => exact ⟨_, _, _, A, P0.out⟩
    case round =>
      obtain ⟨left, ct, e1, A', dg⟩ := hrel
      have DG : Hid (Dg F w wr fb nb cap mb r n0 A fl left ct e1 A') := dg
      obtain ⟨fr1, N1, D1, R1, FL1, n1, fm, fp, rg, hn1, hN1⟩ := dg.ex
      have FM : Hid (Fm F wr fb nb cap fr1 mb A'.length e1 N1 D1 R1) := fm
      have FP : Hid (Fp N1 fr1 R1 FL1 A') := fp
      have RG : Hid (Rgs wr mb r n1 D1 left ct) := rg
      have HN1 : Hid (n1 < maxLen) := hn1
      have HNN : Hid (N1.length = n0) := hN1
      have hle := dg.sub.2
      rw [← show n = A.length from EN.out] at hle
      clear dg fm fp hn1 hN1 P0
      go_wp2_with (at_next; refine wpList_next_ranges _ rfl _ rfl 9 Try.keyedS rawE encStr (fun v : Value => v) (fun key kl' hk' => by obtain ⟨x, hx, _⟩ := Maps.keyOf_str Try.underlying9 hk'; exact ⟨x, hx⟩) (fun v y hv => ⟨v, rfl⟩) mb r _ _ _ _ rfl rg ?_ ?_)
      · intro _ hl0
        have eA : A' = drp A fl := DG.out.eq.trans (dr_end hl0 fl)
        have HFIN : Hid (StpP F w fb (drp A fl) bd wr) := by
          refine ⟨F, ⟨nb, cap, fr1, mb, e1, N1, D1, R1, FL1, ?_, ?_, fun y hy => ?_, fun y hy => ?_, ?_, ?_⟩, fun b hb => .inl hb, DG.out.same⟩
          · rw [← eA]; exact FM.out
          · rw [← eA]; exact FP.out
          · rw [← eA] at hy; exact DG.out.ends y hy (hl0 _)
          · rw [← eA] at hy; exact HR.out y (DG.out.sub.1 y hy)
          · have h1 : N1.length = n0 := HNN.out
            have h2 : n0 ≤ bd + 1 := HN.out
            omega
          · have h2 : A.length ≤ bd := HA.out
            exact Nat.le_trans (drp_length A fl) h2
        obtain ⟨⟨-, -, -, c3, -⟩, hb1, -⟩ := FM.out.ar.cells
        rw [eA] at c3 hle
        obtain ⟨q, hq⟩ : ∃ q : Nat, q = n - (drp A fl).length := ⟨_, rfl⟩
        have e9 : Ending.returned (.int .i64 (q : Int)) = Ending.returned (.int .i64 ((A.length - (drp A fl).length : Nat) : Int)) := by rw [hq, ← show n = A.length from EN.out]
        have E9 : Hid _ := e9
        have hq1 : (n : Int) - ((drp A fl).length : Int) = (q : Int) := by omega
        have hq2 : (q : Int) ≤ 3500000000000 := by omega
        clear hl0 hle rg eA hq e9
        generalize (drp A fl).length = dl at c3 hq1
        go_wp2_with fail
        go_ret
        exact ⟨E9.out, HFIN.out⟩
      · intro x c kl' yd yp w2 ct2 hkey hlk hv hat hrg2 hlt hg2 hs2 hen
        obtain ⟨x', ex, rfl, hxl⟩ := Maps.keyOf_str Try.underlying9 hkey
        obtain rfl : x = x' := encStr_inj ex
        obtain ⟨rfl, rfl⟩ : yd = .held c ∧ yp = [] := by simpa [rawE, eq_comm] using hv
        have hhas : Go.Maps.has D1 (.string x) = true := Go.Maps.has_true_of_atKey hat
        have s2 : Same (fun b => b = r) wr w2 := Same.of_grown hg2 (fun j e => by cases e; rfl)
        have fm2 := Fm.off FM.out s2 (fun b hb' e => HFR.out (e ▸ hb'))
        have hlook := FM.out.look ⟨x.toArray⟩
        rw [kl_mk] at hlook
        have hne : R1 (ByteArray.toList ⟨x.toArray⟩) ≠ .nil ∧ c = .int .i64 ((R1 (ByteArray.toList ⟨x.toArray⟩)).root : Nat) := by
          rcases hlook with ⟨_, h2⟩ | ⟨h1, h2⟩
          · rw [hhas] at h2; cases h2
          · have h3 := (hat .nil).symm.trans (h2 .nil)
            exact ⟨h1, by simpa using h3⟩
        obtain ⟨hne, rfl⟩ := hne
        have HP : Hid _ := dropKey14 fm2 FP.out (fun y hy => HR.out y (DG.out.sub.1 y hy)) (by have h9 := DG.out.sub.2; have h8 : A.length ≤ bd := HA.out; omega) ⟨x.toArray⟩ (by simpa [ByteArray.size] using hxl) fl hne hrg2 HFR.out HN1.out (Maps.strike_twice left _)
        rw [show N1.length = n0 from HNN.out] at HP
        have HSTEP : Hid (∀ v w3, DrkP F w2 fb nb cap mb e1 R1 ⟨x.toArray⟩ n0 A' fl r n1 ct2 (fun z => left z && !z.sameKey (kl ⟨x.toArray⟩)) v w3 → _) := fun v w3 hp => drk_step (v := v) DG.out.eq DG.out.same DG.out.ends HRW.out s2 HN1.out hlt hp
        rw [show Value.string ⟨x.toArray⟩ = encStr x from rfl] at HP
        clear ex hkey hv hat hrg2 hg2 hs2 s2 fm2 hlk rg hhas hlook hne hxl hlt
        generalize (R1 (ByteArray.toList ⟨x.toArray⟩)).root = rt at HP hen ⊢
        go_wp2_with fail
        refine Calls.mono HP.out ?_
        rintro r3 w3 ⟨v, rfl, hp⟩
        obtain ⟨mn, nl, ⟨m0, m1, m4, m6, mf, mb1, mb2⟩, hfin⟩ := HSTEP.out v w3 hp
        have HFIN : Hid _ := hfin
        have m1' : (v : Int) < (nl : Int) := by omega
        have HME : Hid (∀ W, Kept (w3.setCell ⟨fb, 4, none⟩ (.int .i64 (min e1 mn))) W → W.rangeLeft mb r < wr.rangeLeft mb r) := fun W k9 => by
          obtain ⟨ct3, h3, d3⟩ := hfin W k9
          obtain ⟨_, _, D3, _, _, _, -, -, r3, -⟩ := d3.ex
          rw [r3.left_eq, World.ranges.left_eq RG.out]
          exact h3
        have HRE : Hid (∀ W, Kept (w3.setCell ⟨fb, 4, none⟩ (.int .i64 (min e1 mn))) W → ∃ (left : Lit → Bool) (ct : Nat) (e : Int) (A' : List Ks), Dg F w W fb nb cap mb r n0 A fl left ct e A') := fun W k9 => by
          obtain ⟨ct3, h3, d3⟩ := hfin W k9
          exact ⟨_, ct3, _, _, d3⟩
        clear hp hfin HP HSTEP hen HFIN
        go_wp2_with fail
        go_region
        all_goals
          go_wp2_with fail
          go_roundw
          case rel => exact HRE.out _ (by (repeat (first | exact Same.refl _ _ | apply Same.drew | apply Same.drewN)); done)
          case measure => exact HME.out _ (by (repeat (first | exact Same.refl _ _ | apply Same.drew | apply Same.drewN)); done)
end Go.Proofs.Ytaiaahcblohknaa
