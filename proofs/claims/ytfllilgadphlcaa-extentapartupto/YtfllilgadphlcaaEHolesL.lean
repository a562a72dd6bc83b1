/- What is proved: ExtentHoles answers true for every number of blocks and every script in memory. -/
import Derived.Test.YtfllilgadphlcaaELaw
namespace Go.Proofs.Ytfllilgadphlcaa
open Go.RowKit

/-- A step. -/
structure O3 where
  k : Int
  f : Int
  c : Int
/-- The steps ls lie in w from address a on. -/
def OpsAt (w : World) (a : Option Addr) (l : List O3) : Prop :=
  ∀ i o, l[i]? = some o → (∃ b off, a = some ⟨b, off, none⟩ ∧ b < w.heap.size ∧ w.cell? ⟨b, off + i * 3, none⟩ = some (.int .i64 o.k) ∧ w.cell? ⟨b, off + i * 3 + 1, none⟩ = some (.int .i64 o.f) ∧ w.cell? ⟨b, off + i * 3 + 2, none⟩ = some (.int .i64 o.c)) ∧ o.f ≤ 9223372036854775807
theorem OpsAt.on {w w' : World} {a : Option Addr} {l : List O3} (h : OpsAt w a l) (hs : Kept w w') : OpsAt w' a l := fun i x hx => by
  obtain ⟨⟨b, off, rfl, hb, c0, c1, c2⟩, c3⟩ := h i x hx
  exact ⟨⟨b, off, rfl, Nat.lt_of_lt_of_le hb hs.size, (hs.cell (p := ⟨b, _, none⟩) hb (fun h => h)).trans c0, (hs.cell (p := ⟨b, _, none⟩) hb (fun h => h)).trans c1, (hs.cell (p := ⟨b, _, none⟩) hb (fun h => h)).trans c2⟩, c3⟩

theorem Cloned.exts {w w' : World} {L : List Ex} {v : Value} (h : Cloned w L v w') : ∃ a cap, v = .slice a L.length cap ∧ ExtsAt w' a L ∧ (∀ k, InB a L.length k → w.heap.size ≤ k) ∧ Kept w w' := by
  obtain ⟨⟨rfl, rfl⟩ | ⟨g, cap, rfl, h1, h2⟩, k⟩ := h
  · exact ⟨none, 0, rfl, ExtsAt.nil _ _, fun k hk => absurd hk.1 (by simp), k⟩
  · exact ⟨_, cap, rfl, h2.exts, fun k hk => by obtain ⟨_, off, e⟩ := hk; cases e; exact h1, k⟩
theorem kept_of {X : Nat → Prop} {w w1 w2 : World} (k : Kept w w1) (h : Same (fun k => ¬ X k) w1 w2) (hX : ∀ k, k < w.heap.size → X k) : Kept w w2 := k.trans h fun i hi e => e (hX i hi)
theorem mm_drop {L : List Ex} {j : Nat} {e : Ex} (he : L[j]? = some e) (b : Int) : Mm b (L.drop j) ↔ (e.f ≤ b ∧ b < e.f + e.c) ∨ Mm b (L.drop (j + 1)) := by
  obtain ⟨hl, rfl⟩ := List.getElem?_eq_some_iff.1 he
  rw [List.drop_eq_getElem_cons hl, mm_cons]
theorem wf_drop {N : Int} {L : List Ex} (h : WF 0 N L) (j : Nat) : WF 0 N (L.drop j) := by
  rw [← List.take_append_drop j L] at h
  obtain ⟨m, _, h2, _, h4⟩ := wf_append.1 h
  exact h4.mono h2
theorem apart {N : Int} {L : List Ex} (h : WF 0 N L) {j : Nat} {e : Ex} (he : L[j]? = some e) {b : Int} (hb : Mm b (L.drop (j + 1))) : ¬ (e.f ≤ b ∧ b < e.f + e.c) := by
  have h1 := wf_drop h j
  obtain ⟨hl, rfl⟩ := List.getElem?_eq_some_iff.1 he
  rw [List.drop_eq_getElem_cons hl] at h1
  have := h1.2.2.2.mm hb
  omega

set_option maxRecDepth 100000 in
theorem holes_no (N : Int) (sa : Option Addr) (len sc : Nat) (w : World) (hN : N < 0 ∨ 4096 < N) :
    Calls Try.prog 6 #[.int .i64 N, .slice sa len sc] w fun e w' => e = .returned (.bool true) ∧ Kept w w' := by
  have hnot : ∀ (x : Bool) (w : World), (Op.unary .not (.bool x)).run Try.prog w = .ok (.bool (!x)) w := fun _ _ => rfl
  have HA : Hid (∀ w', _) := fun w' => anchor_any w'
  have HN : Hid (∀ w', _) := fun w' => new_no N hN w'
  by_cases h1 : N < 0
  · have h1' : decide (N < 0) = true := decide_eq_true h1
    clear hN
    go_enter Try.func6, Try.ntmps6
    go_wp2_with fail
    refine Calls.mono (HA.out _) ?_
    rintro e w1 ⟨rfl, k1⟩
    go_wp2_with fail
    refine Calls.mono (HN.out _) ?_
    rintro e w2 ⟨rfl, h2⟩
    subst w2
    go_wp2_with fail
    go_ret
    exact ⟨rfl, k1⟩
  · have h1' : decide (N < 0) = false := decide_eq_false h1
    have h2 : 4096 < N := by omega
    have h2' : decide (4096 < N) = true := decide_eq_true h2
    clear hN
    go_enter Try.func6, Try.ntmps6
    go_wp2_with fail
    refine Calls.mono (HA.out _) ?_
    rintro e w1 ⟨rfl, k1⟩
    go_wp2_with fail
    refine Calls.mono (HN.out _) ?_
    rintro e w2 ⟨rfl, h2⟩
    subst w2
    go_wp2_with fail
    go_ret
    exact ⟨rfl, k1⟩

set_option maxRecDepth 100000 in
set_option maxHeartbeats 3200000 in
theorem holes_yes (N : Nat) (sa : Option Addr) (sc : Nat) (ls : List O3) (w : World) (hN : N ≤ 4096) (hs : OpsAt w sa ls) (hlen : ls.length ≤ 9223372036854775807) :
    Calls Try.prog 6 #[.int .i64 (N : Int), .slice sa ls.length sc] w fun e w' => e = .returned (.bool true) ∧ Kept w w' := by
  have hnot : ∀ (x : Bool) (w : World), (Op.unary .not (.bool x)).run Try.prog w = .ok (.bool (!x)) w := fun _ _ => rfl
  have HA : Hid (∀ w', _) := fun w' => anchor_any w'
  have HN : Hid (∀ w', _) := fun w' => new_x N hN w'
  have HO : Hid _ := hs
  obtain ⟨m, em⟩ : ∃ m, m = ls.length := ⟨_, rfl⟩
  rw [← em] at hlen ⊢
  have EM : Hid _ := em
  clear em hs
  go_enter Try.func6, Try.ntmps6
  go_wp2_with fail
  refine Calls.mono (HA.out _) ?_
  rintro e w1 ⟨rfl, k1⟩
  have K1 : Hid _ := k1
  clear k1
  go_wp2_with fail
  refine Calls.mono (HN.out _) ?_
  rintro e w2 ⟨p, L0, rfl, hsp, hm0, k2⟩
  have K2 : Hid (Kept w w2) := K1.out.trans' k2
  have S2 : Hid (SpX (fun k => k < w.heap.size) w2 p N L0) := hsp.mono fun k _ h => Nat.lt_of_lt_of_le h K1.out.size
  clear hsp hm0 k2
  go_upto_block 0 with fail
  go_cut [38] (fun _ wx => ∃ L, SpX (fun k => k < w.heap.size) wx p N L ∧ Kept w wx)
  case first =>
    go_wp2_with fail
    go_loopw [38] (fun i wr => ∃ (j : Nat) (L : List Ex), j ≤ m ∧ i = .int .i64 j ∧ SpX (fun k => k < w.heap.size) wr p N L ∧ Kept w wr) (fun i _ => m - (intOf i).toNat)
    case atStart => exact ⟨0, L0, Nat.zero_le _, rfl, S2.out, K2.out⟩
    case round =>
      obtain ⟨j, L, hj, rfl, hsp, kk⟩ := hrel
      have KK : Hid _ := kk
      have HS : Hid _ := hsp
      clear hsp
      by_cases hlt : j < m
      · have c1' : decide ((j : Int) < (m : Int)) = true := by simp only [decide_eq_true_eq]; omega
        have hlt2 : (j : Int) < (m : Int) := by omega
        obtain ⟨o, ho⟩ : ∃ o, ls[j]? = some o := ⟨_, List.getElem?_eq_getElem (by rw [← EM.out]; exact hlt)⟩
        obtain ⟨⟨b, off, rfl, hb, q0, q1, q2⟩, q3⟩ := (OpsAt.on HO.out kk) j o ho
        have Q3 : Hid _ := q3
        have HX : Hid (∀ W, Kept wr W → ∀ k, k < w.heap.size → k < W.heap.size) := fun W k i hi => Nat.lt_of_lt_of_le hi (Nat.le_trans KK.out.size k.size)
        have kb : Kept wr (wr.alloc (.cells #[.int .i64 o.k, .int .i64 o.f, .int .i64 o.c] 32 (0, 0))) := (Same.refl _ _).alloc _
        have KB : Hid _ := kb
        clear kk ho q3 kb
        by_cases h1 : o.k = 1
        · have h1' : (o.k == 1) = true := by simp [h1]
          have HC : Hid _ := alloc_x (HX.out _ KB.out) (SpX.on HS.out KB.out) o.c
          clear h1
          go_wp2_with fail
          refine Calls.mono HC.out ?_
          rintro r w3 ⟨f, n, e, L', rfl, ⟨hs3, k3⟩, -⟩
          have HS3 : Hid _ := hs3
          have K3 : Hid _ := kept_of (KK.out.trans' KB.out) k3 (fun _ h => h)
          clear hs3 k3
          go_wp2_with fail
          go_roundw
          case rel => exact ⟨j + 1, L', by omega, by simp, HS3.out, K3.out⟩
          case measure => simp only [intOf]; omega
        · have h1' : (o.k == 1) = false := by simpa using h1
          by_cases h2 : o.k = 2
          · have h2' : (o.k == 2) = true := by simp [h2]
            have HC : Hid _ := take_x (HX.out _ KB.out) (SpX.on HS.out KB.out) ⟨o.f, o.c⟩ Q3.out
            clear h1 h2
            go_wp2_with fail
            refine Calls.mono HC.out ?_
            rintro r w3 ⟨e, L', rfl, ⟨hs3, k3⟩, -⟩
            have HS3 : Hid _ := hs3
            have K3 : Hid _ := kept_of (KK.out.trans' KB.out) k3 (fun _ h => h)
            clear hs3 k3
            go_wp2_with fail
            go_roundw
            case rel => exact ⟨j + 1, L', by omega, by simp, HS3.out, K3.out⟩
            case measure => simp only [intOf]; omega
          · have h2' : (o.k == 2) = false := by simpa using h2
            by_cases h3 : o.k = 3
            · have h3' : (o.k == 3) = true := by simp [h3]
              have HC : Hid _ := free_x (HX.out _ KB.out) (SpX.on HS.out KB.out) ⟨o.f, o.c⟩ Q3.out
              clear h1 h2 h3
              go_wp2_with fail
              refine Calls.mono HC.out ?_
              rintro r w3 ⟨e, L', rfl, ⟨hs3, k3⟩, -⟩
              have HS3 : Hid _ := hs3
              have K3 : Hid _ := kept_of (KK.out.trans' KB.out) k3 (fun _ h => h)
              clear hs3 k3
              go_wp2_with fail
              go_roundw
              case rel => exact ⟨j + 1, L', by omega, by simp, HS3.out, K3.out⟩
              case measure => simp only [intOf]; omega
            · have h3' : (o.k == 3) = false := by simpa using h3
              clear h1 h2 h3
              go_wp2_with fail
              go_roundw
              case rel => exact ⟨j + 1, L, by omega, by simp, SpX.on HS.out KB.out, KK.out.trans' KB.out⟩
              case measure => simp only [intOf]; omega
      · have c1' : decide ((j : Int) < (m : Int)) = false := by simp only [decide_eq_false_iff_not]; omega
        clear kk
        go_wp2_with fail
        go_meet
        exact ⟨L, HS.out, KK.out⟩
  case rest =>
    obtain ⟨L, hsp, kk⟩ := hcut
    have HH : Hid _ := holes_x hsp
    have HS : Hid _ := hsp
    have KK : Hid _ := kk
    clear hsp kk
    go_wp2_with fail
    refine Calls.mono HH.out ?_
    rintro r w3 ⟨v, rfl, hv⟩
    obtain ⟨ga, gc, rfl, hE, hg, k3⟩ := hv.exts
    obtain ⟨n, en⟩ : ∃ n, n = L.length := ⟨_, rfl⟩
    rw [← en]
    have EN : Hid _ := en
    have hn : n ≤ 4096 := by rw [en]; exact WF.len (SpX.wf HS.out) (SpX.small HS.out)
    have HE : Hid _ := hE
    have HG : Hid _ := hg
    have K3 : Hid _ := k3
    have HW : Hid (WF 0 N L) := SpX.wf HS.out
    clear hE hg k3 hv en
    go_upto_block 3 with fail
    go_cut [10, 11, 12, 73] (fun s10 s11 s12 _ wx => s10 = .int .i64 (sum L) ∧ (∃ E : Int, s11 = .int .i64 E) ∧ s12 = .int .i64 (big L) ∧ Kept w3 wx)
    case first =>
      have HT : Hid _ := fun j => sum_take_le HW.out j
      have hs' : sum L ≤ 4096 := by
        rcases (sum_bounds HW.out).2 with rfl | q
        · simp [sum]
        · omega
      have HBO : Hid _ := bigO_eq HW.out
      go_wp2_with fail
      go_loopw [10, 11, 12, 73] (fun s10 s11 s12 i wr => ∃ (j : Nat) (E : Int), j ≤ n ∧ i = .int .i64 j ∧ s10 = .int .i64 (sum (L.take j)) ∧ s11 = .int .i64 E ∧ (∀ e, L[j]? = some e → E < e.f) ∧ s12 = .int .i64 (bigO (L.take j)) ∧ Kept w3 wr) (fun _ _ _ i _ => n - (intOf i).toNat)
      case atStart =>
        refine ⟨0, -1, Nat.zero_le _, rfl, rfl, rfl, fun e he => ?_, rfl, Same.refl _ _⟩
        have := HW.out.mem (List.mem_of_getElem? he)
        omega
      case round =>
        obtain ⟨j, E, hj, rfl, rfl, rfl, hE, rfl, kk⟩ := hrel
        have KR : Hid _ := kk
        obtain ⟨t0, t1⟩ := HT.out j
        by_cases hlt : j < n
        · have c1' : decide ((j : Int) < (n : Int)) = true := by simp only [decide_eq_true_eq]; omega
          have hlt2 : (j : Int) < (n : Int) := by omega
          obtain ⟨e, he⟩ : ∃ e, L[j]? = some e := ⟨_, List.getElem?_eq_getElem (by rw [← EN.out]; exact hlt)⟩
          obtain ⟨b, off, rfl, hb, q0, q1⟩ := (ExtsAt.kept HE.out kk (fun _ _ h => h)) j e he
          obtain ⟨m1, m2, m3⟩ := HW.out.mem (List.mem_of_getElem? he)
          have hEe := hE e he
          have d1 : decide (e.c < 1) = false := decide_eq_false (by omega)
          have d2 : decide (e.f ≤ E) = false := decide_eq_false (by omega)
          have d3 : decide ((N : Int) - e.c < e.f) = false := decide_eq_false (by omega)
          have d1' : ¬ (e.c < 1) := by omega
          have d2' : ¬ (e.f ≤ E) := by omega
          have d3' : ¬ ((N : Int) - e.c < e.f) := by omega
          have HS1 : Hid _ := sum_take he
          have HB1 : Hid _ := bigO_take he
          have HNX : Hid (∀ g, L[j + 1]? = some g → e.f + e.c < g.f) := fun g hg => wf_lt HW.out he hg (by omega)
          obtain ⟨S, eS⟩ : ∃ S, S = sum (L.take j) := ⟨_, rfl⟩
          rw [← eS] at t0 t1 HS1 ⊢
          obtain ⟨S', eS'⟩ : ∃ S', S' = sum L := ⟨_, rfl⟩
          rw [← eS'] at t1 hs'
          obtain ⟨M, eM⟩ : ∃ M, M = bigO (L.take j) := ⟨_, rfl⟩
          rw [← eM] at HB1 ⊢
          clear kk he eS eS' eM hE
          by_cases hbg : M < e.c
          · have hbg' : decide (M < e.c) = true := decide_eq_true hbg
            go_wp2_with fail
            go_roundw
            case rel => exact ⟨j + 1, _, by omega, by simp, by rw [HS1.out], rfl, HNX.out, by rw [HB1.out]; congr 1; omega, KR.out.alloc _⟩
            case measure => simp only [intOf]; omega
          · have hbg' : decide (M < e.c) = false := decide_eq_false hbg
            go_wp2_with fail
            go_roundw
            case rel => exact ⟨j + 1, _, by omega, by simp, by rw [HS1.out], rfl, HNX.out, by rw [HB1.out]; congr 1; omega, KR.out.alloc _⟩
            case measure => simp only [intOf]; omega
        · have c1' : decide ((j : Int) < (n : Int)) = false := by simp only [decide_eq_false_iff_not]; omega
          obtain rfl : j = n := by omega
          have E1 : sum (L.take j) = sum L := by rw [EN.out, List.take_length]
          have E2 : bigO (L.take j) = big L := by rw [EN.out, List.take_length]; exact HBO.out
          rw [E1, E2]
          clear kk t0 t1 E1 E2
          go_wp2_with fail
          go_meet
          exact ⟨rfl, ⟨E, rfl⟩, rfl, KR.out⟩
    case rest =>
      obtain ⟨rfl, ⟨E, rfl⟩, rfl, kc⟩ := hcut
      have hspc := SpX.on HS.out (K3.out.trans' kc)
      have HL1 : Hid _ := left_x hspc
      have HL2 : Hid (∀ W, Kept wc W → _) := fun W (k : Kept wc W) => largest_x (hspc.on k)
      have HSC : Hid _ := hspc
      have KC : Hid _ := kc
      clear hspc kc
      obtain ⟨SL, eSL⟩ : ∃ SL, SL = sum L := ⟨_, rfl⟩
      obtain ⟨BL, eBL⟩ : ∃ BL, BL = big L := ⟨_, rfl⟩
      rw [← eSL] at HL1 ⊢
      rw [← eBL] at HL2 ⊢
      clear eSL eBL
      go_wp2_with fail
      refine Calls.mono HL1.out ?_
      rintro r w4 ⟨rfl, k4⟩
      go_wp2_with fail
      refine Calls.mono (HL2.out _ k4) ?_
      rintro r w5 ⟨rfl, k5⟩
      have K5 : Hid (Kept w3 w5) := (KC.out.trans' k4).trans' k5
      clear k4 k5
      have S5 : Hid (SpX (fun k => k < w.heap.size ∨ InB ga L.length k) w5 p N L) := by
        have h5 := SpX.on HS.out (K3.out.trans' K5.out)
        obtain ⟨a, hb, c, q, q1, q2⟩ := HS.out
        obtain h6 := q.kept0 (K3.out.trans' K5.out)
        refine ⟨a, hb, c, h6, ?_, ?_⟩
        · rintro (e | e)
          · exact q1 e
          · have := HG.out _ e; have := q.ltb; omega
        · rintro (e | e)
          · exact q2 e
          · have := HG.out _ e; have := q.lt; omega
      have K05 : Hid (Kept w w5) := KK.out.trans' (K3.out.trans' K5.out)
      clear HL1 HL2 HSC
      go_upto_block 5 with fail
      go_cut [123] (fun _ wx => SpX (fun k => k < w.heap.size ∨ InB ga L.length k) wx p N [] ∧ Kept w wx)
      case first =>
        go_wp2_with fail
        go_loopw [123] (fun i wr => ∃ (j : Nat) (L' : List Ex), j ≤ n ∧ i = .int .i64 j ∧ SpX (fun k => k < w.heap.size ∨ InB ga L.length k) wr p N L' ∧ (∀ b, Mm b L' ↔ Mm b (L.drop j)) ∧ Same (fun k => ¬ (k < w.heap.size ∨ InB ga L.length k)) w5 wr) (fun i _ => n - (intOf i).toNat)
        case atStart => exact ⟨0, L, Nat.zero_le _, rfl, S5.out, fun b => Iff.rfl, Same.refl _ _⟩
        case round =>
          obtain ⟨j, L', hj, rfl, hsp, hmm, kk⟩ := hrel
          have KR : Hid _ := kk
          have HSR : Hid _ := hsp
          have HMM : Hid _ := hmm
          have HKW : Hid (Kept w wr) := K05.out.trans kk fun i hi e => e (.inl hi)
          have hXs : Hid (∀ k, (k < w.heap.size ∨ InB ga L.length k) → k < wr.heap.size) := fun k hk => by
            rcases hk with h | h
            · exact Nat.lt_of_lt_of_le h HKW.out.size
            · exact Nat.lt_of_lt_of_le (ExtsAt.lt (ExtsAt.kept HE.out K5.out (fun _ _ h => h)) h) KR.out.size
          by_cases hlt : j < n
          · have c1' : decide ((j : Int) < (n : Int)) = true := by simp only [decide_eq_true_eq]; omega
            have hlt2 : (j : Int) < (n : Int) := by omega
            obtain ⟨e, he⟩ : ∃ e, L[j]? = some e := ⟨_, List.getElem?_eq_getElem (by rw [← EN.out]; exact hlt)⟩
            obtain ⟨b, off, hga, hb, q0, q1⟩ := (ExtsAt.kept (ExtsAt.kept HE.out K5.out (fun _ _ h => h)) kk (fun k h e => e (.inr h))) j e he
            obtain ⟨m1, m2, m3⟩ := HW.out.mem (List.mem_of_getElem? he)
            have h4 := SpX.small HS.out
            have hX5 : ∀ k, ((k < w.heap.size ∨ InB ga L.length k) ∨ k = wr.heap.size) → k < (wr.alloc (exO e)).heap.size := fun k hk => by
              rw [World.size_alloc]
              rcases hk with h | h
              · have := hXs.out k h; omega
              · omega
            have HT1 : Hid _ := take_x hX5 (SpX.box hsp (exO e)) e (by omega)
            have hall : AllF e L' := fun x x1 x2 => (hmm x).2 ((mm_drop he x).2 (.inl ⟨x1, x2⟩))
            have hhas : Has N e := ⟨m2, m1, by omega⟩
            have HE1 : Hid _ := he
            have HAL : Hid _ := hall
            have HHS : Hid _ := hhas
            subst hga
            unfold exV exO at *
            clear kk he hsp hmm hall hhas hX5
            go_wp2_with fail
            refine Calls.mono HT1.out ?_
            rintro r w6 ⟨z, L6, rfl, ⟨hs6, k6⟩, h6⟩
            obtain ⟨rfl, hm6⟩ : z = 0 ∧ ∀ b, Mm b L6 ↔ Mm b L' ∧ ¬ (e.f ≤ b ∧ b < e.f + e.c) := by
              rcases h6 with ⟨h, _⟩ | ⟨_, h, _⟩ | ⟨_, _, h1, h2⟩
              · exact absurd HHS.out h
              · exact absurd HAL.out h
              · exact ⟨h1, h2⟩
            have kA : Kept wr (wr.alloc (exO e)) := (Same.refl _ _).alloc _
            have hX6 : ∀ k, (k < w.heap.size ∨ InB (some ⟨b, off, none⟩) L.length k) → k < w6.heap.size := fun k hk => Nat.lt_of_lt_of_le (hXs.out k hk) (Nat.le_trans kA.size k6.size)
            have HT2 : Hid _ := take_x hX6 hs6.unbox ⟨e.f, 1⟩ (by show e.f ≤ _; omega)
            have hbx : w6.heap[wr.heap.size]? = some (exO e) := (k6.block _ (by simp) (fun h => h (.inr rfl))).trans (heap_new _ _)
            have y0 : w6.cell? ⟨wr.heap.size, 0, none⟩ = some (.int .i64 e.f) := (cell_of hbx 0).trans rfl
            have yl := lt_of_heap hbx
            have HM6 : Hid _ := hm6
            have K6 : Hid (Same (fun k => ¬ (k < w.heap.size ∨ InB (some ⟨b, off, none⟩) L.length k)) wr w6) := (kA.to _).trans' (k6.mono fun k _ h e => h (.inl e))
            have HNO : Hid (¬ AllF ⟨e.f, 1⟩ L6) := fun ha => ((hm6 e.f).1 (ha e.f (Int.le_refl _) (by show e.f < e.f + 1; omega))).2 ⟨Int.le_refl _, by omega⟩
            have HH2 : Hid (Has N ⟨e.f, 1⟩) := ⟨Int.le_refl _, m1, by show 1 ≤ (N : Int) - e.f; omega⟩
            have HMN : Hid (∀ x, Mm x L6 ↔ Mm x (L.drop (j + 1))) := fun x => by
              rw [hm6 x, HMM.out x, mm_drop HE1.out x]
              constructor
              · rintro ⟨h | h, hn⟩
                · exact absurd h hn
                · exact h
              · intro h
                exact ⟨.inr h, apart HW.out HE1.out h⟩
            clear h6 hm6 k6 hs6 hbx hX6 kA
            unfold exV at HT2
            go_wp2_with fail
            refine Calls.mono HT2.out ?_
            rintro r w7 ⟨z, L7, rfl, ⟨hs7, k7⟩, h7⟩
            obtain ⟨rfl, rfl⟩ : z = 45 ∧ L7 = L6 := by
              rcases h7 with ⟨h, _⟩ | ⟨_, _, h1, h2⟩ | ⟨_, h, _⟩
              · exact absurd HH2.out h
              · exact ⟨h1, h2⟩
              · exact absurd h HNO.out
            have HS7 : Hid _ := hs7
            have K7 : Hid _ := k7
            clear h7 hs7 k7
            go_wp2_with fail
            go_roundw
            case rel => exact ⟨j + 1, L7, by omega, by simp, HS7.out, HMN.out, (KR.out.trans' K6.out).trans' K7.out⟩
            case measure => simp only [intOf]; omega
          · have c1' : decide ((j : Int) < (n : Int)) = false := by simp only [decide_eq_false_iff_not]; omega
            obtain rfl : j = n := by omega
            have HL0 : L' = [] := by
              refine wf_eq hsp.wf (B := []) trivial fun b => ?_
              rw [hmm b, EN.out, List.drop_length]
            subst HL0
            clear kk hsp hmm
            go_wp2_with fail
            go_meet
            exact ⟨HSR.out, HKW.out⟩
      case rest =>
        obtain ⟨hsp, kc⟩ := hcut
        have HL1 : Hid _ := left_x hsp
        have KC2 : Hid _ := kc
        have hs0 : sum [] = 0 := rfl
        rw [hs0] at HL1
        clear hsp kc hs0
        go_wp2_with fail
        refine Calls.mono HL1.out ?_
        rintro r w8 ⟨rfl, k8⟩
        go_wp2_with fail
        go_ret
        exact ⟨rfl, KC2.out.trans' k8⟩
end Go.Proofs.Ytfllilgadphlcaa
