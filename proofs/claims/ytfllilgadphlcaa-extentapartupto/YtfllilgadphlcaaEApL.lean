/- What is proved: ExtentApart answers true for every number of blocks and every two lists of numbers in memory, the first of them of at most 1048576 numbers. -/
import Derived.Test.YtfllilgadphlcaaEApG
import Derived.Deep.DeepCutAuto
import Derived.Deep.CutBlock
namespace Go.Proofs.Ytfllilgadphlcaa
open Go.RowKit

set_option maxRecDepth 100000 in
theorem apart_no (N : Int) (a b : Value) (w : World) (hN : N < 0 ∨ 4096 < N) :
    Calls Try.prog 4 #[.int .i64 N, a, b] w fun e w' => e = .returned (.bool true) ∧ Kept w w' := by
  have hnot : ∀ (x : Bool) (w : World), (Op.unary .not (.bool x)).run Try.prog w = .ok (.bool (!x)) w := fun _ _ => rfl
  have HA : Hid (∀ w', _) := fun w' => anchor_any w'
  by_cases h1 : N < 0
  · have h1' : decide (N < 0) = true := decide_eq_true h1
    clear hN
    go_enter Try.func4, Try.ntmps4
    go_wp2_with fail
    refine Calls.mono (HA.out _) ?_
    rintro e w1 ⟨rfl, k1⟩
    go_wp2_with fail
    go_ret
    exact ⟨rfl, k1⟩
  · have h1' : decide (N < 0) = false := decide_eq_false h1
    have h2 : 4096 < N := by omega
    have h2' : decide (4096 < N) = true := decide_eq_true h2
    clear hN
    go_enter Try.func4, Try.ntmps4
    go_wp2_with fail
    refine Calls.mono (HA.out _) ?_
    rintro e w1 ⟨rfl, k1⟩
    go_wp2_with fail
    go_ret
    exact ⟨rfl, k1⟩

/-- What Alloc answers, as the law asks it. -/
theorem big_first {N : Nat} {L : List Ex} (h : WF 0 N L) {n : Int} (h1 : 1 ≤ n) (hb : n ≤ big L) : ¬ ∀ e ∈ L, e.c < n := fun ha => by
  rcases big_mem h with rfl | ⟨e, he, q⟩
  · simp only [big] at hb; omega
  · have := ha e he; omega
theorem first_big {L : List Ex} {n f : Int} (h : First L n f) : n ≤ big L := by
  obtain ⟨i, e, a1, _, a3, _⟩ := h
  have := big_ge (List.mem_of_getElem? a1)
  omega

set_option maxRecDepth 100000 in
set_option maxHeartbeats 400000 in
theorem apart_yes (N : Nat) (sa sb : Option Addr) (sc sbc : Nat) (ls lb : List Int) (w : World) (hN : N ≤ 4096) (hs : IntsAt w sa ls) (hsb : IntsAt w sb lb) (hlen : ls.length ≤ 1048576) :
    Calls Try.prog 4 #[.int .i64 (N : Int), .slice sa ls.length sc, .slice sb lb.length sbc] w fun e w' => e = .returned (.bool true) ∧ Kept w w' := by
  have hnot : ∀ (x : Bool) (w : World), (Op.unary .not (.bool x)).run Try.prog w = .ok (.bool (!x)) w := fun _ _ => rfl
  have HA : Hid (∀ w', _) := fun w' => anchor_any w'
  have HN : Hid (∀ w', _) := fun w' => new_x N hN w'
  have HO : Hid _ := hs
  have HOB : Hid _ := hsb
  have d1 : decide ((N : Int) < 0) = false := decide_eq_false (by omega)
  have d2 : decide (4096 < (N : Int)) = false := decide_eq_false (by omega)
  have hmk : ∀ W, (Instr.makeSlice 36 (.int .i64 (N : Int)) (.int .i64 (N : Int))).run Try.prog W = .ok (.slice (some ⟨W.heap.size, 0, none⟩) N N) (W.alloc (.cells (madeCells #[.int .i64 0] N) 3)) := fun W =>
    run_make_row' (P := Try.prog) 36 3 (.int .i64 0) 8 Try.underlying36 Try.infoInt rfl .i64 .i64 N (by omega) (by omega) W
  obtain ⟨m, em⟩ : ∃ m, m = ls.length := ⟨_, rfl⟩
  obtain ⟨mb, emb⟩ : ∃ mb, mb = lb.length := ⟨_, rfl⟩
  rw [← em] at hlen ⊢
  rw [← emb]
  have EM : Hid _ := em
  have EMB : Hid _ := emb
  clear em hs emb hsb
  go_enter Try.func4, Try.ntmps4
  go_wp2_with fail
  refine Calls.mono (HA.out _) ?_
  rintro e w1 ⟨rfl, k1⟩
  have K1 : Hid _ := k1
  clear k1
  go_wp2_with fail
  refine Calls.mono (HN.out _) ?_
  rintro e w2 ⟨p, L0, rfl, hsp, hm0, k2⟩
  have S2 : Hid _ := hsp
  have M2 : Hid _ := hm0
  have K2 : Hid _ := k2
  clear hsp hm0 k2
  go_wp2_with fail
  have A3 : Hid (ApG w (w2.alloc (.cells (madeCells #[.int .i64 0] N) 3)) p w2.heap.size N (.slice none 0 0) L0 (ow L0) []) := by
    have z1 := K1.out.size
    have z2 := K2.out.size
    refine ⟨?_, (World.rowIs_made w2 (.int .i64 0) N 3).congr fun b hb => ?_, World.ownsRow_nil _ _ _ _, (fun e => (by cases e)), by omega, (K1.out.trans' K2.out).alloc _⟩
    · refine (SpX.mono S2.out fun k hk e => ?_).on ((Same.refl _ _).alloc _)
      show k < w1.heap.size
      rcases e with e | e | e
      · omega
      · omega
      · cases e
    · show Value.int .i64 0 = _
      rw [ow_free ((M2.out b).2 (by omega))]
  have HSM : Hid (sum L0 = N) := by
    have hw := SpX.wf S2.out
    rcases Nat.eq_zero_or_pos N with h0 | h0
    · have : L0 = [] := wf_eq hw (B := []) trivial fun b => ⟨fun h => by have := hw.mm h; omega, fun h => absurd h (mm_nil b)⟩
      rw [this, h0]; rfl
    · have : L0 = [⟨0, N⟩] := wf_one hw 0 N (by omega) (by omega) (by omega) (fun b => by rw [M2.out b]; omega)
      rw [this]
      show (N : Int) + 0 = N
      omega
  have HWF0 : Hid (WF 0 N L0) := SpX.wf S2.out
  clear S2 M2 K1 K2
  go_loopw [44, 10, 11] (fun i hv lf wr => ∃ (j : Nat) (L H : List Ex) (av : Value), j ≤ m ∧ i = .int .i64 j ∧ av = hv ∧ lf = .int .i64 (sum L) ∧ ApG w wr p w2.heap.size N av L (ow L) H ∧ Hi N L H ∧ H.length = j) (fun i _ _ _ => m - (intOf i).toNat)
  case atStart => exact ⟨0, L0, [], _, Nat.zero_le _, rfl, rfl, by rw [HSM.out], A3.out, Hi.nil _ _, rfl⟩
  case round =>
    obtain ⟨j, L, H, hv, hj, rfl, rfl, rfl, hap, hhi, hHl⟩ := hrel
    have HAP : Hid _ := hap
    have HHI : Hid _ := hhi
    have HHL : Hid _ := hHl
    have HWF : Hid (WF 0 N L) := hap.sp.wf
    obtain ⟨t0, t1⟩ : 0 ≤ sum L ∧ sum L ≤ 4096 := by
      obtain ⟨a, b⟩ := sum_bounds HWF.out
      refine ⟨a, ?_⟩
      rcases b with b | b
      · rw [b]; simp [sum]
      · omega
    by_cases hlt : j < m
    · have c1' : decide ((j : Int) < (m : Int)) = true := by simp only [decide_eq_true_eq]; omega
      have hlt2 : (j : Int) < (m : Int) := by omega
      obtain ⟨n, hn⟩ : ∃ n, ls[j]? = some n := ⟨_, List.getElem?_eq_getElem (by rw [← EM.out]; exact hlt)⟩
      obtain ⟨b, off, rfl, hbl, q0⟩ := (IntsAt.on HO.out hap.kp) j n hn
      have HG : Hid _ := largest_x hap.sp
      have HAL : Hid (∀ W, Kept wr W → _) := fun W (k : Kept wr W) => alloc_x (hap.on k).lt (hap.on k).sp n
      obtain ⟨B, eB⟩ : ∃ B, B = big L := ⟨_, rfl⟩
      rw [← eB] at HG
      have EB : Hid _ := eB
      obtain ⟨S, eS⟩ : ∃ S, S = sum L := ⟨_, rfl⟩
      rw [← eS] at t0 t1 ⊢
      have ES : Hid _ := eS
      clear hap hhi hHl hn eB eS
      go_wp2_with fail
      refine Calls.mono HG.out ?_
      rintro r w3 ⟨rfl, k3⟩
      have K3 : Hid _ := k3
      clear k3
      go_wp2_with fail
      refine Calls.mono (HAL.out _ K3.out) ?_
      rintro r w4 ⟨f, cn, e, L', rfl, ⟨hs4, k4⟩, h4⟩
      have A4 : Hid (ApG w w4 p w2.heap.size N hv L' (ow L) H) := ApG.space (ApG.on HAP.out K3.out) hs4 k4
      have H4 : Hid _ := h4
      have HI4 : Hid (Hi N L' (H ++ [⟨f, cn⟩])) := by
        have hw' := hs4.wf
        refine HHI.out.add (fun b hb => ?_) (fun hc => ?_)
        · rcases h4 with ⟨_, _, _, _, rfl⟩ | ⟨_, _, _, _, _, rfl⟩ | ⟨_, _, _, _, h⟩
          · exact hb
          · exact hb
          · exact ((h b).1 hb).1
        · rcases h4 with ⟨_, _, _, rfl, rfl⟩ | ⟨_, _, _, _, rfl, rfl⟩ | ⟨h1, h2, _, rfl, h⟩
          · simp at hc
          · simp at hc
          · obtain ⟨a1, a2, a3⟩ := h2.all HWF.out h1
            exact ⟨⟨h1, a2, by show cn ≤ (N : Int) - f; omega⟩, a1, fun y y1 y2 hy => ((h y).1 hy).2 ⟨y1, y2⟩⟩
      have HS4 : Hid (sum L = sum L' + (if e = 0 then n else 0)) := by
        show sum L = sum L' + (if e = 0 then n else 0)
        rcases h4 with ⟨_, rfl, _, _, rfl⟩ | ⟨_, _, rfl, _, _, rfl⟩ | ⟨h1, h2, rfl, rfl, h⟩
        · simp
        · simp
        · obtain ⟨a1, a2, a3⟩ := h2.all HWF.out h1
          have := sum_sub (x := ⟨f, cn⟩) HWF.out hs4.wf a2 (by show 0 ≤ cn; omega) a3 a1 h
          simpa using this
      have AB : Hid (ApG w (w4.alloc (exO ⟨f, cn⟩)) p w2.heap.size N hv L' (ow L) H) := ApG.on A4.out ((Same.refl _ _).alloc _)
      have HGB : Hid (w2.heap.size < w4.heap.size) := A4.out.ow.lt
      have HBX : Hid ((w4.alloc (exO ⟨f, cn⟩)).heap[w4.heap.size]? = some (exO ⟨f, cn⟩)) := heap_new _ _
      have HB4 : Hid (sum L' ≤ 4096 ∧ 0 ≤ sum L') := by
        obtain ⟨a, b⟩ := sum_bounds hs4.wf
        refine ⟨?_, a⟩
        rcases b with b | b
        · rw [b]; simp [sum]
        · omega
      clear hs4 k4 h4 HG HAL
      go_upto_region 16 with fail
      go_cut [66] (fun s66 wx => s66 = .bool false ∧ ApG w wx p w2.heap.size N hv L' (ow L) H ∧ wx.heap[w4.heap.size]? = some (exO ⟨f, cn⟩))
      case first =>
        rcases H4.out with ⟨h1, rfl, rfl, rfl, rfl⟩ | ⟨h1, h2, rfl, rfl, rfl, rfl⟩ | ⟨h1, h2, rfl, rfl, h⟩
        · have z1 : decide (1 ≤ n) = false := decide_eq_false (by omega)
          clear HAP HHI HHL HWF A4 H4 HI4 HS4
          go_wp2_with fail
          go_meet
          exact ⟨rfl, AB.out, HBX.out⟩
        · have z1 : decide (1 ≤ n) = true := decide_eq_true h1
          have z2 : decide (n ≤ B) = false := decide_eq_false fun hh => big_first HWF.out h1 (by rw [← EB.out]; exact hh) h2
          clear HAP HHI HHL HWF A4 H4 HI4 HS4
          go_wp2_with fail
          go_meet
          exact ⟨rfl, AB.out, HBX.out⟩
        · have z1 : decide (1 ≤ cn) = true := decide_eq_true h1
          have z2 : decide (cn ≤ B) = true := decide_eq_true (by rw [EB.out]; exact first_big h2)
          clear HAP HHI HHL HWF A4 H4 HI4 HS4
          go_wp2_with fail
          go_meet
          exact ⟨rfl, AB.out, HBX.out⟩
      case rest =>
        obtain ⟨rfl, hap5, hbx5⟩ := hcut
        have A5 : Hid _ := hap5
        have BX5 : Hid _ := hbx5
        have x0 : wc.cell? ⟨w4.heap.size, 0, none⟩ = some (.int .i64 f) := (cell_of hbx5 0).trans rfl
        have x1 : wc.cell? ⟨w4.heap.size, 1, none⟩ = some (.int .i64 cn) := (cell_of hbx5 1).trans rfl
        have xl := lt_of_heap hbx5
        clear hap5 hbx5 A4 AB HBX
        go_upto_if 68 with fail
        go_cut [11, 17] (fun s11 _ wx => s11 = .int .i64 (sum L') ∧ ApG w wx p w2.heap.size N hv L' (ow L') H ∧ wx.heap[w4.heap.size]? = some (exO ⟨f, cn⟩))
        case first =>
          rcases H4.out with ⟨h1, rfl, rfl, rfl, rfl⟩ | ⟨h1, h2, rfl, rfl, rfl, rfl⟩ | ⟨h1, h2, rfl, rfl, h⟩
          · clear HAP HHI HHL HWF H4 HI4 HS4
            go_wp2_with fail
            go_meet
            exact ⟨by rw [ES.out], A5.out, BX5.out⟩
          · clear HAP HHI HHL HWF H4 HI4 HS4 h2
            go_wp2_with fail
            go_meet
            exact ⟨by rw [ES.out], A5.out, BX5.out⟩
          · obtain ⟨a1, a2, a3⟩ := h2.all HWF.out h1
            obtain ⟨fN, rfl⟩ := Int.eq_ofNat_of_zero_le a2
            obtain ⟨nn, rfl⟩ := Int.eq_ofNat_of_zero_le (show 0 ≤ cn by omega)
            have z1 : decide ((fN : Int) < 0) = false := decide_eq_false (by omega)
            have z2 : decide ((N : Int) - (nn : Int) < (fN : Int)) = false := decide_eq_false (by omega)
            have z3 : ¬ ((N : Int) - (nn : Int) < (fN : Int)) := by omega
            have HALF : Hid _ := a1
            have HM : Hid _ := h
            have hfn : fN + nn ≤ N := by omega
            have HSS : Hid (S - (nn : Int) = sum L') := by
              have := HS4.out
              have e := ES.out
              show S - (nn : Int) = sum L'
              simp only [if_true] at this
              omega
            have hnn : (nn : Int) ≤ 4096 := by omega
            clear HAP HHI HHL HWF H4 HI4 HS4 h2 h a1 a3
            go_wp2_with fail
            go_loopw [17] (fun s17 wr => ∃ i : Nat, fN ≤ i ∧ i ≤ fN + nn ∧ s17 = .int .i64 i ∧ ApG w wr p w2.heap.size N hv L' (mk1 (ow L) fN i 1) H ∧ wr.heap[w4.heap.size]? = some (exO ⟨fN, nn⟩)) (fun i _ => fN + nn - (intOf i).toNat)
            case atStart => exact ⟨fN, Nat.le_refl _, by omega, rfl, ApG.congr A5.out (fun b _ => by unfold mk1; rw [if_neg (by omega)]), BX5.out⟩
            case round =>
              obtain ⟨i, hi0, hi1, rfl, hap6, hbx6⟩ := hrel
              have A6 : Hid _ := hap6
              have BX6 : Hid _ := hbx6
              have y0 : wr.cell? ⟨w4.heap.size, 0, none⟩ = some (.int .i64 fN) := (cell_of hbx6 0).trans rfl
              have yl := lt_of_heap hbx6
              by_cases hil : i < fN + nn
              · have e1 : decide ((i : Int) < (fN : Int) + (nn : Int)) = true := by simp only [decide_eq_true_eq]; omega
                have e2 : (i : Int) < (fN : Int) + (nn : Int) := by omega
                have e3 : (i : Int) < (N : Int) := by omega
                have ci := hap6.ow.cell (i := i) (by omega)
                have hz : mk1 (ow L) fN i 1 i = 0 := by
                  unfold mk1
                  rw [if_neg (by omega)]
                  exact ow_free (HALF.out i (by show (fN : Int) ≤ i; omega) (by show (i : Int) < (fN : Int) + nn; omega))
                rw [hz] at ci
                have fi := hap6.ow.frozen i
                have gl := hap6.ow.lt
                clear hap6 hbx6 hz
                go_wp2_with fail
                go_roundw
                case rel =>
                  refine ⟨i + 1, by omega, by omega, by simp, ApG.congr (ApG.mark A6.out i 1) (fun b _ => ?_), ?_⟩
                  · unfold mk1
                    by_cases q : b = i
                    · rw [if_pos q, if_pos (by omega)]
                    · rw [if_neg q]
                      by_cases q2 : fN ≤ b ∧ b < i
                      · rw [if_pos q2, if_pos (by omega)]
                      · rw [if_neg q2, if_neg (by omega)]
                  · rw [Below.heap_setCell _ _ _ _ (by have := HGB.out; show w4.heap.size ≠ w2.heap.size; omega)]
                    exact BX6.out
                case measure => simp only [intOf]; omega
              · have e1 : decide ((i : Int) < (fN : Int) + (nn : Int)) = false := by simp only [decide_eq_false_iff_not]; omega
                obtain rfl : i = fN + nn := by omega
                clear hap6 hbx6
                go_wp2_with fail
                go_meet
                exact ⟨by rw [HSS.out], ApG.congr A6.out (fun b _ => ow_take HM.out b), BX6.out⟩
        case rest =>
          obtain ⟨rfl, hap7, hbx7⟩ := hcut
          have u0 : wc.cell? ⟨w4.heap.size, 0, none⟩ = some (.int .i64 f) := (cell_of hbx7 0).trans rfl
          have u1 : wc.cell? ⟨w4.heap.size, 1, none⟩ = some (.int .i64 cn) := (cell_of hbx7 1).trans rfl
          have ul := lt_of_heap hbx7
          have HAPP : Hid _ := ApG.app hap7 ⟨f, cn⟩ (by rw [HHL.out]; omega)
          obtain ⟨H1, eH1⟩ : ∃ H1, H1 = H ++ [⟨f, cn⟩] := ⟨_, rfl⟩
          obtain ⟨J, eJ⟩ : ∃ J, J = j + 1 := ⟨_, rfl⟩
          have hJ1 : H1.length = J := by rw [eH1, List.length_append, HHL.out, eJ]; rfl
          have HI1 : Hid (Hi N L' H1) := by rw [eH1]; exact HI4.out
          rw [← eH1] at HAPP
          have EJ : Hid _ := eJ
          have hJ0 : 0 < J := by omega
          obtain ⟨S1, eS1⟩ : ∃ S1, S1 = sum L' := ⟨_, rfl⟩
          have ES1 : Hid _ := eS1
          have hS1 : S1 ≤ 4096 ∧ 0 ≤ S1 := by rw [eS1]; exact HB4.out
          obtain ⟨hS1a, hS1b⟩ := hS1
          rw [← eS1]
          clear hap7 hbx7 A5 BX5 x0 x1 xl eH1 eJ eS1 HI4 HS4 H4 HB4 HHI HAP HWF t0 t1
          go_upto_region 29 with (at_builtin; refine wpList_app rfl (.tmp 107) (.tmp 109) 37 rfl hv (.slice (some ⟨wc.heap.size, 0, none⟩) 1 1) rfl rfl _ HAPP.out ?_; intro v6 w6 h6)
          obtain ⟨g, cap, rfl, hbg, hcap, hrow⟩ := row_of_own h6.hd (by rw [hJ1]; exact hJ0)
          have A6 : Hid _ := h6
          have HRW : Hid _ := hrow
          rw [hJ1]
          clear h6 hrow hbg hcap HAPP
          go_cut [141] (fun s141 wx => ∃ c : Bool, s141 = .bool c ∧ (c = true → ∃ (k : Nat) (y : Ex), lb[j]? = some (k : Int) ∧ j < mb ∧ k < J ∧ H1[k]? = some y ∧ 0 < y.c) ∧ wx = w6)
          case first =>
            by_cases a1 : j < mb
            · have a1' : decide ((j : Int) < (mb : Int)) = true := by simp only [decide_eq_true_eq]; omega
              have a1'' : (j : Int) < (mb : Int) := by omega
              obtain ⟨kv, hkv⟩ : ∃ kv, lb[j]? = some kv := ⟨_, List.getElem?_eq_getElem (by rw [← EMB.out]; exact a1)⟩
              obtain ⟨b2, off2, rfl, hbl2, r0⟩ := (IntsAt.on HOB.out A6.out.kp) j kv hkv
              have HKV : Hid _ := hkv
              clear hkv
              by_cases a2 : 0 ≤ kv
              · have a2' : decide (0 ≤ kv) = true := decide_eq_true a2
                obtain ⟨k, rfl⟩ := Int.eq_ofNat_of_zero_le a2
                by_cases a3 : k < J
                · have a3' : decide ((k : Int) < (J : Int)) = true := by simp only [decide_eq_true_eq]; omega
                  have a3'' : (k : Int) < (J : Int) := by omega
                  obtain ⟨y, hy⟩ : ∃ y, H1[k]? = some y := ⟨_, List.getElem?_eq_getElem (by omega)⟩
                  obtain ⟨b3, off3, e3, hbl3, -, s1⟩ := (Row.exts HRW.out) k y hy
                  cases e3
                  rw [Nat.zero_add] at s1
                  have HY : Hid _ := hy
                  clear hy
                  by_cases a4 : 0 < y.c
                  · have a4' : decide (0 < y.c) = true := decide_eq_true a4
                    clear A6 HRW HI1
                    go_wp2_with fail
                    go_meet
                    exact ⟨true, rfl, fun _ => ⟨k, y, HKV.out, a1, a3, HY.out, a4⟩, rfl⟩
                  · have a4' : decide (0 < y.c) = false := decide_eq_false a4
                    clear A6 HRW HI1
                    go_wp2_with fail
                    go_meet
                    exact ⟨false, rfl, (fun h => (by cases h)), rfl⟩
                · have a3' : decide ((k : Int) < (J : Int)) = false := by simp only [decide_eq_false_iff_not]; omega
                  clear A6 HRW HI1
                  go_wp2_with fail
                  go_meet
                  exact ⟨false, rfl, (fun h => (by cases h)), rfl⟩
              · have a2' : decide (0 ≤ kv) = false := decide_eq_false a2
                clear A6 HRW HI1
                go_wp2_with fail
                go_meet
                exact ⟨false, rfl, (fun h => (by cases h)), rfl⟩
            · have a1' : decide ((j : Int) < (mb : Int)) = false := by simp only [decide_eq_false_iff_not]; omega
              clear A6 HRW HI1
              go_wp2_with fail
              go_meet
              exact ⟨false, rfl, (fun h => (by cases h)), rfl⟩
          case rest =>
            obtain ⟨c, rfl, hc, rfl⟩ := hcut
            have HC : Hid _ := hc
            clear hc
            go_upto_if 141 with fail
            go_cut [10, 11, 18, 19] (fun s10 s11 _ _ wx => ∃ (L2 H2 : List Ex) (av : Value), av = s10 ∧ s11 = .int .i64 (sum L2) ∧ ApG w wx p w2.heap.size N av L2 (ow L2) H2 ∧ Hi N L2 H2 ∧ H2.length = J)
            case first =>
              cases c with
              | false =>
                go_wp2_with fail
                go_meet
                exact ⟨L', H1, _, rfl, by rw [ES1.out], by rw [← hJ1]; exact A6.out, HI1.out, hJ1⟩
              | true =>
                obtain ⟨k, y, hk, hjb, hkJ, hy, hyc⟩ := HC.out rfl
                have l1 : (j : Int) < (mb : Int) := by omega
                have l2 : (k : Int) < (J : Int) := by omega
                obtain ⟨b2, off2, rfl, hbl2, r0⟩ := (IntsAt.on HOB.out A6.out.kp) j _ hk
                obtain ⟨b3, off3, e3, hbl3, s0, s1⟩ := (Row.exts HRW.out) k y hy
                cases e3
                rw [Nat.zero_add] at s0 s1
                obtain ⟨hhas, hnone⟩ := HI1.out.one k y hy hyc
                obtain ⟨yf, yc⟩ := y
                obtain ⟨n1, n2, n3⟩ : 1 ≤ yc ∧ 0 ≤ yf ∧ yc ≤ (N : Int) - yf := hhas
                obtain ⟨yf, rfl⟩ := Int.eq_ofNat_of_zero_le n2
                obtain ⟨yc, rfl⟩ := Int.eq_ofNat_of_zero_le (show 0 ≤ yc by omega)
                have hhas : Has N ⟨(yf : Int), (yc : Int)⟩ := ⟨n1, n2, n3⟩
                have hyc : 0 < (yc : Int) := hyc
                have hyN : yf + yc ≤ N := by omega
                have hX7 : ∀ k, (XA w w2.heap.size (.slice (some ⟨g, 0, none⟩) H1.length cap) k ∨ k = wc.heap.size) → k < (wc.alloc (exO ⟨(yf : Int), (yc : Int)⟩)).heap.size := fun k hk => by
                  rw [World.size_alloc]
                  rcases hk with hk | hk
                  · have := A6.out.lt k hk; omega
                  · omega
                have HFR : Hid _ := free_x hX7 (SpX.box A6.out.sp (exO ⟨(yf : Int), (yc : Int)⟩)) ⟨(yf : Int), (yc : Int)⟩ (by show (yf : Int) ≤ _; omega)
                have HKK : Hid _ := hk
                have HYY : Hid _ := hy
                have HHS : Hid _ := hhas
                have HNN : Hid _ := hnone
                have HGW : Hid (w2.heap.size < wc.heap.size) := A6.out.ow.lt
                have HGG : Hid (g < wc.heap.size) := Row.lt HRW.out
                have HGO : Hid (g ≠ w2.heap.size) := fun e => A6.out.ne (by rw [e]; rfl)
                clear hk hy hhas hnone hX7 n3
                unfold exV exO at HFR
                go_wp2_with fail
                refine Calls.mono HFR.out ?_
                rintro r w7 ⟨z, L2, rfl, ⟨hs7, k7⟩, h7⟩
                obtain ⟨rfl, hm7⟩ : z = 0 ∧ ∀ b, Mm b L2 ↔ Mm b L' ∨ ((yf : Int) ≤ b ∧ b < (yf : Int) + yc) := by
                  rcases h7 with ⟨h, _⟩ | ⟨_, h, _⟩ | ⟨_, _, h1, h2⟩
                  · exact absurd HHS.out h
                  · exact absurd HNN.out h
                  · exact ⟨h1, h2⟩
                have A7 : Hid (ApG w w7 p w2.heap.size N (.slice (some ⟨g, 0, none⟩) H1.length cap) L2 (ow L') H1) :=
                  ApG.space (ApG.on A6.out ((Same.refl _ _).alloc (exO ⟨(yf : Int), (yc : Int)⟩))) hs7.unbox (k7.mono fun k _ e e' => e (.inl e'))
                have BY7 : Hid (w7.heap[wc.heap.size]? = some (exO ⟨(yf : Int), (yc : Int)⟩)) := (k7.block _ (by simp) (fun h => h (.inr rfl))).trans (heap_new _ _)
                have v0 : w7.cell? ⟨wc.heap.size, 0, none⟩ = some (.int .i64 yf) := (cell_of BY7.out 0).trans rfl
                have v1 : w7.cell? ⟨wc.heap.size, 1, none⟩ = some (.int .i64 yc) := (cell_of BY7.out 1).trans rfl
                have vl := lt_of_heap BY7.out
                have HM7 : Hid _ := hm7
                have HS7 : Hid (S1 + (yc : Int) = sum L2) := by
                  have := sum_add (x := ⟨(yf : Int), (yc : Int)⟩) (SpX.wf A6.out.sp) hs7.wf (by show (0 : Int) ≤ yf; omega) (by show (0 : Int) ≤ yc; omega) (by show (yf : Int) + yc ≤ N; omega) HNN.out hm7
                  show S1 + (yc : Int) = sum L2
                  rw [ES1.out, this]
                have hyc2 : (yc : Int) ≤ 4096 := by omega
                clear h7 hs7 k7 hm7 HFR HNN HHS
                go_wp2_with fail
                go_loopw [19] (fun s19 wr => ∃ i : Nat, yf ≤ i ∧ i ≤ yf + yc ∧ s19 = .int .i64 i ∧ ApG w wr p w2.heap.size N (.slice (some ⟨g, 0, none⟩) H1.length cap) L2 (mk1 (ow L') yf i 0) H1 ∧ wr.heap[wc.heap.size]? = some (exO ⟨(yf : Int), (yc : Int)⟩)) (fun i _ => yf + yc - (intOf i).toNat)
                case atStart => exact ⟨yf, Nat.le_refl _, by omega, rfl, ApG.congr A7.out (fun b _ => by unfold mk1; rw [if_neg (by omega)]), BY7.out⟩
                case round =>
                  obtain ⟨i, hi0, hi1, rfl, hap8, hbx8⟩ := hrel
                  have A8 : Hid _ := hap8
                  have BX8 : Hid _ := hbx8
                  have y0 : wr.cell? ⟨wc.heap.size, 0, none⟩ = some (.int .i64 yf) := (cell_of hbx8 0).trans rfl
                  have y1 : wr.cell? ⟨wc.heap.size, 1, none⟩ = some (.int .i64 yc) := (cell_of hbx8 1).trans rfl
                  have yl := lt_of_heap hbx8
                  by_cases hil : i < yf + yc
                  · have e1 : decide ((i : Int) < (yf : Int) + (yc : Int)) = true := by simp only [decide_eq_true_eq]; omega
                    have e2 : (i : Int) < (yf : Int) + (yc : Int) := by omega
                    have e3 : (i : Int) < (N : Int) := by omega
                    have ci := hap8.ow.cell (i := i) (by omega)
                    have fi := hap8.ow.frozen i
                    have gl := hap8.ow.lt
                    clear hap8 hbx8
                    go_wp2_with fail
                    go_roundw
                    case rel =>
                      refine ⟨i + 1, by omega, by omega, by simp, ApG.congr (ApG.mark A8.out i 0) (fun b _ => ?_), ?_⟩
                      · unfold mk1
                        by_cases q : b = i
                        · rw [if_pos q, if_pos (by omega)]
                        · rw [if_neg q]
                          by_cases q2 : yf ≤ b ∧ b < i
                          · rw [if_pos q2, if_pos (by omega)]
                          · rw [if_neg q2, if_neg (by omega)]
                      · rw [Below.heap_setCell _ _ _ _ (by have := HGW.out; show wc.heap.size ≠ w2.heap.size; omega)]
                        exact BX8.out
                    case measure => simp only [intOf]; omega
                  · have e1 : decide ((i : Int) < (yf : Int) + (yc : Int)) = false := by simp only [decide_eq_false_iff_not]; omega
                    obtain rfl : i = yf + yc := by omega
                    have A9 : Hid (ApG w wr p w2.heap.size N (.slice (some ⟨g, 0, none⟩) H1.length cap) L2 (ow L2) H1) := ApG.congr hap8 (fun b _ => ow_back HM7.out b)
                    obtain ⟨b4, off4, e4, hbl4, r4⟩ := (IntsAt.on HOB.out hap8.kp) j _ HKK.out
                    cases e4
                    obtain ⟨g', cap', e5, -, -, hrow9⟩ := row_of_own hap8.hd (by rw [hJ1]; exact hJ0)
                    cases e5
                    obtain ⟨b5, off5, e6, hbl5, s4, s5⟩ := (Row.exts hrow9) k _ HYY.out
                    cases e6
                    rw [Nat.zero_add] at s4 s5
                    have f4 := hrow9.frozen (k * 2)
                    have f5 := hrow9.frozen (k * 2 + 1)
                    clear hap8 hbx8 hrow9
                    go_wp2_with fail
                    go_meet
                    refine ⟨L2, H1.set k ⟨0, 0⟩, _, rfl, by rw [HS7.out], ?_, Hi.back HI1.out HYY.out hyc HM7.out, by rw [List.length_set]; exact hJ1⟩
                    have := ApG.store A9.out k (by rw [hJ1]; exact hkJ) ⟨0, 0⟩
                    rw [hJ1] at this
                    exact this
            case rest =>
              obtain ⟨L2, H2, av, rfl, rfl, hap9, hhi9, hl9⟩ := hcut
              have HL9 : Hid _ := left_x hap9.sp
              have A9 : Hid _ := hap9
              have HI9 : Hid _ := hhi9
              have HLL : Hid _ := hl9
              obtain ⟨S2, eS2⟩ : ∃ S2, S2 = sum L2 := ⟨_, rfl⟩
              rw [← eS2] at HL9 ⊢
              have ES2 : Hid _ := eS2
              clear hap9 hhi9 hl9 eS2 A6 HRW HI1
              go_wp2_with fail
              refine Calls.mono HL9.out ?_
              rintro r w8 ⟨rfl, k8⟩
              go_wp2_with fail
              go_roundw
              case rel => exact ⟨j + 1, L2, H2, _, by omega, by simp, rfl, by rw [ES2.out], ApG.on A9.out k8, HI9.out, by rw [HLL.out, EJ.out]⟩
              case measure => simp only [intOf]; omega
    · have c1' : decide ((j : Int) < (m : Int)) = false := by simp only [decide_eq_false_iff_not]; omega
      clear hap hhi hHl
      go_wp2_with fail
      go_ret
      exact ⟨rfl, HAP.out.kp⟩
end Go.Proofs.Ytfllilgadphlcaa
