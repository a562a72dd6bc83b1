/- What is proved: the law MachineAborted answers true, and all that was there stays as it was; the scripts lie in memory. -/
import Derived.Test.YtmlefbpdlgnkgabKAbP
namespace Go.Proofs.Ytmlefbpdlgnkgab
open Go.RowKit

theorem MkN.wide {w W Z : World} {mb : Nat} {M : Mm} (h : MkN w W mb M) (k : Kept W Z) : MkB w Z mb M (fun b => W.heap.size ≤ b ∧ b < Z.heap.size) := by
  obtain ⟨F, h1, h2, h3⟩ := h
  exact ⟨F, h1.on k, h2, Same.trans' h3 k, fun b hb => ⟨fun e => by have := h1.lt b e; omega, hb.2⟩⟩
theorem row_eq {base : Nat} {w w' : World} {e : TypeId} {n m : Nat} {v : Value} {l : List Value} (h : w.ownsRow base e n v m l) (hb : ∀ b, base ≤ b ∧ b < w.heap.size → w'.heap[b]? = w.heap[b]?) : w'.ownsRow base e n v m l := by
  rcases h.2 with ⟨rfl, h0⟩ | ⟨g, cap, cur, rfl, hbg, hg, hr⟩
  · exact ⟨h.1, .inl ⟨rfl, h0⟩⟩
  · exact ⟨h.1, .inr ⟨g, cap, cur, rfl, hbg, (hb g ⟨hbg, lt_of_heap hg⟩).trans hg, hr⟩⟩
/-- The answers told before. -/
def bef (A : List En) (c : Int) (l : List Stp) : List An := l.map fun s => ⟨((atM (ch A s.key) c).getD v0).f, ((atM (ch A s.key) c).getD v0).v, 0⟩
theorem bef_take {A : List En} {c : Int} {l : List Stp} {j : Nat} {s : Stp} (h : l[j]? = some s) : bef A c (l.take (j + 1)) = bef A c (l.take j) ++ [⟨((atM (ch A s.key) c).getD v0).f, ((atM (ch A s.key) c).getD v0).v, 0⟩] := by
  rw [List.take_add_one, h]
  simp [bef]
set_option maxRecDepth 100000 in
set_option maxHeartbeats 6400000 in
theorem aborted_law {w : World} {a : Option Addr} {l : List Stp} {cap : Nat} (hl : StepsAt w a l) (hs : SmallS l) (hn : l.length ≤ 9223372036854775807) {a' : Option Addr} {l' : List Stp} {cap' : Nat} (hl' : StepsAt w a' l') (hs' : SmallS l') (hn' : l'.length ≤ 2513169434918) :
    Calls Try.prog 3 #[.slice a l.length cap, .slice a' l'.length cap'] w fun e w' => e = .returned (.bool true) ∧ Kept w w' := by
  have HAN : Hid _ := anchor15 w
  have HPL : Hid (∀ W, Kept w W → Calls Try.prog 7 #[.slice a l.length cap] W fun e w' => ∃ mb, e = .returned (.pointer (some ⟨mb, 0, none⟩)) ∧ MkN W w' mb (plM (newM 4 0) l)) := fun W k' => played15 (hl.on k') hs hn
  have hok0 : Ok 4 (plM (newM 4 0) l) := plM_ok l (Ok.new (by decide) (by decide))
  have HL' : Hid (StepsAt w a' l') := hl'
  have HS' : Hid (SmallS l') := hs'
  clear hl hs hn hl' hs'
  generalize plM (newM 4 0) l = M0 at *
  generalize l.length = ln at *
  obtain ⟨n, en⟩ : ∃ n, n = l'.length := ⟨_, rfl⟩
  have EN : Hid (n = l'.length) := en
  rw [← en] at hn' ⊢
  clear en
  obtain ⟨M', eM'⟩ : ∃ M', freeM M0 = M' := ⟨_, rfl⟩
  obtain ⟨fr, efr⟩ : ∃ fr, freeB M' = fr := ⟨_, rfl⟩
  have hok' : Ok 4 M' := by rw [← eM']; exact hok0.free
  have HFR : Hid (∀ w0 W mb, MkN w0 W mb M0 → Calls Try.prog 8 #[.pointer (some ⟨mb, 0, none⟩)] W fun e w'' => e = .returned (.bool fr) ∧ MkN w0 w'' mb M') := fun w0 W mb h => free15 h hok0 eM' efr
  obtain ⟨M1, an1, cd1, x1, x2⟩ : ∃ M1 an1 cd1, doM M' ⟨1, 3, 0, e0, e0⟩ = (M1, an1) ∧ codeD M' ⟨1, 3, 0, e0, e0⟩ = cd1 := ⟨_, _, _, rfl, rfl⟩
  have HW1 : Hid (fr = true → Wrt M'.A M'.clock M1) := fun h1 => by
    obtain ⟨f1, f2, f3⟩ := freeB_true (efr.trans h1)
    have h9 := Wrt.begin hok' f1 (by omega) (by omega)
    rw [x1] at h9
    exact h9
  have hav : ∀ e ∈ M'.A, e.x.c ≤ M'.clock := fun e he => (hok'.inv.av e he).2
  obtain ⟨VL, eVL⟩ : ∃ VL : ByteArray → Vn, VL = fun k => (atM (ch M'.A k) M'.clock).getD v0 := ⟨_, rfl⟩
  have HVAL : Hid (∀ M k, Wrt M'.A M'.clock M → valM M k = VL k) := fun M k h => by rw [h.val hav k, eVL]
  have HVA2 : Hid (∀ M k, M.A = M'.A → M'.clock ≤ M.clock → valM M k = VL k) := fun M k h1 h2 => by
    unfold valM
    rw [h1, eVL, at_all (t := M'.clock) (fun y hy => ?_) h2]
    obtain ⟨e, he, -, rfl⟩ := mem_ch.1 hy
    exact hav e he
  have HBT : Hid (∀ (j : Nat) (s : Stp), l'[j]? = some s → bef M'.A M'.clock (l'.take (j + 1)) = bef M'.A M'.clock (l'.take j) ++ [(⟨(VL s.key).f, (VL s.key).v, 0⟩ : An)]) := fun j s h => by rw [bef_take h, eVL]
  have HBG : Hid (∀ (j : Nat) (s : Stp), l'[j]? = some s → (bef M'.A M'.clock l')[j]? = some (⟨(VL s.key).f, (VL s.key).v, 0⟩ : An)) := fun j s h => by
    unfold bef
    rw [List.getElem?_map, h, eVL]
    rfl
  have HBL : Hid (∀ j, (bef M'.A M'.clock (l'.take j)).length = min j l'.length ∧ (bef M'.A M'.clock l').length = l'.length) := fun j => by simp [bef]
  have X1 : Hid _ := And.intro x1 x2
  generalize M'.A = A0 at *
  generalize M'.clock = c0 at *
  clear eM' efr hok0 hok' x1 x2 hav eVL
  go_enter Try.func3, Try.ntmps3
  go_wp2_with fail
  refine Calls.mono HAN.out ?_
  rintro e w0 ⟨rfl, k0⟩
  have K0 : Hid (Kept w w0) := k0
  clear k0 HAN
  go_wp2_with fail
  refine Calls.mono (HPL.out w0 K0.out) ?_
  rintro e w1 ⟨mb, rfl, m1⟩
  have MA1 : Hid (MkN w w1 mb M0) := MkN.behind K0.out m1
  clear m1 HPL
  go_wp2_with fail
  refine Calls.mono (HFR.out w _ mb MA1.out) ?_
  rintro e w3 ⟨rfl, m3⟩
  have M3 : Hid (MkN w w3 mb M') := m3
  clear m3 HFR MA1
  cases fr with
  | false =>
    go_wp2_with fail
    go_ret
    exact ⟨rfl, MkN.kept M3.out⟩
  | true =>
    have HWW : Hid (Wrt A0 c0 M1) := HW1.out (by simp)
    have D1 : Hid _ := MkN.doN M3.out 1 3 0 e0 e0 (by decide) (by decide) X1.out.1 X1.out.2
    clear HW1
    go_wp2_with fail
    refine Calls.mono D1.out ?_
    rintro e u1 ⟨rfl, n1⟩
    have N1 : Hid (MkN w u1 mb M1) := n1
    clear n1 D1 M3
    go_upto_region 10 with fail
    go_loopw [38] (fun i wr => ∃ (j : Nat) (Mj : Mm), j ≤ n ∧ i = .int .i64 (j : Int) ∧ MkN w wr mb Mj ∧ Wrt A0 c0 Mj) (fun i _ => n - (intOf i).toNat)
    case atStart => exact ⟨0, M1, Nat.zero_le _, rfl, N1.out, HWW.out⟩
    case round =>
      obtain ⟨j, Mj, hj, rfl, mj, sj⟩ := hrel
      have MJ : Hid (MkN w wr mb Mj) := mj
      have SJ : Hid (Wrt A0 c0 Mj) := sj
      clear mj sj N1 HWW
      by_cases hlt : j < n
      · have c1 : decide ((j : Int) < (n : Int)) = true := by simp only [decide_eq_true_eq]; omega
        have hlt2 : (j : Int) < (n : Int) := by omega
        obtain ⟨s, hsj⟩ : ∃ s, l'[j]? = some s := ⟨_, List.getElem?_eq_getElem (by rw [← EN.out]; exact hlt)⟩
        obtain ⟨b, off, rfl, hb, q0, q1, q2, q3, q4⟩ := (StepsAt.on HL'.out (MkN.kept MJ.out)) j s hsj
        obtain ⟨hsk, hsv⟩ := HS'.out s (List.mem_of_getElem? hsj)
        obtain ⟨A, c, M'', x1, x2⟩ : ∃ A c M'', doM Mj ⟨3, 3, s.gap, s.key, s.value⟩ = (M'', A) ∧ codeD Mj ⟨3, 3, s.gap, s.key, s.value⟩ = c := ⟨_, _, _, rfl, rfl⟩
        have SX : Hid (Wrt A0 c0 M'') := by
          have h9 := Wrt.write SJ.out s.gap s.key s.value
          rw [x1] at h9
          exact h9
        have MX : Hid (MkB w (wr.alloc (.cells #[.int .i64 s.kind, .int .i64 s.ses, .int .i64 s.gap, .string s.key, .string s.value] 33 (0, 0))) mb Mj (fun b => b = wr.heap.size ∨ False)) := MkB.add (MkN.b MJ.out) _
        have HST : Hid (StB (wr.alloc (.cells #[.int .i64 s.kind, .int .i64 s.ses, .int .i64 s.gap, .string s.key, .string s.value] 33 (0, 0))) wr.heap.size s.kind s.ses s.gap s.key s.value) := heap_new _ _
        obtain ⟨xv, exv⟩ : ∃ xv, VL s.key = xv := ⟨_, rfl⟩
        have D1 : Hid _ := MkN.valN (MkB.n MX.out) s.key hsk ((HVAL.out Mj s.key SJ.out).trans exv)
        have EXV : Hid (VL s.key = xv) := exv
        have X2 : Hid _ := And.intro x1 x2
        clear hsj x1 x2 exv
        go_wp2_with fail
        generalize wr.alloc (.cells #[.int .i64 s.kind, .int .i64 s.ses, .int .i64 s.gap, .string s.key, .string s.value] 33 (0, 0)) = W7 at *
        generalize wr.heap.size = g7 at *
        refine Calls.mono D1.out ?_
        rintro r v1 ⟨rfl, kv1⟩
        have HS1 : Hid (StB v1 g7 s.kind s.ses s.gap s.key s.value) := StB.on HST.out kv1
        obtain ⟨hg7, y0, y1, y2, y3, y4⟩ := StB.cells HS1.out
        have D2 : Hid _ := MkB.doB (MkB.on MX.out kv1) 3 3 s.gap s.key s.value hsk hsv X2.out.1 X2.out.2
        clear kv1 D1
        go_wp2_with fail
        refine Calls.mono D2.out ?_
        rintro r v2 ⟨rfl, n2, b2⟩
        have HS2 : Hid (StB v2 g7 s.kind s.ses s.gap s.key s.value) := (b2 g7 (.inl rfl)).trans HS1.out
        obtain ⟨hg72, r0, r1, r2, r3, r4⟩ := StB.cells HS2.out
        have D3 : Hid _ := MkN.valN (MkB.n n2) s.key hsk (x := xv) ((HVAL.out M'' s.key SX.out).trans EXV.out)
        have N2 : Hid (MkN w v2 mb M'') := MkB.n n2
        clear n2 b2 D2 y0 y1 y2 y3 y4
        go_wp2_with fail
        refine Calls.mono D3.out ?_
        rintro r v3 ⟨rfl, kv3⟩
        have N3 : Hid (MkN w v3 mb M'') := MkN.on N2.out kv3
        clear kv3 D3
        have nv : (xv.v.toList != xv.v.toList) = false := by simp
        have nf : (xv.f != xv.f) = false := by simp
        go_wp2_with fail
        go_roundw
        case rel => exact ⟨j + 1, M'', by omega, by first | rfl | simp, N3.out, SX.out⟩
        case measure => simp only [intOf]; omega
      · have c1 : decide ((j : Int) < (n : Int)) = false := by simp only [decide_eq_false_iff_not]; omega
        obtain rfl : n = j := by omega
        have Z0 : Hid (MkN w wr mb Mj) := MJ.out
        clear hlt
        go_upto_region 20 with fail
        go_loopw [12, 76] (fun v i wz => ∃ j : Nat, j ≤ n ∧ i = .int .i64 (j : Int) ∧ OwnA wr.heap.size wz v (bef A0 c0 (l'.take j)) ∧ Kept wr wz) (fun _ i _ => n - (intOf i).toNat)
        case atStart => exact ⟨0, Nat.zero_le _, rfl, OwnA.nil _ _, Same.refl _ _⟩
        case round =>
          rename World => wz
          obtain ⟨j, hj2, rfl, oj, kj⟩ := hrel
          have hlb : (bef A0 c0 (l'.take j)).length = j := by
            have h9 := (HBL.out j).1
            rw [← EN.out] at h9
            omega
          obtain ⟨va, vc, rfl, -⟩ := row_shape oj
          rw [hlb] at oj ⊢
          have OJ : Hid (OwnA wr.heap.size wz (.slice va j vc) (bef A0 c0 (l'.take j))) := oj
          have KJ : Hid (Kept wr wz) := kj
          have HLB : Hid ((bef A0 c0 (l'.take j)).length = j) := hlb
          clear oj kj hlb
          by_cases hlt : j < n
          · have c1 : decide ((j : Int) < (n : Int)) = true := by simp only [decide_eq_true_eq]; omega
            have hlt2 : (j : Int) < (n : Int) := by omega
            obtain ⟨s, hsj⟩ : ∃ s, l'[j]? = some s := ⟨_, List.getElem?_eq_getElem (by rw [← EN.out]; exact hlt)⟩
            obtain ⟨b, off, rfl, hb, q0, q1, q2, q3, q4⟩ := (StepsAt.on HL'.out (Same.trans' (MkN.kept Z0.out) KJ.out)) j s hsj
            obtain ⟨hsk, hsv⟩ := HS'.out s (List.mem_of_getElem? hsj)
            have KX : Hid (Kept wr (wz.alloc (.cells #[.int .i64 s.kind, .int .i64 s.ses, .int .i64 s.gap, .string s.key, .string s.value] 33 (0, 0)))) := Same.alloc KJ.out _
            obtain ⟨xv, exv⟩ : ∃ xv, VL s.key = xv := ⟨_, rfl⟩
            have D1 : Hid _ := MkN.valN (MkN.on Z0.out KX.out) s.key hsk ((HVAL.out Mj s.key SJ.out).trans exv)
            have HTK : Hid (bef A0 c0 (l'.take (j + 1)) = bef A0 c0 (l'.take j) ++ [⟨xv.f, xv.v, 0⟩]) := by have h9 := HBT.out j s hsj; rw [exv] at h9; exact h9
            clear hsj exv
            go_wp2_with fail
            refine Calls.mono D1.out ?_
            rintro r v1 ⟨rfl, kv1⟩
            have KV : Hid (Kept wr v1) := Same.trans' KX.out kv1
            have OV : Hid (OwnA wr.heap.size v1 (.slice va j vc) (bef A0 c0 (l'.take j))) := row_kept OJ.out (Same.trans' ((Same.refl (fun _ => False) wz).alloc _) kv1) fun _ _ e => e
            have HAP : Hid (∀ ty, ∃ v' w', (Builtin.append_ #[36, 36] ty #[.slice va j vc, .slice (some ⟨v1.heap.size, 0, none⟩) 1 1]).run Try.prog (v1.alloc (.cells #[.bool xv.f, .string xv.v, .int .i64 0] 28 (0, 0))) = .ok v' w' ∧ (OwnA wr.heap.size w' v' (bef A0 c0 (l'.take j) ++ [⟨xv.f, xv.v, 0⟩]) ∧ Kept wr w')) := fun ty => by
              obtain ⟨v', w', g0, g1, g2, -⟩ := app_an ⟨xv.f, xv.v, 0⟩ (row_kept OV.out ((Same.refl (fun _ => False) v1).alloc (.cells #[.bool xv.f, .string xv.v, .int .i64 0] 28 (0, 0))) fun _ _ e => e) (heap_new v1 _) (by rw [HLB.out]; omega) (by rw [World.size_alloc]; have := Same.size KV.out; omega) ty
              refine ⟨v', w', g0, g1, Same.trans (Same.alloc KV.out _) g2 fun b hb e => ?_⟩
              have := (row_block OV.out e).1
              omega
            clear kv1 D1
            go_wp2_with (at_builtin; refine wpList_app rfl (.tmp 87) (.tmp 91) 36 rfl _ _ rfl rfl _ HAP.out ?_; rintro v' w1 ⟨hr1, hr2⟩; have HR1 : Hid _ := hr1; have HR2 : Hid _ := hr2; clear hr1 hr2)
            go_roundw
            case rel => exact ⟨j + 1, by omega, by first | rfl | simp, by rw [show bef A0 c0 (l'.take (j + 1)) = _ from HTK.out]; exact HR1.out, HR2.out⟩
            case measure => simp only [intOf]; omega
          · have c1 : decide ((j : Int) < (n : Int)) = false := by simp only [decide_eq_false_iff_not]; omega
            obtain rfl : n = j := by omega
            have OB : Hid (OwnA wr.heap.size wz (.slice va n vc) (bef A0 c0 l')) := by
              have h9 := OJ.out
              rw [show l'.take n = l' by rw [show n = l'.length from EN.out]; exact List.take_length] at h9
              exact h9
            have MB : Hid (MkB w wz mb Mj (fun b => wr.heap.size ≤ b ∧ b < wz.heap.size)) := MkN.wide Z0.out KJ.out
            obtain ⟨M5, A5, cd5, x1, x2⟩ : ∃ M5 A5 cd5, doM Mj ⟨6, 3, 0, e0, e0⟩ = (M5, A5) ∧ codeD Mj ⟨6, 3, 0, e0, e0⟩ = cd5 := ⟨_, _, _, rfl, rfl⟩
            have hab := Wrt.abort SJ.out
            rw [x1, x2] at hab
            have D1 : Hid _ := MkB.doB MB.out 6 3 0 e0 e0 (by decide) (by decide) x1 x2
            clear x1 x2 HLB OJ hlt
            rcases hab with rfl | ⟨rfl, hA5, hc5, L5, t5, hL5, ht6, ht0⟩
            · go_wp2_with fail
              refine Calls.mono D1.out ?_
              rintro r v1 ⟨rfl, n1, b1⟩
              have K1 : Hid (Kept w v1) := MkN.kept (MkB.n n1)
              clear n1 b1
              go_wp2_with fail
              go_ret
              exact ⟨rfl, Same.alloc K1.out _⟩
            · have HA5 : Hid (M5.A = A0 ∧ c0 ≤ M5.clock) := ⟨hA5, hc5⟩
              have HL5 : Hid (M5.log = L5 ++ [t5]) := hL5
              have HT5 : Hid (t5.f6 = 0 ∧ t5.f0 = 3) := ⟨ht6, ht0⟩
              clear hA5 hc5 hL5 ht6 ht0
              go_wp2_with fail
              refine Calls.mono D1.out ?_
              rintro r v1 ⟨rfl, n1, b1⟩
              have N1 : Hid (MkN w v1 mb M5) := MkB.n n1
              have OB1 : Hid (OwnA wr.heap.size v1 (.slice va n vc) (bef A0 c0 l')) := row_eq OB.out fun b hb => b1 b hb
              clear n1 b1 D1 MB OB
              go_upto_region 29 with fail
              have KA : Hid (Kept v1 (v1.alloc (.cells #[.bool A5.found, .string A5.value, .int .i64 A5.status] 28 (0, 0)))) := (Same.refl _ _).alloc _
              generalize v1.alloc (.cells #[.bool A5.found, .string A5.value, .int .i64 A5.status] 28 (0, 0)) = V1 at *
              generalize v1.heap.size = g17 at *
              have N2 : Hid (MkN w V1 mb M5) := MkN.on N1.out KA.out
              have OB2 : Hid (OwnA wr.heap.size V1 (.slice va n vc) (bef A0 c0 l')) := row_kept OB1.out KA.out fun _ _ e => e
              clear N1 OB1 KA
              go_loopw [106] (fun i wy => ∃ j : Nat, j ≤ n ∧ i = .int .i64 (j : Int) ∧ Kept V1 wy) (fun i _ => n - (intOf i).toNat)
              case atStart => exact ⟨0, Nat.zero_le _, rfl, Same.refl _ _⟩
              case round =>
                rename World => wy
                obtain ⟨j, hj3, rfl, ky⟩ := hrel
                have KY : Hid (Kept V1 wy) := ky
                clear ky
                by_cases hlt : j < n
                · have c1 : decide ((j : Int) < (n : Int)) = true := by simp only [decide_eq_true_eq]; omega
                  have hlt2 : (j : Int) < (n : Int) := by omega
                  obtain ⟨s, hsj⟩ : ∃ s, l'[j]? = some s := ⟨_, List.getElem?_eq_getElem (by rw [← EN.out]; exact hlt)⟩
                  obtain ⟨b, off, rfl, hb, q0, q1, q2, q3, q4⟩ := (StepsAt.on HL'.out (Same.trans' (MkN.kept N2.out) KY.out)) j s hsj
                  obtain ⟨hsk, hsv⟩ := HS'.out s (List.mem_of_getElem? hsj)
                  have KX : Hid (Kept V1 (wy.alloc (.cells #[.int .i64 s.kind, .int .i64 s.ses, .int .i64 s.gap, .string s.key, .string s.value] 33 (0, 0)))) := Same.alloc KY.out _
                  obtain ⟨xv, exv⟩ : ∃ xv, VL s.key = xv := ⟨_, rfl⟩
                  have D1 : Hid _ := MkN.valN (MkN.on N2.out KX.out) s.key hsk ((HVA2.out M5 s.key HA5.out.1 HA5.out.2).trans exv)
                  have hbg := HBG.out j s hsj
                  rw [exv] at hbg
                  obtain ⟨a1, a2⟩ := anc_get hbg
                  have HAG : Hid _ := And.intro a1 a2
                  clear hsj exv hbg a1 a2
                  go_wp2_with fail
                  refine Calls.mono D1.out ?_
                  rintro r v2 ⟨rfl, kv2⟩
                  have KV : Hid (Kept V1 v2) := Same.trans' KX.out kv2
                  have ov : OwnA wr.heap.size v2 (.slice va n vc) (bef A0 c0 l') := row_kept OB2.out KV.out fun _ _ e => e
                  obtain ⟨g, rfl, -, hgl, y0⟩ := row_cell ov HAG.out.1
                  obtain ⟨g', eg, -, -, y1⟩ := row_cell ov HAG.out.2
                  cases eg
                  clear ov kv2 D1
                  have nv : (xv.v.toList != xv.v.toList) = false := by simp
                  have nf : (xv.f != xv.f) = false := by simp
                  go_wp2_with fail
                  go_roundw
                  case rel => exact ⟨j + 1, by omega, by first | rfl | simp, KV.out⟩
                  case measure => simp only [intOf]; omega
                · have c1 : decide ((j : Int) < (n : Int)) = false := by simp only [decide_eq_false_iff_not]; omega
                  obtain rfl : n = j := by omega
                  have N3 : Hid (MkN w wy mb M5) := MkN.on N2.out KY.out
                  have D1 : Hid (Calls Try.prog 11 #[.pointer (some ⟨mb, 0, none⟩)] wy (LogP wy M5.log)) := by
                    obtain ⟨F, h1, -⟩ := N3.out
                    exact log15 h1
                  go_wp2_with fail
                  refine Calls.mono D1.out ?_
                  rintro r v2 ⟨vv, LL, rfl, o2, l2, -, k2⟩
                  obtain ⟨m, em⟩ : ∃ m, m = L5.length := ⟨_, rfl⟩
                  have hlen : LL.length = m + 1 := by
                    have h9 := congrArg List.length l2
                    rw [HL5.out, List.length_append, ← em] at h9
                    simpa using h9
                  have hlast : ∃ u, LL[m]? = some (t5, u) := by
                    have h8 : (LL.map (·.1))[m]? = some t5 := by rw [l2, HL5.out, em]; simp
                    rw [List.getElem?_map] at h8
                    cases h7 : LL[m]? with
                    | none => rw [h7] at h8; cases h8
                    | some p => rw [h7] at h8; cases h8; exact ⟨p.2, rfl⟩
                  obtain ⟨u, hu⟩ := hlast
                  obtain ⟨ga, gc, rfl, -⟩ := row_shape o2
                  obtain ⟨g, rfl, -, hgl, y6⟩ := row_cell o2 (txc_get hu 6 (by omega))
                  obtain ⟨g', eg, -, -, y0⟩ := row_cell o2 (txc_get hu 0 (by omega))
                  cases eg
                  have y6' : v2.cell? ⟨g, m * 8 + 6, none⟩ = some (.int .i64 0) := by rw [← HT5.out.1]; exact y6
                  have y0' : v2.cell? ⟨g, m * 8, none⟩ = some (.int .i64 3) := by rw [← HT5.out.2]; exact y0
                  have hm : m < 4096 := by
                    obtain ⟨F, ⟨hi5, -⟩, -⟩ := N3.out
                    have h1 := hi5.cnt
                    have h2 := hi5.b1
                    rw [HL5.out, List.length_append, ← em] at h1
                    simp only [List.length_cons, List.length_nil] at h1
                    omega
                  rw [hlen]
                  have KF : Hid (Kept w v2) := Same.trans' (MkN.kept N3.out) k2
                  obtain ⟨N, eN⟩ : ∃ N, N = m + 1 := ⟨_, rfl⟩
                  rw [← eN]
                  have i1 : (N : Int) - 1 = (m : Int) := by omega
                  have i2 : IntKind.i64.wrap ((N : Int) - 1) = (m : Int) := by rw [i1, IntKind.wrap_i64] <;> omega
                  have i3 : (m : Int) < (N : Int) := by omega
                  have i4 : decide ((m : Int) < (N : Int)) = true := decide_eq_true i3
                  have i5 : (0 : Int) < (N : Int) := by omega
                  have i6 : decide ((0 : Int) < (N : Int)) = true := decide_eq_true i5
                  have i7 : 0 < N := by omega
                  have i8 : decide (0 < N) = true := decide_eq_true i7
                  have i9 : (N : Int) ≤ 4096 := by omega
                  clear hlen hu o2 l2 k2 y6 y0 em eN D1 i1
                  go_wp2_with fail
                  go_ret
                  exact ⟨rfl, KF.out⟩
end Go.Proofs.Ytmlefbpdlgnkgab
