/- What is proved: the step Chain of a script answers alike in the program's store and the document's; the stores lie in memory. -/
import Derived.Test.YtnjpbagfbklofaaCStp
import Derived.Deep.RegionLaw
namespace Go.Proofs.Ytnjpbagfbklofaa
open Go.RowKit

theorem ch_get {A : List En} {k : ByteArray} {i : Nat} {e : En} (h : (A.filter (isK k))[i]? = some e) : (ch A k)[i]? = some e.x := by
  unfold ch
  rw [List.getElem?_map, h]
  rfl
set_option maxRecDepth 100000 in
set_option maxHeartbeats 3200000 in
theorem chain_alike {w wr : World} {sb rb : Nat} {A : List En} {F G : Nat → Prop} (h : Duo w wr sb rb A A F G) (t : Int) (k : ByteArray) (hk : k.size ≤ maxLen) (x : Vn) (hn : A.length + 1 ≤ 3909374676537) :
    Calls Try.prog 11 #[.pointer (some ⟨sb, 0, none⟩), .pointer (some ⟨rb, 0, none⟩), .agg #[.int .i64 4, .int .i64 t, .string k, .int .i64 x.c, .int .i64 x.w, .bool x.f, .string x.v]] wr fun e w' => e = .returned (.bool true) ∧ Kept wr w' := by
  have K0 : Hid (Kept wr (wr.alloc (.cells #[.int .i64 4, .int .i64 t, .string k, .int .i64 x.c, .int .i64 x.w, .bool x.f, .string x.v] 33 (0, 0)))) := (Same.refl _ wr).alloc _
  have D0 : Hid _ := h.on ((Same.refl _ wr).alloc (.cells #[.int .i64 4, .int .i64 t, .string k, .int .i64 x.c, .int .i64 x.w, .bool x.f, .string x.v] 33 (0, 0)))
  have G0 : Hid _ := heap_new wr (.cells #[.int .i64 4, .int .i64 t, .string k, .int .i64 x.c, .int .i64 x.w, .bool x.f, .string x.v] 33 (0, 0))
  clear h
  go_enter Try.func11, Try.ntmps11
  go_upto_region 1 with fail
  generalize wr.alloc (.cells #[.int .i64 4, .int .i64 t, .string k, .int .i64 x.c, .int .i64 x.w, .bool x.f, .string x.v] 33 (0, 0)) = Y at *
  generalize wr.heap.size = g at *
  obtain ⟨c0, c1, c2, c3, c4, c5, c6⟩ := op_obj (o := ⟨4, t, k, x⟩) G0.out
  have hg := lt_of_heap G0.out
  simp only at c0 c1 c2 c3 c4 c5 c6
  obtain ⟨L, eL⟩ : ∃ L, L = (A.filter (isK k)).length := ⟨_, rfl⟩
  have eL2 : L = (ch A k).length := by rw [eL]; unfold ch; rw [List.length_map]
  have hLA : L ≤ A.length := by rw [eL]; exact List.length_filter_le _ _
  have HC1 : Hid (∀ W', Kept Y W' → Calls Try.prog 16 #[.pointer (some ⟨sb, 0, none⟩), .string k] W' fun e w' => ∃ a cap, e = .returned (.slice a L cap) ∧ VersAt w' a (ch A k) ∧ Kept W' w') := fun W' k' => by
    refine Calls.mono (chain13 (Duo.a (Duo.on D0.out k')) k hk (by omega)) ?_
    rintro e w' ⟨v', rfl, o', kk⟩
    obtain ⟨a, cap, rfl, hv, -⟩ := OwnV.vers o'
    exact ⟨a, cap, by rw [eL2], hv, kk⟩
  have HC2 : Hid (∀ W', Kept Y W' → Calls Try.prog 26 #[.pointer (some ⟨rb, 0, none⟩), .string k] W' fun e w' => ∃ a cap, e = .returned (.slice a L cap) ∧ EnsAt w' a (A.filter (isK k)) ∧ Kept W' w') := fun W' k' => by
    refine Calls.mono (rchain13 (Duo.b (Duo.on D0.out k')) k hn) ?_
    rintro e w' ⟨v', rfl, o', kk⟩
    obtain ⟨a, cap, rfl, hv, -⟩ := OwnE.ens o'
    exact ⟨a, cap, by rw [eL], hv, kk⟩
  have HCH : Hid (∀ (i : Nat) (e : En), (A.filter (isK k))[i]? = some e → (ch A k)[i]? = some e.x) := fun i e he => ch_get he
  have EL : Hid (L = (A.filter (isK k)).length) := eL
  clear eL2 eL
  generalize ch A k = l at *
  generalize A.filter (isK k) = E at *
  go_upto_region 14 with fail
  have HBX : Hid (∀ W', Kept Y W' → W'.cell? ⟨g, 2, none⟩ = some (.string k)) := fun W' k' => (k'.cell (p := ⟨g, 2, none⟩) hg (fun e => e)).trans c2
  go_cut [12, 13] (fun s12 s13 wx => ∃ a1 p1 a2 p2, s12 = .slice a1 L p1 ∧ s13 = .slice a2 L p2 ∧ VersAt wx a1 l ∧ EnsAt wx a2 E ∧ Kept Y wx)
  case first =>
    go_region_held3 (fun W' => W'.cell? ⟨g, 2, none⟩ = some (.string k))
      (exact HBX.out _ (by (repeat (first | exact Same.refl _ _ | exact K5.out | exact K4.out | apply Same.drew | apply Same.drewN)); done))
      (first
      | (go_at_call 26; have _t := V4; refine Calls.mono (HC2.out _ (by (repeat (first | exact Same.refl _ _ | exact K4.out | apply Same.drew | apply Same.drewN)); done)) ?_; rintro e w5 ⟨a5, p5, rfl, o5, k5⟩; have E5 : Hid (EnsAt w5 a5 E) := o5; have V5 : Hid (VersAt w5 a4 l) := VersAt.on V4.out (by refine Same.trans' ?_ k5; (repeat (first | exact Same.refl _ _ | apply Same.drew | apply Same.drewN)); done); have K5 : Hid (Kept Y w5) := (by refine Same.trans' ?_ k5; (repeat (first | exact Same.refl _ _ | exact K4.out | apply Same.drew | apply Same.drewN)); done); clear o5 k5)
      | (go_at_call 16; refine Calls.mono (HC1.out _ (by (repeat (first | exact Same.refl _ _ | apply Same.drew | apply Same.drewN)); done)) ?_; rintro e w4 ⟨a4, p4, rfl, o4, k4⟩; have V4 : Hid (VersAt w4 a4 l) := o4; have K4 : Hid (Kept Y w4) := (by refine Same.trans' ?_ k4; (repeat (first | exact Same.refl _ _ | apply Same.drew | apply Same.drewN)); done); clear o4 k4))
    all_goals
      go_wp2_with fail
      go_meet
      have k9 : Kept w5 _ := (by (repeat (first | exact Same.refl _ _ | apply Same.drew | apply Same.drewN)); done)
      exact ⟨_, _, _, _, rfl, rfl, VersAt.on V5.out k9, EnsAt.on E5.out k9, Same.trans' K5.out k9⟩
  case rest =>
    obtain ⟨a1, p1, a2, p2, rfl, rfl, va, ea, kz⟩ := hcut
    rename World => Z
    have VA : Hid (VersAt Z a1 l) := va
    have EA : Hid (EnsAt Z a2 E) := ea
    have KZ : Hid (Kept Y Z) := kz
    have nl : ((L : Int) != (L : Int)) = false := by simp
    clear va ea kz HC1 HC2 HBX c0 c1 c2 c3 c4 c5 c6 hg
    go_wp2_with fail
    go_loopw [107] (fun s wx => ∃ q : Nat, q ≤ L ∧ s = .int .i64 q ∧ Kept Z wx) (fun s _ => L - (intOf s).toNat)
    case atStart => exact ⟨0, Nat.zero_le _, rfl, Same.refl _ _⟩
    case round =>
      obtain ⟨q, hq, rfl, kk⟩ := hrel
      have KK : Hid (Kept Z wr) := kk
      clear kk
      by_cases hlt : q < L
      · have c1 : decide ((q : Int) < (L : Int)) = true := by simp only [decide_eq_true_eq]; omega
        have hlt2 : (q : Int) < (L : Int) := by omega
        have hlt3 : (0 : Int) ≤ (q : Int) := by omega
        obtain ⟨e, he⟩ : ∃ e, E[q]? = some e := ⟨_, List.getElem?_eq_getElem (by rw [← show L = E.length from EL.out]; exact hlt)⟩
        obtain ⟨b1, o1, rfl, hb1, m0, m1, m2, m3⟩ := (VersAt.on VA.out KK.out) q e.x (HCH.out q e he)
        have G1 : Hid _ := heap_new wr (.cells #[.int .i64 e.x.c, .int .i64 e.x.w, .bool e.x.f, .string e.x.v] 31 (0, 0))
        have K1 : Hid (Kept wr (wr.alloc (.cells #[.int .i64 e.x.c, .int .i64 e.x.w, .bool e.x.f, .string e.x.v] 31 (0, 0)))) := (Same.refl _ wr).alloc _
        have HE : Hid (E[q]? = some e) := he
        clear he
        go_upto_region 20 with fail
        generalize wr.alloc (.cells #[.int .i64 e.x.c, .int .i64 e.x.w, .bool e.x.f, .string e.x.v] 31 (0, 0)) = Y1 at *
        generalize wr.heap.size = g1 at *
        obtain ⟨b2, o2, rfl, hb2, n0, n1, n2, n3, n4⟩ := (EnsAt.on EA.out (Same.trans' KK.out K1.out)) q e HE.out
        obtain ⟨⟨u0, u1, u2, u3⟩, -⟩ := ver_obj G1.out
        have hg1 := lt_of_heap G1.out
        have HL : Hid (∀ W', Calls Try.prog 25 #[.agg #[.int .i64 e.x.c, .int .i64 e.x.w, .bool e.x.f, .string e.x.v], .agg #[.string e.key, .int .i64 e.x.c, .int .i64 e.x.w, .bool e.x.f, .string e.x.v]] W' fun r w' => r = .returned (.bool true) ∧ Kept W' w') := fun W' => like_any e.x e.key W'
        have HBX : Hid (∀ W', Kept Y1 W' → (W'.cell? ⟨g1, 0, none⟩ = some (.int .i64 e.x.c) ∧ W'.cell? ⟨g1, 1, none⟩ = some (.int .i64 e.x.w) ∧ W'.cell? ⟨g1, 2, none⟩ = some (.bool e.x.f) ∧ W'.cell? ⟨g1, 3, none⟩ = some (.string e.x.v)) ∧ (W'.cell? ⟨b2, o2 + q * 5, none⟩ = some (.string e.key) ∧ W'.cell? ⟨b2, o2 + q * 5 + 1, none⟩ = some (.int .i64 e.x.c) ∧ W'.cell? ⟨b2, o2 + q * 5 + 2, none⟩ = some (.int .i64 e.x.w) ∧ W'.cell? ⟨b2, o2 + q * 5 + 3, none⟩ = some (.bool e.x.f) ∧ W'.cell? ⟨b2, o2 + q * 5 + 4, none⟩ = some (.string e.x.v))) := fun W' k' =>
          ⟨⟨(k'.cell (p := ⟨g1, 0, none⟩) hg1 (fun e => e)).trans u0, (k'.cell (p := ⟨g1, 1, none⟩) hg1 (fun e => e)).trans u1, (k'.cell (p := ⟨g1, 2, none⟩) hg1 (fun e => e)).trans u2, (k'.cell (p := ⟨g1, 3, none⟩) hg1 (fun e => e)).trans u3⟩, ⟨(k'.cell (p := ⟨b2, _, none⟩) hb2 (fun e => e)).trans n0, (k'.cell (p := ⟨b2, _, none⟩) hb2 (fun e => e)).trans n1, (k'.cell (p := ⟨b2, _, none⟩) hb2 (fun e => e)).trans n2, (k'.cell (p := ⟨b2, _, none⟩) hb2 (fun e => e)).trans n3, (k'.cell (p := ⟨b2, _, none⟩) hb2 (fun e => e)).trans n4⟩⟩
        go_cut [118] (fun s118 wx => s118 = .bool false ∧ Kept Y1 wx)
        case first =>
          go_region_held3 (fun W' => (W'.cell? ⟨g1, 0, none⟩ = some (.int .i64 e.x.c) ∧ W'.cell? ⟨g1, 1, none⟩ = some (.int .i64 e.x.w) ∧ W'.cell? ⟨g1, 2, none⟩ = some (.bool e.x.f) ∧ W'.cell? ⟨g1, 3, none⟩ = some (.string e.x.v)) ∧ (W'.cell? ⟨b2, o2 + q * 5, none⟩ = some (.string e.key) ∧ W'.cell? ⟨b2, o2 + q * 5 + 1, none⟩ = some (.int .i64 e.x.c) ∧ W'.cell? ⟨b2, o2 + q * 5 + 2, none⟩ = some (.int .i64 e.x.w) ∧ W'.cell? ⟨b2, o2 + q * 5 + 3, none⟩ = some (.bool e.x.f) ∧ W'.cell? ⟨b2, o2 + q * 5 + 4, none⟩ = some (.string e.x.v)))
            (exact HBX.out _ (by (repeat (first | exact Same.refl _ _ | apply Same.drew | apply Same.drewN | refine Same.trans' ?_ kq)); done))
            ((go_at_call 25; refine Calls.mono (HL.out _) ?_; rintro r w2 ⟨rfl, kq⟩))
          all_goals
            go_wp2_with fail
            go_meet
            exact ⟨rfl, (by (repeat (first | exact Same.refl _ _ | apply Same.drew | apply Same.drewN | refine Same.trans' ?_ kq)); done)⟩
        case rest =>
          obtain ⟨rfl, k9⟩ := hcut
          rename World => Z9
          have K9 : Hid (Kept Y1 Z9) := k9
          clear k9 u0 u1 u2 u3 n0 n1 n2 n3 n4 HBX HL
          go_wp2_with fail
          go_roundw
          case rel => exact ⟨q + 1, by omega, by simp, Same.trans' KK.out (Same.trans' K1.out K9.out)⟩
          case measure => simp only [intOf]; omega
      · have c1 : decide ((q : Int) < (L : Int)) = false := by simp only [decide_eq_false_iff_not]; omega
        go_wp2_with fail
        go_ret
        exact ⟨rfl, Same.trans' K0.out (Same.trans' KZ.out KK.out)⟩
/-- So it is a step that answers alike. -/
theorem step_chain {w wr : World} {sb rb : Nat} {A : List En} {F G : Nat → Prop} (h : Duo w wr sb rb A A F G) (t : Int) (k : ByteArray) (hk : k.size ≤ maxLen) (x : Vn) (hn : A.length + 1 ≤ 3909374676537) : Stp w wr sb rb A ⟨4, t, k, x⟩ :=
  Calls.mono (chain_alike h t k hk x hn) fun _ _ hh => ⟨hh.1, F, G, h.on hh.2⟩
end Go.Proofs.Ytnjpbagfbklofaa
