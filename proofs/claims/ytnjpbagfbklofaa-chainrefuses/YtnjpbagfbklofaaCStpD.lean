/- What is proved: the step Keys and Count of a script answers alike in the program's store and the document's; every step does; the stores lie in memory. -/
import Derived.Test.YtnjpbagfbklofaaCStpB
import Derived.Test.YtnjpbagfbklofaaCStpC
import Derived.Test.YtnjpbagfbklofaaCPruL
import Derived.Deep.RegionLaw
namespace Go.Proofs.Ytnjpbagfbklofaa
open Go.RowKit

set_option maxRecDepth 100000 in
set_option maxHeartbeats 3200000 in
theorem step_keys {w wr : World} {sb rb : Nat} {A : List En} {F G : Nat → Prop} (h : Duo w wr sb rb A A F G) (t : Int) (k : ByteArray) (x : Vn) (hn : A.length + 1 ≤ 3909374676537) : Stp w wr sb rb A ⟨5, t, k, x⟩ := by
  unfold Stp
  rw [show stp A ⟨5, t, k, x⟩ = A from rfl]
  unfold opA
  simp only
  have D0 : Hid _ := h.on ((Same.refl _ wr).alloc (.cells #[.int .i64 5, .int .i64 t, .string k, .int .i64 x.c, .int .i64 x.w, .bool x.f, .string x.v] 33 (0, 0)))
  have G0 : Hid _ := heap_new wr (.cells #[.int .i64 5, .int .i64 t, .string k, .int .i64 x.c, .int .i64 x.w, .bool x.f, .string x.v] 33 (0, 0))
  clear h
  go_enter Try.func11, Try.ntmps11
  go_upto_region 1 with fail
  generalize wr.alloc (.cells #[.int .i64 5, .int .i64 t, .string k, .int .i64 x.c, .int .i64 x.w, .bool x.f, .string x.v] 33 (0, 0)) = Y at *
  generalize wr.heap.size = g at *
  obtain ⟨c0, -⟩ := op_obj (o := ⟨5, t, k, x⟩) G0.out
  have hg := lt_of_heap G0.out
  simp only at c0
  have HK1 : Hid _ := keys13 (Duo.a D0.out) (by omega)
  go_wp2_with fail
  refine Calls.mono HK1.out ?_
  rintro e w1 ⟨v1, l, rfl, kk1, o1, k1⟩
  obtain ⟨a1, p1, rfl, sa1, -⟩ := OwnS.strs o1
  have D1 : Hid _ := Duo.on D0.out k1
  have SA1 : Hid (StrsAt w1 a1 l) := sa1
  have HKO : Hid (KeysOf A l) := kk1
  have HK2 : Hid _ := rkeys13 (Duo.b D1.out) hn
  clear HK1 o1 k1 sa1 kk1 c0 hg
  go_wp2_with fail
  refine Calls.mono HK2.out ?_
  rintro e w2 ⟨v2, l2, rfl, kk2, o2, k2⟩
  obtain ⟨a2, p2, rfl, sa2, -⟩ := OwnS.strs o2
  obtain rfl := KeysOf.unique HKO.out kk2
  have D2 : Hid _ := Duo.on D1.out k2
  have SA : Hid (StrsAt w2 a1 l) := StrsAt.on SA1.out k2
  have SB : Hid (StrsAt w2 a2 l) := sa2
  clear HK2 o2 k2 sa2 kk2 SA1
  obtain ⟨L, eL⟩ : ∃ L, L = l.length := ⟨_, rfl⟩
  rw [← eL]
  have EL : Hid (L = l.length) := eL
  have hLA : L ≤ A.length := by rw [eL]; exact keys_len HKO.out
  clear eL
  go_upto_region 25 with fail
  obtain ⟨va, hob, how, -⟩ := (Duo.b D2.out).ex
  obtain ⟨a3, p3, rfl, -⟩ := OwnE.ens how
  have y0 : w2.cell? ⟨rb, 0, none⟩ = some (.slice a3 A.length p3) := (cell_of hob 0).trans rfl
  have hrl := lt_of_heap hob
  obtain ⟨n, en⟩ : ∃ n, n = A.length := ⟨_, rfl⟩
  rw [← en] at y0
  have HCT : Hid (∀ W', Kept w2 W' → Calls Try.prog 17 #[.pointer (some ⟨sb, 0, none⟩)] W' fun e w' => e = .returned (.int .i64 n) ∧ w' = W') := fun W' k' => by rw [en]; exact count13 (Duo.a (Duo.on D2.out k'))
  have HBX : Hid (∀ W', Kept w2 W' → W'.cell? ⟨rb, 0, none⟩ = some (.slice a3 n p3)) := fun W' k' => (k'.cell (p := ⟨rb, 0, none⟩) hrl (fun e => e)).trans y0
  have nl : ((L : Int) != (L : Int)) = false := by simp
  have nn : ((n : Int) != (n : Int)) = false := by simp
  clear hob how en
  go_cut [140] (fun s140 wx => s140 = .bool false ∧ Kept w2 wx)
  case first =>
    go_region_held3 (fun W' => W'.cell? ⟨rb, 0, none⟩ = some (.slice a3 n p3))
      (exact HBX.out _ (by (repeat (first | exact Same.refl _ _ | apply Same.drew | apply Same.drewN)); done))
      ((go_at_call 17; refine Calls.mono (HCT.out _ (by (repeat (first | exact Same.refl _ _ | apply Same.drew | apply Same.drewN)); done)) ?_; rintro r w2 ⟨rfl, rfl⟩))
    all_goals
      go_wp2_with fail
      go_meet
      exact ⟨rfl, (by (repeat (first | exact Same.refl _ _ | apply Same.drew | apply Same.drewN)); done)⟩
  case rest =>
    obtain ⟨rfl, kz⟩ := hcut
    rename World => Z
    have KZ : Hid (Kept w2 Z) := kz
    have SAZ : Hid (StrsAt Z a1 l) := StrsAt.on SA.out kz
    have SBZ : Hid (StrsAt Z a2 l) := StrsAt.on SB.out kz
    clear kz HCT HBX y0 hrl nn SA SB
    go_wp2_with fail
    go_loopw [143] (fun s wx => ∃ q : Nat, q ≤ L ∧ s = .int .i64 q ∧ wx = Z) (fun s _ => L - (intOf s).toNat)
    case atStart => exact ⟨0, Nat.zero_le _, rfl, rfl⟩
    case round =>
      obtain ⟨q, hq, rfl, rfl⟩ := hrel
      by_cases hlt : q < L
      · have c1 : decide ((q : Int) < (L : Int)) = true := by simp only [decide_eq_true_eq]; omega
        have hlt2 : (q : Int) < (L : Int) := by omega
        have hlt3 : (0 : Int) ≤ (q : Int) := by omega
        obtain ⟨y, hy⟩ : ∃ y, l[q]? = some y := ⟨_, List.getElem?_eq_getElem (by rw [← show L = l.length from EL.out]; exact hlt)⟩
        obtain ⟨b1, o1, rfl, hb1, m0⟩ := SAZ.out q y hy
        obtain ⟨b2, o2, rfl, hb2, n0⟩ := SBZ.out q y hy
        generalize (⟨y.toArray⟩ : ByteArray) = yb at *
        have ny : (yb.toList != yb.toList) = false := by simp
        have ny2 : (yb.toList == yb.toList) = true := by simp
        clear hy
        go_wp2_with fail
        go_roundw
        case rel => exact ⟨q + 1, by omega, by simp, by trivial⟩
        case measure => simp only [intOf]; omega
      · have c1 : decide ((q : Int) < (L : Int)) = false := by simp only [decide_eq_false_iff_not]; omega
        go_wp2_with fail
        go_ret
        exact ⟨rfl, F, G, Duo.on D2.out KZ.out⟩
/-- Every step of a script answers alike in both. -/
theorem step13_any {w wr : World} {sb rb : Nat} {A : List En} {F G : Nat → Prop} (h : Duo w wr sb rb A A F G) (o : OpC) (hk : o.key.size ≤ maxLen) (hn : A.length + 1 ≤ 3909374676537) : Stp w wr sb rb A o := by
  obtain ⟨kd, t, k, x⟩ := o
  by_cases h1 : kd = 1
  · subst h1; exact step_ins h t k hk x hn
  · by_cases h2 : kd = 2
    · subst h2; exact step_at h t k hk x hn
    · by_cases h3 : kd = 3
      · subst h3; exact step_after h t k hk x hn
      · by_cases h4 : kd = 4
        · subst h4; exact step_chain h t k hk x hn
        · by_cases h5 : kd = 5
          · subst h5; exact step_keys h t k x hn
          · by_cases h6 : kd = 6
            · subst h6; exact step_prn h t k x hn
            · exact step_none h ⟨kd, t, k, x⟩ h1 h2 h3 h4 h5 h6
end Go.Proofs.Ytnjpbagfbklofaa
