/- What is proved: two readers of one device do not see one another; the law StreamApart returns true and turns nothing that was there where its bytes are some; the bounds that a machine's memory sets. -/
import Derived.Test.YtemfeaooenaelaaSInpM
import Derived.Test.YtemfeaooenaelaaSOpenA
namespace Go.Proofs.Ytemfeaooenaelaa
open Go.RowKit

/-- Two readers over the bytes l, at c and at d; the blocks K are not theirs. -/
def ApL (w : World) (l : List Int) (p : Pl) (K : Nat → Prop) (t u rb sb : Nat) (wr : World) (c d : Nat) : Prop :=
  ∃ (m : M) (nx ny : Nat) (hx hy : List Int) (ow : Nat → Nat), RdI 16 l c ⟨m, nx, hx⟩ ∧ RdI 16 l d ⟨m, ny, hy⟩ ∧ m.k = 2 * (nx + ny) ∧ DvT ow wr m p ∧ (Rdr ow t wr p rb .inp nx hx c (l.length - c) 0 ∧ Rdr ow u wr p sb .inp ny hy d (l.length - d) 0) ∧ (RI .inp m (c + (l.length - c)) c nx hx ∧ RI .inp m (d + (l.length - d)) d ny hy) ∧ Kept w wr ∧ (∀ k, k < w.heap.size → ow k = 0) ∧ ∀ k, K k → ow k = 7 ∧ k < wr.heap.size
section
variable {w : World} {l : List Int} {p : Pl} {K : Nat → Prop} {t u rb sb : Nat} {wr : World} {c d : Nat}
theorem ApL.swap (h : ApL w l p K t u rb sb wr c d) : ApL w l p K u t sb rb wr d c := by
  obtain ⟨m, nx, ny, hx, hy, ow, h1, h2, h3, h4, h5, h6, h7, h8, h9⟩ := h
  exact ⟨m, ny, nx, hy, hx, ow, h2, h1, by omega, h4, ⟨h5.2, h5.1⟩, ⟨h6.2, h6.1⟩, h7, h8, h9⟩
theorem ApL.kept (h : ApL w l p K t u rb sb wr c d) : Kept w wr := by
  obtain ⟨m, nx, ny, hx, hy, ow, h1, h2, h3, h4, h5, h6, h7, h8, h9⟩ := h
  exact h7
theorem ApL.le (h : ApL w l p K t u rb sb wr c d) : c ≤ l.length ∧ d ≤ l.length := by
  obtain ⟨m, nx, ny, hx, hy, ow, h1, h2, h3, h4, h5, h6, h7, h8, h9⟩ := h
  exact ⟨h1.le, h2.le⟩
/-- A block that is neither's has turned. -/
theorem ApL.on {w' : World} (h : ApL w l p K t u rb sb wr c d) (ht : t ≠ 7 ∧ u ≠ 7) (k : Same K wr w') : ApL w l p K t u rb sb w' c d := by
  obtain ⟨m, nx, ny, hx, hy, ow, h1, h2, h3, h4, h5, h6, h7, h8, h9⟩ := h
  have st : Step (fun n => n = 7) ow wr ow w' := ⟨k.mono fun i _ e => (h9 i e).1, fun _ _ => rfl⟩
  exact ⟨m, nx, ny, hx, hy, ow, h1, h2, h3, h4.on st (by decide) (by decide), ⟨h5.1.on st (by decide) ht.1, h5.2.on st (by decide) ht.2⟩, h6, kept_of h7 st fun j hj => by rw [h8 j hj]; decide, h8, fun j hj => ⟨(h9 j hj).1, Nat.lt_of_lt_of_le (h9 j hj).2 k.size⟩⟩
theorem ApL.read (h : ApL w l p K t u rb sb wr c d) (ht : t ≠ 0 ∧ t ≠ 1) (hu : u ≠ 0 ∧ u ≠ 1 ∧ u ≠ t ∧ t ≠ 7 ∧ u ≠ 7) (hl : l.length ≤ 4194304) (n : Nat) (hn : n ≤ 65536) : Calls Try.prog 15 #[.pointer (some ⟨rb, 0, none⟩), .int .i64 (n : Int)] wr fun x w2 => ∃ va vc, x = .returned (.tuple #[.slice va (min n (l.length - c)) vc, .int .i64 0]) ∧ BytesAt w2 va ((l.drop c).take (min n (l.length - c))) ∧ ApL w l p K t u rb sb w2 (c + min n (l.length - c)) d ∧ ∀ k, K k → w2.heap[k]? = wr.heap[k]? := by
  obtain ⟨m, nx, ny, hx, hy, ow, h1, h2, h3, h4, h5, h6, h7, h8, h9⟩ := h
  have hle := h1.le
  have hnb := h1.nb
  have hnb2 := h2.nb
  have hnl : nblk l.length 16 ≤ 8388608 := by
    unfold nblk
    exact Nat.le_trans (Nat.div_le_self _ _) (by omega)
  simp only at hnb hnb2
  obtain ⟨s', e1, g1, g2, g3, g4⟩ := rd_inp (B := 16) (inp := l) (by omega) (min n (l.length - c)) c ⟨m, nx, hx⟩ h1 (by omega)
  refine Calls.mono (read_ok8 h4 h5.1 ht h6.1 (by omega) n hn) ?_
  rintro x w2 ⟨o2, st2, hd2, hc⟩
  rw [e1] at hd2 hc
  rcases hc with ⟨-, v, rfl, hv, -, -, hr, hi⟩ | ⟨hne, -⟩
  · obtain ⟨va, vc, e, hb, -⟩ := BytesAt.of_row hv
    have hlk : ((l.drop c).take (min n (l.length - c))).length = min n (l.length - c) := by rw [List.length_take, List.length_drop]; omega
    rw [hlk] at e
    subst e
    simp only at g2 g4
    refine ⟨va, vc, rfl, hb, ⟨s'.m, s'.nx, ny, s'.held, hy, o2, g1, ⟨g1.ei, g1.eB, g1.eF, g1.dn, h2.held, h2.le, h2.nx, h2.nb⟩, by omega, hd2, ⟨?_, h5.2.on st2 (by omega) (by omega)⟩, ⟨?_, ?_⟩, kept_of h7 st2 fun k hk => by rw [h8 k hk]; omega, fun k hk => ?_, fun k hk => ?_⟩, fun k hk => ?_⟩
    · rw [Nat.sub_sub] at hr
      exact hr
    · rw [show c + min n (l.length - c) + (l.length - (c + min n (l.length - c))) = c + (l.length - c) by omega]
      exact hi
    · have r := h6.2
      refine ⟨r.le, r.len, fun e => ?_, fun L e => by cases e⟩
      have q := r.inp e
      have q1 : m.inp = l := h1.ei
      have q2 : m.B = 16 := h1.eB
      rw [g1.ei, g1.eB]
      rw [q1, q2] at q
      exact q
    · rw [st2.tag k (Nat.lt_of_lt_of_le hk h7.size)]
      exact h8 k hk
    · obtain ⟨q1, q2⟩ := h9 k hk
      exact ⟨(st2.tag k q2).trans q1, Nat.lt_of_lt_of_le q2 st2.same.size⟩
    · obtain ⟨q1, q2⟩ := h9 k hk
      exact st2.same.block k q2 (by rw [q1]; omega)
  · exact absurd rfl hne
theorem ApL.tells (h : ApL w l p K t u rb sb wr c d) : Calls Try.prog 16 #[.pointer (some ⟨rb, 0, none⟩)] wr fun x w' => x = .returned (.int .i64 c) ∧ w' = wr := by
  obtain ⟨m, nx, ny, hx, hy, ow, h1, h2, h3, h4, h5, h6, h7, h8, h9⟩ := h
  exact offset_any h5.1
end
theorem ApL.start {w w5 : World} {l : List Int} {p : Pl} {rb sb : Nat} {o5 : Nat → Nat} (hd : DvT o5 w5 (M.made 16 0 l [] []) p) (hr : Rdr o5 3 w5 p rb .inp 0 [] 0 l.length 0) (hs : Rdr o5 4 w5 p sb .inp 0 [] 0 l.length 0) (hi : RI .inp (M.made 16 0 l [] []) (0 + l.length) 0 0 []) (k : Kept w w5) (hz : ∀ k, k < w.heap.size → o5 k = 0) {W : World} (kW : Kept w5 W) :
    ApL w l p (fun k => w5.heap.size ≤ k ∧ k < W.heap.size) 3 4 rb sb W 0 0 := by
  have st : Step (fun _ => False) o5 w5 (tagN w5 7 o5) W := ⟨kW, fun k hk => tagN_old hk⟩
  exact ⟨M.made 16 0 l [] [], 0, 0, [], [], tagN w5 7 o5, rdI_new 16 l, rdI_new 16 l, rfl, hd.on st (fun h => h) (fun h => h), ⟨hr.on st (fun h => h) (fun h => h), hs.on st (fun h => h) (fun h => h)⟩, ⟨hi, hi⟩, kept_of k st (fun _ _ h => h), fun j hj => by
    rw [tagN_old (Nat.lt_of_lt_of_le hj k.size)]
    exact hz j hj, fun j hj => ⟨tagN_new hj.1, hj.2⟩⟩
theorem BytesAt.mid {w : World} {g off : Nat} {l : List Int} (h : BytesAt w (some ⟨g, off, none⟩) l) (m k : Nat) : BytesAt w (some ⟨g, off + m, none⟩) ((l.drop m).take k) := fun i x hx => by
  have hi : i < k := by
    have := (List.getElem?_eq_some_iff.1 hx).1
    rw [List.length_take] at this
    omega
  rw [List.getElem?_take_of_lt hi, List.getElem?_drop] at hx
  obtain ⟨b, o, e, hb, hc⟩ := h (m + i) x hx
  simp only [Option.some.injEq, Addr.mk.injEq, and_true] at e
  obtain ⟨rfl, rfl⟩ := e
  exact ⟨g, off + m, rfl, hb, by rw [Nat.add_assoc]; exact hc⟩
set_option maxRecDepth 100000 in
set_option maxHeartbeats 4000000 in
theorem apart_go (w : World) (bb off : Nat) (c : Nat) (l : List Int) (hb : ArgB w (some ⟨bb, off, none⟩) c l) (hl : l.length ≤ 4194304) (ob : Option Addr) (cb : Nat) (q : List Int) (hq : NumsAt w ob q) (hql : q.length ≤ 140737488351232) :
    Calls Try.prog 8 #[.slice (some ⟨bb, off, none⟩) l.length c, .slice ob q.length cb] w fun e w' => e = .returned (.bool true) ∧ Kept w w' := by
  have HAN : Hid _ := anchor_any8 w
  have hnot : ∀ (x : Bool) (w : World), (Op.unary .not (.bool x)).run Try.prog w = .ok (.bool (!x)) w := fun _ _ => rfl
  obtain ⟨n, en⟩ : ∃ n, n = l.length := ⟨_, rfl⟩
  have t3 : decide ((n : Int) > 4194304) = false := by simp; omega
  have t3' : ¬ ((n : Int) > 4194304) := by omega
  have hcap : n ≤ c := by rw [en]; exact hb.cap
  have HAB : Hid _ := And.intro hb hq
  have EN : Hid _ := en
  obtain ⟨Q, eQ⟩ : ∃ Q, Q = q.length := ⟨_, rfl⟩
  have EQ : Hid _ := eQ
  rw [← en, ← eQ]
  rw [← eQ] at hql
  clear hb hq en eQ
  go_enter Try.func8, Try.ntmps8
  go_wp2_with fail
  refine Calls.mono HAN.out ?_
  rintro x w1 ⟨rfl, k1⟩
  have hb1 := HAB.out.1.data.kept k1 (fun _ _ h => h)
  have HCL : Hid _ := clone_run (c := c) hb1 HAB.out.1.nil (by have := HAB.out.1.le; omega)
  rw [← EN.out] at HCL
  have K1 : Hid _ := k1
  clear k1 hb1 HAN
  go_wp2_with (at_builtin; refine wpList_app rfl (.tmp 21) (.tmp 22) 22 rfl _ _ rfl rfl _ HCL.out ?_; intro v' w2 hR; obtain ⟨ia, ic, rfl, b2, c2, nil2, nw2, k2⟩ := hR; have HNW : Hid (Calls Try.prog 13 #[.agg #[.int .i64 16, .int .i64 0], .slice ia l.length ic, .slice none 0 0, .slice none 0 0] w2 fun e w' => ∃ p, e = .returned (.tuple #[.pointer (some ⟨p.db, 0, none⟩), .int .i64 0]) ∧ Dv w' (M.made 16 0 l [] []) p ∧ (∀ k, Foot (M.made 16 0 l [] []) p k → w2.heap.size ≤ k) ∧ Kept w2 w') := new_yes 16 0 ia none none ic 0 0 l [] [] w2 b2 (BytesAt.nil _ _) (FaultsAt.nil _ _) nil2 (fun _ => ⟨rfl, rfl⟩) (by unfold chk okG; simp; omega); have K2 : Hid _ := k2; clear b2 c2 nil2 nw2 k2)
  refine Calls.mono HNW.out ?_
  rintro x w3 ⟨p, rfl, h3, hf3, k3⟩
  have HIN : Hid _ := sinput_any (o := tagD p) 3 h3
  have H3 : Hid _ := And.intro h3 (And.intro hf3 k3)
  clear h3 hf3 k3 HNW HCL
  go_wp2_with fail
  refine Calls.mono HIN.out ?_
  rintro x w4 ⟨rb, o4, rfl, -, st4, hr4, hi4⟩
  have H4 : Hid _ := And.intro st4 (And.intro hr4 hi4)
  have HIN2 : Hid _ := sinput_any (o := o4) 4 ((tagD_dv H3.out.1).on st4 (fun h => h) (fun h => h)).dv
  clear st4 hr4 hi4 HIN
  go_wp2_with fail
  refine Calls.mono HIN2.out ?_
  rintro x w5 ⟨sb, o5, rfl, -, st5, hs5, hi5⟩
  obtain ⟨h3, hf3, k3⟩ := H3.out
  obtain ⟨st4, hr4, hi4⟩ := H4.out
  have kW3 : Kept w w3 := (K1.out.trans' K2.out).trans' k3
  have hz5 : ∀ k, k < w.heap.size → o5 k = 0 := fun k hk => by
    have a1 := K1.out.size
    have a2 := K2.out.size
    have a3 := k3.size
    have a4 := st4.same.size
    rw [st5.tag k (by omega), st4.tag k (by omega)]
    exact tagD_old hf3 (by omega)
  have HST : Hid (∀ W, Kept w5 W → W.heap.size = w5.heap.size + 2 → ApL w l p (fun k => w5.heap.size ≤ k ∧ k < w5.heap.size + 2) 3 4 rb sb W 0 0) := fun W kw hs => by
    have := ApL.start (((tagD_dv h3).on st4 (fun h => h) (fun h => h)).on st5 (fun h => h) (fun h => h)) (hr4.on st5 (fun h => h) (fun h => h)) hs5 hi4 (kept_of (kept_of kW3 st4 fun k hk h => h) st5 fun k hk h => h) hz5 kw
    rwa [hs] at this
  have HR2 : Hid (∀ Y, ((w5.alloc (.cells #[.pointer (some ⟨rb, 0, none⟩), .pointer (some ⟨sb, 0, none⟩)] 42)).alloc Y).heap[w5.heap.size]? = some (.cells #[.pointer (some ⟨rb, 0, none⟩), .pointer (some ⟨sb, 0, none⟩)] 42 (0, 0)) ∧ ((w5.alloc (.cells #[.pointer (some ⟨rb, 0, none⟩), .pointer (some ⟨sb, 0, none⟩)] 42)).alloc Y).heap[w5.heap.size + 1]? = some Y ∧ ((w5.alloc (.cells #[.pointer (some ⟨rb, 0, none⟩), .pointer (some ⟨sb, 0, none⟩)] 42)).alloc Y).heap.size = w5.heap.size + 2) := fun Y => by
    have q1 := heap_new w5 (.cells #[.pointer (some ⟨rb, 0, none⟩), .pointer (some ⟨sb, 0, none⟩)] 42)
    have q2 := heap_new (w5.alloc (.cells #[.pointer (some ⟨rb, 0, none⟩), .pointer (some ⟨sb, 0, none⟩)] 42)) Y
    have e1 : (w5.alloc (.cells #[.pointer (some ⟨rb, 0, none⟩), .pointer (some ⟨sb, 0, none⟩)] 42)).heap.size = w5.heap.size + 1 := World.size_alloc ..
    rw [e1] at q2
    exact ⟨(((Same.refl (fun _ => False) _).alloc Y).block _ (lt_of_heap q1) (fun e => e)).trans q1, q2, by rw [World.size_alloc, e1]⟩
  clear h3 hf3 k3 kW3 hz5 st4 hr4 hi4 st5 hs5 hi5 H3 H4 HIN2 K1 K2
  go_wp2_with fail
  generalize ek0 : w5.heap.size = k0 at *
  clear ek0
  go_loopw [50] (fun i wr => ∃ (j c0 d0 : Nat) (ty : TypeId), j ≤ Q ∧ i = .int .i64 j ∧ ApL w l p (fun k => k0 ≤ k ∧ k < k0 + 2) 3 4 rb sb wr c0 d0 ∧ wr.heap[k0]? = some (.cells #[.pointer (some ⟨rb, 0, none⟩), .pointer (some ⟨sb, 0, none⟩)] 42 (0, 0)) ∧ wr.heap[k0 + 1]? = some (.cells #[.int .i64 (c0 : Int), .int .i64 (d0 : Int)] ty (0, 0))) (fun i _ => Q - (intOf i).toNat)
  case atStart => exact ⟨0, 0, 0, _, Nat.zero_le _, rfl, HST.out _ (by (repeat (first | assumption | exact Same.refl _ _ | apply Same.alloc | apply Same.drew | apply Same.drewN)); done) (HR2.out _).2.2, (HR2.out _).1, (HR2.out _).2.1⟩
  case round =>
    clear HST HR2
    obtain ⟨j, c0, d0, ty, hj, rfl, hIL, hrr, hab⟩ := hrel
    have cr0 : wr.cell? ⟨k0, 0, none⟩ = some (.pointer (some ⟨rb, 0, none⟩)) := (cell_of hrr 0).trans rfl
    have cr1 : wr.cell? ⟨k0, 1, none⟩ = some (.pointer (some ⟨sb, 0, none⟩)) := (cell_of hrr 1).trans rfl
    have lrr := lt_of_heap hrr
    obtain ⟨hc0, hd0⟩ := hIL.le
    by_cases hjq : j < Q
    · have hjq2 : (j : Int) < (Q : Int) := by omega
      obtain ⟨x, hx⟩ : ∃ x, q[j]? = some x := ⟨_, List.getElem?_eq_getElem (by rw [← EQ.out]; exact hjq)⟩
      obtain ⟨nb, noff, eo, hnb, hcell⟩ := HAB.out.2 j x hx
      have hc : wr.cell? ⟨nb, noff + j, none⟩ = some (.int .i64 x) := (hIL.kept.cell (p := ⟨nb, noff + j, none⟩) hnb (fun h => h)).trans hcell
      have hlb : nb < wr.heap.size := Nat.lt_of_lt_of_le hnb hIL.kept.size
      subst eo
      by_cases hbad : x < 0 ∨ 65536 < x
      · have HG : Hid _ := (⟨hIL, hrr, hab⟩ : _ ∧ _ ∧ _)
        have d3 : decide (x < 0) = true ∨ (decide (x < 0) = false ∧ decide (x > 65536) = true) := by simp only [decide_eq_true_eq, decide_eq_false_iff_not]; omega
        clear hIL hx hcell hbad hrr hab
        rcases d3 with d3 | ⟨d3, d4⟩
        all_goals
          go_wp2_with fail
          go_roundw
          case rel => exact ⟨j + 1, c0, d0, ty, hjq, by rw [Int.natCast_add]; rfl, HG.out⟩
          case measure => simp only [intOf]; omega
      · obtain ⟨m, rfl⟩ := Int.eq_ofNat_of_zero_le (show 0 ≤ x by omega)
        have d3 : decide ((m : Int) < 0) = false := by simp
        have d4 : decide ((m : Int) > 65536) = false := by simp; omega
        have d4' : ¬ ((m : Int) > 65536) := by omega
        have hcz : n ≤ 4194304 := by rw [EN.out]; exact hl
        rcases Nat.mod_two_eq_zero_or_one j with hp | hp
        · have hpm : Int.tmod (j : Int) 2 = 0 := by rw [Int.tmod_eq_emod_of_nonneg (by omega)]; omega
          clear hx hcell hbad hp
          have HR := (hIL).read (by decide) (by decide) hl m (by omega)
          obtain ⟨k, ek⟩ : ∃ k, k = min m (l.length - c0) := ⟨_, rfl⟩
          have hkl : c0 + k ≤ l.length := by omega
          rw [← ek] at HR
          have HR' : Hid _ := HR
          have hmin : min (m : Int) ((n : Int) - (c0 : Int)) = (k : Int) := by have := EN.out; omega
          have hn4 : n ≤ 4194304 := by rw [EN.out]; exact hl
          have hkn : c0 + k ≤ n := by rw [EN.out]; exact hkl
          have g1 : ¬ ((n : Int) - (c0 : Int) < (k : Int)) := by omega
          have g1' : decide ((n : Int) - (c0 : Int) < (k : Int)) = false := decide_eq_false g1
          have g2 : IntKind.i64.wrap ((n : Int) - (c0 : Int)) = (n : Int) - (c0 : Int) := by rw [IntKind.wrap_i64]; omega
          have g3 : IntKind.i64.wrap ((c0 : Int) + (k : Int)) = (c0 : Int) + (k : Int) := by rw [IntKind.wrap_i64]; omega
          have g4 : (0 : Int) ≤ (c0 : Int) := by omega
          have g5 : (c0 : Int) ≤ (c0 : Int) + (k : Int) := by omega
          have g6 : (c0 : Int) + (k : Int) ≤ (c : Int) := by omega
          have g7 : c0 + k ≤ c := by omega
          have g8 : ((c0 : Int) + (k : Int)).toNat = c0 + k := by omega
          have g9 : c0 + k - c0 = k := by omega
          have HRB : Hid _ := (⟨hrr, hab⟩ : _ ∧ _)
          have HIK : Hid _ := hIL.kept
          clear hIL HR hrr hab
          go_wp2_with fail
          refine Calls.mono HR'.out ?_
          rintro x2 w6 ⟨va, vc, rfl, hv, hI5, hK5⟩
          have hrr6 := (hK5 k0 ⟨Nat.le_refl _, by omega⟩).trans HRB.out.1
          have hab6 := (hK5 (k0 + 1) ⟨by omega, by omega⟩).trans HRB.out.2
          have c60 : w6.cell? ⟨k0 + 1, 0, none⟩ = some (.int .i64 (c0 : Int)) := (cell_of hab6 0).trans rfl
          have c61 : w6.cell? ⟨k0 + 1, 1, none⟩ = some (.int .i64 (d0 : Int)) := (cell_of hab6 1).trans rfl
          have f60 := frozen_of hab6 0
          have lab := lt_of_heap hab6
          have HSM : Hid (∀ W, Kept w6 W → Calls Try.prog 18 #[.slice va k vc, .slice (if c = c0 then some ⟨bb, off, none⟩ else some ⟨bb, off + c0, none⟩) k (c - c0)] W fun e w' => e = .returned (.bool true) ∧ w' = W) := fun W kw => by
            have hlk : ((l.drop c0).take k).length = k := by rw [List.length_take, List.length_drop]; omega
            have hmid : BytesAt W (if c = c0 then some ⟨bb, off, none⟩ else some ⟨bb, off + c0, none⟩) ((l.drop c0).take k) := by
              by_cases e : c = c0
              · rw [List.eq_nil_of_length_eq_zero (l := (l.drop c0).take k) (by rw [hlk]; omega)]
                exact BytesAt.nil _ _
              · rw [if_neg e]
                exact (HAB.out.1.data.kept (hI5.kept.trans' kw) (fun _ _ h => h)).mid c0 k
            have := same_true W va _ vc (c - c0) ((l.drop c0).take k) (hv.kept kw (fun _ _ h => h)) hmid (by rw [hlk]; omega)
            rwa [hlk] at this
          have HFIN : Hid (∀ W, Kept w6 W → ∃ ty, ApL w l p (fun k => k0 ≤ k ∧ k < k0 + 2) 3 4 rb sb (W.setCell ⟨k0 + 1, 0, none⟩ (.int .i64 ((c0 : Int) + (k : Int)))) (c0 + k) (d0) ∧ (W.setCell ⟨k0 + 1, 0, none⟩ (.int .i64 ((c0 : Int) + (k : Int)))).heap[k0]? = some (.cells #[.pointer (some ⟨rb, 0, none⟩), .pointer (some ⟨sb, 0, none⟩)] 42 (0, 0)) ∧ (W.setCell ⟨k0 + 1, 0, none⟩ (.int .i64 ((c0 : Int) + (k : Int)))).heap[k0 + 1]? = some (.cells #[.int .i64 ((c0 + k : Nat) : Int), .int .i64 (d0 : Int)] ty (0, 0))) := fun W kw => by
            have s1 : Same (fun k => k0 ≤ k ∧ k < k0 + 2) w6 (W.setCell ⟨k0 + 1, 0, none⟩ (.int .i64 ((c0 : Int) + (k : Int)))) := (Same.setCell (Kept.to kw (fun k => k0 ≤ k ∧ k < k0 + 2)) ⟨k0 + 1, 0, none⟩ (.inr ⟨by show k0 ≤ k0 + 1; omega, by show k0 + 1 < k0 + 2; omega⟩) _)
            have s2 : Same (fun k => k = k0 + 1) W (W.setCell ⟨k0 + 1, 0, none⟩ (.int .i64 ((c0 : Int) + (k : Int)))) := (Same.refl (fun k => k = k0 + 1) W).setCell ⟨k0 + 1, 0, none⟩ (.inr rfl) _
            have hrW := (kw.block k0 (lt_of_heap hrr6) (fun e => e)).trans hrr6
            have haW := (kw.block (k0 + 1) (lt_of_heap hab6) (fun e => e)).trans hab6
            refine ⟨ty, (ApL.on (hI5) (by decide) s1), (s2.block k0 (lt_of_heap hrW) (by omega)).trans hrW, ?_⟩
            rw [setCell_at haW, Int.natCast_add]
            rfl
          clear hv hI5 hK5 hrr6 hab6 HR' HRB ek
          go_wp2_with fail
          go_quiet ((go_at_call 18; exact Calls.quiet_of_same (HSM.out _ (by (repeat (first | assumption | exact Same.refl _ _ | apply Same.alloc | apply Same.drew | apply Same.drewN)); done))))
          go_wp2_with fail
          go_roundw
          case rel =>
            obtain ⟨ty2, f1, f2, f3⟩ := HFIN.out (w6.drewN nq) ((Same.refl _ w6).drewN nq)
            exact ⟨j + 1, c0 + k, d0, ty2, hjq, by rw [Int.natCast_add]; rfl, f1, f2, f3⟩
          case measure => simp only [intOf]; omega
        · have hpm : Int.tmod (j : Int) 2 = 1 := by rw [Int.tmod_eq_emod_of_nonneg (by omega)]; omega
          clear hx hcell hbad hp
          have HR := (hIL.swap).read (by decide) (by decide) hl m (by omega)
          obtain ⟨k, ek⟩ : ∃ k, k = min m (l.length - d0) := ⟨_, rfl⟩
          have hkl : d0 + k ≤ l.length := by omega
          rw [← ek] at HR
          have HR' : Hid _ := HR
          have hmin : min (m : Int) ((n : Int) - (d0 : Int)) = (k : Int) := by have := EN.out; omega
          have hn4 : n ≤ 4194304 := by rw [EN.out]; exact hl
          have hkn : d0 + k ≤ n := by rw [EN.out]; exact hkl
          have g1 : ¬ ((n : Int) - (d0 : Int) < (k : Int)) := by omega
          have g1' : decide ((n : Int) - (d0 : Int) < (k : Int)) = false := decide_eq_false g1
          have g2 : IntKind.i64.wrap ((n : Int) - (d0 : Int)) = (n : Int) - (d0 : Int) := by rw [IntKind.wrap_i64]; omega
          have g3 : IntKind.i64.wrap ((d0 : Int) + (k : Int)) = (d0 : Int) + (k : Int) := by rw [IntKind.wrap_i64]; omega
          have g4 : (0 : Int) ≤ (d0 : Int) := by omega
          have g5 : (d0 : Int) ≤ (d0 : Int) + (k : Int) := by omega
          have g6 : (d0 : Int) + (k : Int) ≤ (c : Int) := by omega
          have g7 : d0 + k ≤ c := by omega
          have g8 : ((d0 : Int) + (k : Int)).toNat = d0 + k := by omega
          have g9 : d0 + k - d0 = k := by omega
          have HRB : Hid _ := (⟨hrr, hab⟩ : _ ∧ _)
          have HIK : Hid _ := hIL.kept
          clear hIL HR hrr hab
          go_wp2_with fail
          refine Calls.mono HR'.out ?_
          rintro x2 w6 ⟨va, vc, rfl, hv, hI5, hK5⟩
          have hrr6 := (hK5 k0 ⟨Nat.le_refl _, by omega⟩).trans HRB.out.1
          have hab6 := (hK5 (k0 + 1) ⟨by omega, by omega⟩).trans HRB.out.2
          have c60 : w6.cell? ⟨k0 + 1, 0, none⟩ = some (.int .i64 (c0 : Int)) := (cell_of hab6 0).trans rfl
          have c61 : w6.cell? ⟨k0 + 1, 1, none⟩ = some (.int .i64 (d0 : Int)) := (cell_of hab6 1).trans rfl
          have f60 := frozen_of hab6 1
          have lab := lt_of_heap hab6
          have HSM : Hid (∀ W, Kept w6 W → Calls Try.prog 18 #[.slice va k vc, .slice (if c = d0 then some ⟨bb, off, none⟩ else some ⟨bb, off + d0, none⟩) k (c - d0)] W fun e w' => e = .returned (.bool true) ∧ w' = W) := fun W kw => by
            have hlk : ((l.drop d0).take k).length = k := by rw [List.length_take, List.length_drop]; omega
            have hmid : BytesAt W (if c = d0 then some ⟨bb, off, none⟩ else some ⟨bb, off + d0, none⟩) ((l.drop d0).take k) := by
              by_cases e : c = d0
              · rw [List.eq_nil_of_length_eq_zero (l := (l.drop d0).take k) (by rw [hlk]; omega)]
                exact BytesAt.nil _ _
              · rw [if_neg e]
                exact (HAB.out.1.data.kept (hI5.kept.trans' kw) (fun _ _ h => h)).mid d0 k
            have := same_true W va _ vc (c - d0) ((l.drop d0).take k) (hv.kept kw (fun _ _ h => h)) hmid (by rw [hlk]; omega)
            rwa [hlk] at this
          have HFIN : Hid (∀ W, Kept w6 W → ∃ ty, ApL w l p (fun k => k0 ≤ k ∧ k < k0 + 2) 3 4 rb sb (W.setCell ⟨k0 + 1, 1, none⟩ (.int .i64 ((d0 : Int) + (k : Int)))) (c0) (d0 + k) ∧ (W.setCell ⟨k0 + 1, 1, none⟩ (.int .i64 ((d0 : Int) + (k : Int)))).heap[k0]? = some (.cells #[.pointer (some ⟨rb, 0, none⟩), .pointer (some ⟨sb, 0, none⟩)] 42 (0, 0)) ∧ (W.setCell ⟨k0 + 1, 1, none⟩ (.int .i64 ((d0 : Int) + (k : Int)))).heap[k0 + 1]? = some (.cells #[.int .i64 (c0 : Int), .int .i64 ((d0 + k : Nat) : Int)] ty (0, 0))) := fun W kw => by
            have s1 : Same (fun k => k0 ≤ k ∧ k < k0 + 2) w6 (W.setCell ⟨k0 + 1, 1, none⟩ (.int .i64 ((d0 : Int) + (k : Int)))) := (Same.setCell (Kept.to kw (fun k => k0 ≤ k ∧ k < k0 + 2)) ⟨k0 + 1, 1, none⟩ (.inr ⟨by show k0 ≤ k0 + 1; omega, by show k0 + 1 < k0 + 2; omega⟩) _)
            have s2 : Same (fun k => k = k0 + 1) W (W.setCell ⟨k0 + 1, 1, none⟩ (.int .i64 ((d0 : Int) + (k : Int)))) := (Same.refl (fun k => k = k0 + 1) W).setCell ⟨k0 + 1, 1, none⟩ (.inr rfl) _
            have hrW := (kw.block k0 (lt_of_heap hrr6) (fun e => e)).trans hrr6
            have haW := (kw.block (k0 + 1) (lt_of_heap hab6) (fun e => e)).trans hab6
            refine ⟨ty, (ApL.on (hI5.swap) (by decide) s1), (s2.block k0 (lt_of_heap hrW) (by omega)).trans hrW, ?_⟩
            rw [setCell_at haW, Int.natCast_add]
            rfl
          clear hv hI5 hK5 hrr6 hab6 HR' HRB ek
          go_wp2_with fail
          go_quiet ((go_at_call 18; exact Calls.quiet_of_same (HSM.out _ (by (repeat (first | assumption | exact Same.refl _ _ | apply Same.alloc | apply Same.drew | apply Same.drewN)); done))))
          go_wp2_with fail
          go_roundw
          case rel =>
            obtain ⟨ty2, f1, f2, f3⟩ := HFIN.out (w6.drewN nq) ((Same.refl _ w6).drewN nq)
            exact ⟨j + 1, c0, d0 + k, ty2, hjq, by rw [Int.natCast_add]; rfl, f1, f2, f3⟩
          case measure => simp only [intOf]; omega
    · have HT0 : Hid (∀ W, Kept wr W → _) := fun W (kw : Kept wr W) => (hIL.on (by decide) (kw.to _)).tells
      have HT1 : Hid (∀ W, Kept wr W → _) := fun W (kw : Kept wr W) => (hIL.on (by decide) (kw.to _)).swap.tells
      have ca0 : wr.cell? ⟨k0 + 1, 0, none⟩ = some (.int .i64 (c0 : Int)) := (cell_of hab 0).trans rfl
      have ca1 : wr.cell? ⟨k0 + 1, 1, none⟩ = some (.int .i64 (d0 : Int)) := (cell_of hab 1).trans rfl
      have lab := lt_of_heap hab
      have KF : Hid _ := hIL.kept
      clear hIL hrr hab
      go_wp2_with fail
      go_quiet ((first
        | (go_at_call 16; exact Calls.quiet_of_same (HT0.out _ (by (repeat (first | assumption | exact Same.refl _ _ | apply Same.alloc | apply Same.drew | apply Same.drewN)); done)))
        | (go_at_call 16; exact Calls.quiet_of_same (HT1.out _ (by (repeat (first | assumption | exact Same.refl _ _ | apply Same.alloc | apply Same.drew | apply Same.drewN)); done)))))
      go_wp2_with fail
      go_ret
      exact ⟨by first | exact rfl | (congr 1; simp), by first | exact KF.out | exact KF.out.drew | exact KF.out.drewN _⟩
end Go.Proofs.Ytemfeaooenaelaa
