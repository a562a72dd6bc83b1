/- What is proved: the law RunsStable answers true, for every list of numbers that lies in memory. -/
import Derived.Test.YtcbllejjiokmbaaNOpen
namespace Go.Proofs.Ytcbllejjiokmbaa
open Go.ChangeShapes Go.WideShapes Go.ChangeAt Go.RowKit

/-- The numbers l lie in w from address a on. -/
def NumsAt (w : World) (a : Option Addr) (l : List Int) : Prop := ∀ i x, l[i]? = some x → ∃ b off, a = some ⟨b, off, none⟩ ∧ b < w.heap.size ∧ w.cell? ⟨b, off + i, none⟩ = some (.int .i64 x)
theorem Try.cellsI7 : Try.prog.cellsOf 3 = 1 := by kernel_rfl
theorem Try.bytesI7 : Try.prog.bytesOf 3 = 8 := by kernel_rfl
theorem open_argI {H : Type} {enc : TypeId × Value → H} {W : World} {fuel : Nat} {sa : Option Addr} {len cap : Nat} {d : DataW H} {p : List MemPlace}
    (h : DataW.trod enc Try.prog W 0 (fun _ => true) true fuel 63 [.slice sa len cap] = some (d, p)) : ∃ l : List Int, len = l.length ∧ ((∀ n ∈ d.weights Try.prog 63, n ≤ reachBytes) → NumsAt W sa l ∧ l.length ≤ 140737488351232) := by
  rcases Go.Deep.open_slice1 Try.underlying63 Try.cellsI7 h with ⟨hcs, hd⟩ | ⟨a, len', cap', m, n, V, D, Pl, hcs, _, hl, hm, hmm, hd, hx⟩
  · simp only [List.cons.injEq, Value.slice.injEq, and_true] at hcs
    obtain ⟨rfl, rfl, rfl⟩ := hcs
    exact ⟨[], rfl, fun _ => ⟨fun i x hx => by simp at hx, by simp⟩⟩
  · simp only [List.cons.injEq, Value.slice.injEq, and_true] at hcs
    obtain ⟨rfl, rfl, rfl⟩ := hcs
    simp only [if_true] at hmm
    simp only [Prod.mk.injEq] at hd
    have each : ∀ i, i < len → ∃ x : Int, W.cell? (a.add i) = some (.int .i64 x) := by
      intro i hi
      obtain ⟨h1, h2⟩ := hx i (by omega)
      obtain ⟨x, e, _⟩ := DataW.trod_int Try.underlying3 h2
      simp only [List.cons.injEq, and_true] at e
      rw [e] at h1
      exact ⟨x, h1⟩
    obtain ⟨q, hq⟩ := Go.Deep.choose_lt each
    obtain ⟨e1, e2⟩ := list_of len q
    refine ⟨(List.range len).map q, e1.symm, fun hw => ⟨fun i x hi => ?_, ?_⟩⟩
    · obtain ⟨hi', rfl⟩ := e2 i x hi
      have h0 := hq i hi'
      have h00 := hq 0 (by omega)
      obtain ⟨b, off, spot⟩ := a
      have hspot : spot = none := by simpa [Addr.add] using World.cell?_spot h00
      subst hspot
      rw [Go.WideShapes.add_plain] at h0
      exact ⟨b, off, rfl, World.block_lt_of_cell? W _ h0, h0⟩
    · rw [e1]
      have := hw ((len + (m - len)) * 8) (by
        rw [hd.1]
        simp only [DataW.weights, Try.underlying63, Try.bytesI7, List.length_map, List.length_range]
        exact List.mem_cons_self)
      unfold reachBytes at this
      omega
/-- What is alike stays as it stood. -/
theorem srt_stable {α : Type} {lt : α → α → Bool} (h : SWO lt) {f : α → Int} : ∀ {l : List α}, l.Pairwise (fun a b => f a < f b) → (srt lt l).Pairwise fun a b => lt a b = true ∨ (lt b a = false ∧ f a < f b) := by
  intro l
  induction l with
  | nil => intro _; exact List.Pairwise.nil
  | cons x l ih =>
    intro hl
    obtain ⟨h1, h2⟩ := List.pairwise_cons.1 hl
    have hS := ih h2
    have hm : ∀ y ∈ srt lt l, f x < f y := fun y hy => h1 y ((srt_perm lt l).mem_iff.1 hy)
    show (insL lt x (srt lt l)).Pairwise _
    generalize srt lt l = S at hS hm
    clear ih hl h1 h2
    induction S with
    | nil => exact List.pairwise_singleton _ _
    | cons y S ih =>
      obtain ⟨g1, g2⟩ := List.pairwise_cons.1 hS
      simp only [insL]
      by_cases hy : lt y x = true
      · rw [if_pos hy, List.pairwise_cons]
        refine ⟨fun z hz => ?_, ih g2 fun z hz => hm z (by simp [hz])⟩
        rcases List.mem_cons.1 ((insL_perm lt x S).mem_iff.1 hz) with rfl | hz
        · exact .inl hy
        · exact g1 z hz
      · have hy' : lt y x = false := by simpa using hy
        rw [if_neg hy, List.pairwise_cons]
        refine ⟨fun z hz => .inr ⟨?_, hm z hz⟩, hS⟩
        rcases List.mem_cons.1 hz with rfl | hz
        · exact hy'
        · rcases g1 z hz with e | ⟨e, -⟩
          · exact h.ntr (h.asym e) hy'
          · exact h.ntr e hy'
theorem szs_le {l : List RwM} (h : ∀ r ∈ l, rightR r) : szs l ≤ 561 * l.length := by
  induction l with
  | nil => simp [szs]
  | cons r l ih =>
    have h1 := (bytesR_len (h r (by simp))).2
    have h2 := ih fun x hx => h x (by simp [hx])
    simp only [List.length_cons, szs]
    omega
/-- The rows of the law: the times that count, each with its number. -/
def rt (t : Int) (c : Nat) : RwM := ⟨3, t, 0, 0, (c : Int), 0, ⟨#[]⟩⟩
structure Tms (xs : List RwM) : Prop where
  each : ∀ (i : Nat) (r : RwM), xs[i]? = some r → ∃ t, r = rt t i
  len : xs.length ≤ 5000
theorem Tms.pw {xs : List RwM} (h : Tms xs) : xs.Pairwise fun a b => a.frm < b.frm := by
  rw [List.pairwise_iff_getElem]
  intro i j hi hj hij
  obtain ⟨t, e⟩ := h.each i _ (List.getElem?_eq_getElem hi)
  obtain ⟨t', e'⟩ := h.each j _ (List.getElem?_eq_getElem hj)
  rw [e, e']
  simp only [rt]
  omega
theorem Tms.more {xs : List RwM} (h : Tms xs) (hn : xs.length < 5000) (t : Int) : Tms (xs ++ [rt t xs.length]) := by
  refine ⟨fun i r hr => ?_, by simp; omega⟩
  by_cases hi : i < xs.length
  · rw [List.getElem?_append_left hi] at hr
    exact h.each i r hr
  · rw [List.getElem?_append_right (by omega)] at hr
    have : i - xs.length = 0 := by
      by_cases e : i - xs.length = 0
      · exact e
      · rw [List.getElem?_eq_none (by simp; omega)] at hr
        cases hr
    rw [this] at hr
    simp only [List.getElem?_cons_zero, Option.some.injEq] at hr
    exact ⟨t, by rw [← hr, show i = xs.length by omega]⟩
theorem bef2 (t t' : Int) (c c' : Nat) : bef 2 (rt t c) (rt t' c') = true ↔ t < t' := by
  rw [bef_iff]
  simp only [rt]
  constructor
  · intro h
    omega
  · intro h
    exact ⟨.inr (by first | exact rfl | trivial), .inl h⟩
/-- How two neighbours stand. -/
theorem Tms.next {xs : List RwM} (h : Tms xs) {i : Nat} {a b : RwM} (ha : (srt (bef 2) xs)[i]? = some a) (hb : (srt (bef 2) xs)[i + 1]? = some b) : a.time < b.time ∨ (a.time = b.time ∧ a.frm < b.frm) := by
  have hp := srt_stable (bef_swo 2) h.pw
  rw [List.pairwise_iff_getElem] at hp
  obtain ⟨hi, rfl⟩ := List.getElem?_eq_some_iff.1 ha
  obtain ⟨hj, rfl⟩ := List.getElem?_eq_some_iff.1 hb
  have hr := hp i (i + 1) hi hj (by omega)
  have m1 := (srt_perm (bef 2) xs).mem_iff.1 (List.getElem_mem hi)
  have m2 := (srt_perm (bef 2) xs).mem_iff.1 (List.getElem_mem hj)
  generalize (srt (bef 2) xs)[i] = x at *
  generalize (srt (bef 2) xs)[i + 1] = y at *
  obtain ⟨k, hk, rfl⟩ := List.getElem_of_mem m1
  obtain ⟨k', hk', rfl⟩ := List.getElem_of_mem m2
  obtain ⟨t, e⟩ := h.each k _ (List.getElem?_eq_getElem hk)
  obtain ⟨t', e'⟩ := h.each k' _ (List.getElem?_eq_getElem hk')
  rw [e, e'] at hr ⊢
  rcases hr with hr | ⟨hr, hf⟩
  · exact .inl ((bef2 _ _ _ _).1 hr)
  · have : ¬ t' < t := fun g => by rw [(bef2 t' t k' k).2 g] at hr; cases hr
    simp only [rt] at hf ⊢
    omega
structure Sg (w wr : World) (base b : Nat) (v : Value) (xs : List RwM) (pk : Nat) : Prop where
  bf : Bf base wr b 2 16777216 v xs pk
  tms : Tms xs
  same : Same (fun k => w.heap.size ≤ k) w wr
theorem Bf.step {w w1 w2 : World} {base b : Nat} {order : Int} {bud : Nat} {v : Value} {xs : List RwM} {pk : Nat} (h : Bf base w1 b order bud v xs pk) (hb : w.heap.size ≤ base) (k : Same (fun k => w.heap.size ≤ k) w w1) (k2 : Same (fun k => k = b ∨ v.ownBlock = some k) w1 w2) : Same (fun k => w.heap.size ≤ k) w w2 :=
  k.trans k2 fun i _ hi => by
    rcases hi with e | e
    · have := h.low; omega
    · have := (OwnR.block h.own e).1; omega
set_option maxRecDepth 100000 in
set_option maxHeartbeats 4000000 in
theorem stable_law (w : World) (a : Option Addr) (cap : Nat) (l : List Int) (h : NumsAt w a l) (hn : l.length ≤ 140737488351232) : Calls Try.prog 7 #[.slice a l.length cap] w fun e w' => e = .returned (.bool true) ∧ Kept w w' := by
  have HA : Hid (∀ W, _) := anchor10_any
  have HN : Hid (∀ W, _) := fun W => new10_ok (.inr rfl) (bud := 16777216) (by decide) (by decide) W
  have HL : Hid _ := h
  obtain ⟨n, en⟩ : ∃ n, n = l.length := ⟨_, rfl⟩
  rw [← en] at hn ⊢
  have EN : Hid _ := en
  clear h en
  go_enter Try.func7, Try.ntmps7
  go_wp2_with fail
  refine Calls.mono (HA.out _) ?_
  rintro e w1 ⟨rfl, k1⟩
  have K1 : Hid _ := k1
  clear k1
  go_wp2_with fail
  refine Calls.mono (HN.out _) ?_
  rintro e w2 ⟨b, rfl, bf2, k2⟩
  have hbase : w.heap.size ≤ w1.heap.size := K1.out.size
  have SG : Hid (Sg w w2 w1.heap.size b (.slice none 0 0) [] 0) := ⟨bf2, ⟨fun i r hr => by simp at hr, by simp⟩, Kept.to (Same.trans' K1.out k2) _⟩
  clear bf2 k2 HN HA
  generalize w1.heap.size = base at *
  go_wp2_with fail
  go_loopw [5, 24] (fun u5 i wr => ∃ (j : Nat) (v : Value) (xs : List RwM) (pk : Nat), j ≤ n ∧ i = .int .i64 j ∧ u5 = .int .i64 (xs.length : Int) ∧ Sg w wr base b v xs pk) (fun _ i _ => n - (intOf i).toNat)
  case atStart => exact ⟨0, _, [], 0, Nat.zero_le _, rfl, rfl, SG.out⟩
  case round =>
    clear SG
    obtain ⟨j, v, xs, pk, hj, rfl, rfl, sg⟩ := hrel
    have G : Hid _ := sg
    obtain ⟨nx, enx⟩ : ∃ nx, nx = xs.length := ⟨_, rfl⟩
    rw [← enx]
    have ENX : Hid _ := enx
    have hnx : nx ≤ 5000 := by rw [enx]; exact sg.tms.len
    by_cases hlt : j < n
    · have c1 : decide ((j : Int) < (n : Int)) = true := decide_eq_true (by omega)
      have c1' : (j : Int) < (n : Int) := by omega
      obtain ⟨t, ht⟩ : ∃ t, l[j]? = some t := ⟨_, List.getElem?_eq_getElem (by rw [← EN.out]; exact hlt)⟩
      obtain ⟨g, off, ea, hg, x0⟩ := HL.out j t ht
      subst ea
      have y0 := (sg.same.cell (p := ⟨g, off + j, none⟩) hg (by show ¬ w.heap.size ≤ g; omega)).trans x0
      have hg2 : g < wr.heap.size := Nat.lt_of_lt_of_le hg sg.same.size
      by_cases hok : 0 ≤ t ∧ t ≤ 1099511627776 ∧ nx < 5000
      · have q1 : decide (0 ≤ t) = true := decide_eq_true hok.1
        have q2 : decide (t ≤ 1099511627776) = true := decide_eq_true hok.2.1
        have q3 : decide ((nx : Int) < 5000) = true := decide_eq_true (by omega)
        have q1' := hok.1
        have q2' := hok.2.1
        have q3' : (nx : Int) < 5000 := by omega
        have hrt : rightR (rt t nx) := by
          unfold rightR inB rt
          refine ⟨⟨by simp, by simp⟩, ⟨hok.1, hok.2.1⟩, ⟨by simp, by simp⟩, ⟨by simp, by simp⟩, ⟨by simp, by simp; omega⟩, ⟨by simp, by simp⟩, by simp [ByteArray.size]⟩
        have HAD : Hid _ := add10_ok sg.bf hrt (by
          have h1 := szs_le sg.bf.right
          have h2 := (bytesR_len hrt).2
          omega)
        rw [show rowV (rt t nx) = .agg #[.int .i64 3, .int .i64 t, .int .i64 0, .int .i64 0, .int .i64 (nx : Int), .int .i64 0, .string ⟨#[]⟩] from rfl] at HAD
        have TM : Hid (Tms (xs ++ [rt t nx])) := by show Tms _; rw [enx]; exact sg.tms.more (by omega) t
        clear sg enx hok ht x0 hrt
        go_wp2_with fail
        refine Calls.mono HAD.out ?_
        rintro e w4 ⟨rfl, v4, bf4, s4, n4⟩
        have SG4 : Hid (Sg w w4 base b v4 _ _) := ⟨bf4, TM.out, G.out.bf.step hbase G.out.same s4⟩
        clear bf4 s4 n4 HAD
        go_wp2_with fail
        go_roundw
        case rel => exact ⟨j + 1, _, _, _, hlt, by rw [Int.natCast_add]; rfl, by rw [List.length_append, ENX.out]; rfl, SG4.out⟩
        case measure => simp only [intOf]; omega
      · have REL : Hid (∃ (j' : Nat) (v : Value) (xs : List RwM) (pk : Nat), j' ≤ n ∧ Value.int .i64 ((j : Int) + 1) = .int .i64 j' ∧ Value.int .i64 (nx : Int) = .int .i64 (xs.length : Int) ∧ Sg w wr base b v xs pk) := ⟨j + 1, v, xs, pk, hlt, by rw [Int.natCast_add]; rfl, by rw [ENX.out], G.out⟩
        clear sg enx ht x0
        by_cases h1 : 0 ≤ t
        · have q1 : decide (0 ≤ t) = true := decide_eq_true h1
          by_cases h2 : t ≤ 1099511627776
          · have q2 : decide (t ≤ 1099511627776) = true := decide_eq_true h2
            have q3 : decide ((nx : Int) < 5000) = false := decide_eq_false (by omega)
            have q3' : ¬ (nx : Int) < 5000 := by omega
            clear hok
            go_wp2_with fail
            go_roundw
            case rel => exact REL.out
            case measure => simp only [intOf]; omega
          · have q2 : decide (t ≤ 1099511627776) = false := decide_eq_false h2
            clear hok
            go_wp2_with fail
            go_roundw
            case rel => exact REL.out
            case measure => simp only [intOf]; omega
        · have q1 : decide (0 ≤ t) = false := decide_eq_false h1
          clear hok
          go_wp2_with fail
          go_roundw
          case rel => exact REL.out
          case measure => simp only [intOf]; omega
    · obtain rfl : n = j := by omega
      have c1 : decide ((n : Int) < (n : Int)) = false := by simp
      have HT : Hid _ := take10 sg.bf
      clear sg
      go_wp2_with fail
      refine Calls.mono HT.out ?_
      rintro e w5 ⟨u, rfl, o5, bf5, s5⟩
      obtain ⟨ua, uc, rfl, ru, -⟩ := OwnR.rows o5
      rw [srt_len, ← ENX.out]
      have S5 : Hid _ := G.out.bf.step hbase G.out.same (s5.mono fun i _ e => .inl e)
      have BF5 : Hid _ := bf5
      have RU : Hid _ := ru
      have LU : Hid ((srt (bef 2) xs).length = nx) := by show _ = _; rw [srt_len]; exact ENX.out.symm
      clear o5 bf5 s5 ru HT enx
      go_wp2_with fail
      go_loopw [9] (fun i wr => ∃ p : Nat, i = .int .i64 ((p + 1 : Nat) : Int) ∧ Kept w5 wr) (fun i _ => nx - (intOf i).toNat)
      case atStart => exact ⟨0, rfl, Same.refl _ _⟩
      case round =>
        obtain ⟨p, rfl, kk⟩ := hrel
        have KK : Hid _ := kk
        by_cases hp : p + 1 < nx
        · have d1 : decide (((p + 1 : Nat) : Int) < (nx : Int)) = true := decide_eq_true (by omega)
          have d1' : (p : Int) + 1 < (nx : Int) := by omega
          have d1'' : (p : Int) < (nx : Int) := by omega
          obtain ⟨x, hx⟩ : ∃ x, (srt (bef 2) xs)[p]? = some x := ⟨_, List.getElem?_eq_getElem (by rw [LU.out]; omega)⟩
          obtain ⟨y, hy⟩ : ∃ y, (srt (bef 2) xs)[p + 1]? = some y := ⟨_, List.getElem?_eq_getElem (by rw [LU.out]; omega)⟩
          have hnx2 := G.out.tms.next hx hy
          obtain ⟨g, off, rfl, hg, -, x1, -, -, x4, -⟩ := (RowsAt.on RU.out kk) p x hx
          obtain ⟨g', off', e, -, -, y1, -, -, y4, -⟩ := (RowsAt.on RU.out kk) (p + 1) y hy
          cases e
          obtain ⟨k0, t0, s0, i0, f0, z0, b0⟩ := x
          obtain ⟨k1, t1, s1, i1, f1, z1, b1⟩ := y
          simp only at x1 x4 y1 y4 hnx2
          rcases hnx2 with ht | ⟨rfl, hf⟩
          · have q1 : decide (t1 < t0) = false := decide_eq_false (by omega)
            have q1' : ¬ t1 < t0 := by omega
            have q2 : (t1 == t0) = false := by simp; omega
            have q2' : ¬ t1 = t0 := by omega
            clear hx hy kk ht
            go_wp2_with fail
            go_region
            all_goals
              go_wp2_with fail
              go_roundw
              case rel => exact ⟨p + 1, by rw [Int.natCast_add]; rfl, by first | exact KK.out | exact KK.out.drew | exact KK.out.drewN _⟩
              case measure => simp only [intOf]; omega
          · have q1 : decide (t0 < t0) = false := decide_eq_false (by omega)
            have q3 : decide (f1 ≤ f0) = false := decide_eq_false (by omega)
            have q3' : ¬ f1 ≤ f0 := by omega
            clear hx hy kk hf
            go_wp2_with fail
            go_region
            all_goals
              go_wp2_with fail
              go_roundw
              case rel => exact ⟨p + 1, by rw [Int.natCast_add]; rfl, by first | exact KK.out | exact KK.out.drew | exact KK.out.drewN _⟩
              case measure => simp only [intOf]; omega
        · have d1 : decide (((p + 1 : Nat) : Int) < (nx : Int)) = false := decide_eq_false (by omega)
          have d1' : ¬ (p : Int) + 1 < (nx : Int) := by omega
          have HLE : Hid _ := len10 (BF5.out.on kk)
          have HBY : Hid _ := bytes10 (BF5.out.on kk)
          have KW : Hid (Kept w wr) := (S5.out.trans' (kk.to _)).mono fun i hi e => by omega
          clear kk
          go_wp2_with fail
          refine Calls.mono HLE.out ?_
          rintro e w8 ⟨rfl, rfl⟩
          go_wp2_with fail
          refine Calls.mono HBY.out ?_
          rintro e w8 ⟨rfl, rfl⟩
          go_wp2_with fail
          go_ret
          exact ⟨rfl, KW.out⟩
end Go.Proofs.Ytcbllejjiokmbaa
