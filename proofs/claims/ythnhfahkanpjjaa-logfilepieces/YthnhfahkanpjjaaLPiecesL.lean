/- What is proved: LogfilePieces answers true for every list of bytes and every list of numbers. -/
import Derived.Test.YthnhfahkanpjjaaLPc
import Derived.Test.YthnhfahkanpjjaaLOneL
import Derived.Test.YthnhfahkanpjjaaLSame
import Derived.Deep.DeepCutAuto
namespace Go.Proofs.Ythnhfahkanpjjaa
open Go.RowKit

/-- The numbers l lie in w from address a on. -/
def NumsAt (w : World) (a : Option Addr) (l : List Int) : Prop := ∀ i x, l[i]? = some x → ∃ b off, a = some ⟨b, off, none⟩ ∧ b < w.heap.size ∧ w.cell? ⟨b, off + i, none⟩ = some (.int .i64 x)
theorem NumsAt.on {w w' : World} {a : Option Addr} {l : List Int} (h : NumsAt w a l) (k : Kept w w') : NumsAt w' a l := fun i x hx => by
  obtain ⟨b, off, e, hb, hc⟩ := h i x hx
  exact ⟨b, off, e, Nat.lt_of_lt_of_le hb k.size, (k.cell (p := ⟨b, _, none⟩) hb (fun h => h)).trans hc⟩
/-- What stands at the head of the loop. -/
def Hd7 (w W0 W : World) (sb : Nat) (d : List Int) (L i fr : Nat) (vl vf : Value) : Prop :=
  (∃ z, vf = .int .i64 z ∧ Flt w W0 W sb d z ∧ ∃ a m c, vl = .slice a m c) ∨
  (vf = .int .i64 0 ∧ ∃ vs s l, Pc w W0 W sb vs vl (if i ≤ L then d.take fr else d) (decide (i = L + 2)) s l ∧ s.er = 0 ∧ (i = L + 2 → dec7 d = .ok (l.map TxR.t) ∧ s.ft = true ∧ s.pl = d.length))
/-- What stands when a piece was fed. -/
def Fd7 (w W0 W : World) (sb : Nat) (D : List Int) (en : Bool) (vl : Value) : Prop := ∃ vs s l, Pc w W0 W sb vs vl D en s l ∧ s.er = 0
/-- A piece of the argument, copied. -/
theorem piece_lit {w : World} {oa : Option Addr} {c : Nat} {d : List Int} (h : ArgB w oa c d) {fr M : Nat} (h1 : fr ≤ M) (h2 : M ≤ d.length) (W : World) (k : Kept w W) (ty : TypeId) :
    ∃ v' w', (Builtin.append_ #[22, 22] ty #[.slice (some ⟨W.heap.size, 0, none⟩) 0 0, .slice (if c = fr then oa else Option.map (fun x => x.add fr) oa) (M - fr) (c - fr)]).run Try.prog (W.alloc (.cells #[] 5)) = .ok v' w' ∧ OwnB W.heap.size w' v' ((d.drop fr).take (M - fr)) ∧ Kept W w' := by
  have hl : ((d.drop fr).take (M - fr)).length = M - fr := by rw [List.length_take, List.length_drop]; omega
  have hle := h.le
  have hcap := h.cap
  have key : ∀ a', BytesAt W a' ((d.drop fr).take (M - fr)) → (a' = none → ((d.drop fr).take (M - fr)).length = 0 ∧ c - fr = 0) → ∃ v' w', (Builtin.append_ #[22, 22] ty #[.slice (some ⟨W.heap.size, 0, none⟩) 0 0, .slice a' (M - fr) (c - fr)]).run Try.prog (W.alloc (.cells #[] 5)) = .ok v' w' ∧ OwnB W.heap.size w' v' ((d.drop fr).take (M - fr)) ∧ Kept W w' := fun a' hb hn => by
    have := app_lit (c := c - fr) hb hn (by rw [hl]; omega) ty
    rw [hl] at this
    exact this
  cases oa with
  | none =>
    have h0 := (h.nil rfl)
    have e : (if c = fr then (none : Option Addr) else Option.map (fun x : Addr => x.add fr) none) = none := by split <;> rfl
    rw [e]
    refine key none (fun i x hx => ?_) (fun _ => ⟨by rw [hl]; omega, by omega⟩)
    have := (List.getElem?_eq_some_iff.1 hx).1
    omega
  | some ad =>
    by_cases hd0 : 0 < d.length
    · obtain ⟨x0, hx0⟩ : ∃ x, d[0]? = some x := ⟨_, List.getElem?_eq_getElem hd0⟩
      obtain ⟨b, off, e, -, -⟩ := h.data _ _ hx0
      cases e
      by_cases cf : c = fr
      · rw [if_pos cf]
        refine key _ (fun i x hx => ?_) (fun e => by cases e)
        have := (List.getElem?_eq_some_iff.1 hx).1
        omega
      · rw [if_neg cf]
        simp only [Option.map_some, Addr.add_lit]
        exact key _ (bytes_sub (h.on k).data fr (M - fr)) (fun e => by cases e)
    · obtain ⟨a', ea⟩ : ∃ a', (if c = fr then some ad else Option.map (fun x : Addr => x.add fr) (some ad)) = some a' := by split <;> exact ⟨_, rfl⟩
      rw [ea]
      refine key _ (fun i x hx => ?_) (fun e => by cases e)
      have := (List.getElem?_eq_some_iff.1 hx).1
      omega
theorem take_more (d : List Int) {fr M : Nat} (h1 : fr ≤ M) : d.take fr ++ (d.drop fr).take (M - fr) = d.take M := by
  obtain ⟨j, rfl⟩ := Nat.exists_eq_add_of_le h1
  rw [Nat.add_sub_cancel_left, ← List.take_add]
def mOf : Value → Nat → Nat
  | .bool true, k => k
  | _, _ => 0
/-- What stands at the head of the inner loop. -/
def In7 (w W0 W : World) (sb : Nat) (d : List Int) (L i fr : Nat) (vl vf vm : Value) : Prop :=
  (vm = .bool true ∧ vf = .int .i64 0 ∧ Fd7 w W0 W sb (if i < L then d.take fr else d) (decide (i = L + 1)) vl) ∨ (vm = .bool false ∧ Hd7 w W0 W sb d L (i + 1) fr vl vf)
theorem fed_rest (d : List Int) (L i fr : Nat) : ∃ x, (if i < L then d.take fr else d) ++ x = d := by
  split
  · exact ⟨d.drop fr, List.take_append_drop _ _⟩
  · exact ⟨[], List.append_nil _⟩
section
variable {w W0 W : World} {sb : Nat} {d : List Int} {L i fr : Nat} {vs vl : Value} {s s' : Sc} {l : List TxR} {W1 : World}
/-- Feed of a copied piece. -/
theorem Pc.fed_call {D p : List Int} {b : Nat} {v5 : Value} (h : Pc w W0 W sb vs vl D false s l) (h0 : s.er = 0) (k5 : Kept W W1) (o5 : OwnB b W1 v5 p) (hb : (D ++ p).length ≤ 140737488355328) (hby : Byts p) : Calls Try.prog 19 #[.pointer (some ⟨sb, 0, none⟩), v5] W1 fun x w' => x = .returned (.int .i64 0) ∧ Fd7 w W0 w' sb (D ++ p) false vl := by
  obtain ⟨a5, c5, rfl, d5, -, n5, -, -⟩ := OwnB.bytes o5
  have h5 := h.on k5
  have hr := h5.rdg.at_.sn
  have hl : s.pl + (restOf D s ++ p).length ≤ 140737488355328 := by
    have hp := h.rdg.at_.ple
    rw [rest_0 h0]
    simp only [List.length_append, List.length_drop] at hb ⊢
    omega
  refine Calls.mono (sfeed_any (c := c5) hr (Nat.le_trans h.rdg.kept.size k5.size) d5 n5 hby hl) ?_
  rintro x w' ⟨rfl, hf⟩
  obtain ⟨vs', hp⟩ := h5.feed h0 hb hby hf
  exact ⟨rfl, vs', s, l, hp, h0⟩
theorem Flt.on {z : Int} (h : Flt w W0 W sb d z) (k : Kept W W1) : Flt w W0 W1 sb d z := by
  obtain ⟨⟨vs, D, en, s, a, b, c⟩, n, kk, o⟩ := h
  exact ⟨⟨vs, D, en, s, a.on k, b, c⟩, n, kk.trans' k, o.trans k (fun _ _ f => f.elim)⟩
theorem Hd7.on {vf : Value} (h : Hd7 w W0 W sb d L i fr vl vf) (k : Kept W W1) : Hd7 w W0 W1 sb d L i fr vl vf := by
  rcases h with ⟨z, e, h, hs⟩ | ⟨e, vs, s, l, p, r⟩
  · exact .inl ⟨z, e, h.on k, hs⟩
  · exact .inr ⟨e, vs, s, l, p.on k, r⟩
/-- Next answered none and no fault. -/
theorem In7.wait (h : Pc w W0 W sb vs vl (if i < L then d.take fr else d) (decide (i = L + 1)) s l) (hl : Left w.heap.size W sb vs (if i < L then d.take fr else d) (decide (i = L + 1)) s' W1) (hn : next7 (if i < L then d.take fr else d) (decide (i = L + 1)) s = (none, s')) (he : s'.er = 0) : Hd7 w W0 W1 sb d L (i + 1) fr vl (.int .i64 0) := by
  have hby := h.rdg.at_.byts
  have hple := h.rdg.at_.ple
  have hn0 : next7 (if i < L then d.take fr else d) false s = (none, s') := by
    by_cases c : i = L + 1
    · rw [decide_eq_true c] at hn
      exact next_en0 hby hple hn he
    · rw [decide_eq_false c] at hn
      exact hn
  obtain ⟨vs', p⟩ := h.wait hl (h.rdg.fed.wait hby hn0 he) (next_ctp hby hple h.ctp hn (.inr he))
  refine .inr ⟨rfl, vs', s', l, ?_, he, fun c => ?_⟩
  · have e1 : (if i + 1 ≤ L then d.take fr else d) = if i < L then d.take fr else d := rfl
    have e2 : decide (i + 1 = L + 2) = decide (i = L + 1) := by
      by_cases c : i = L + 1
      · rw [decide_eq_true c, decide_eq_true (by omega)]
      · rw [decide_eq_false c, decide_eq_false (by omega)]
    rw [e1, e2]
    exact p
  · have ci : i = L + 1 := by omega
    have eD : (if i < L then d.take fr else d) = d := if_neg (by omega)
    rw [decide_eq_true ci] at hn
    have hb := h.rdg.fed.ended hn
    rw [if_pos he] at hb
    obtain ⟨n1, n2, -⟩ := next_end hby hple hn he
    rw [eD] at hb n2
    exact ⟨hb, n1, n2⟩
/-- Next told a fault. -/
theorem In7.told (h : Pc w W0 W sb vs vl (if i < L then d.take fr else d) (decide (i = L + 1)) s l) (hl : Left w.heap.size W sb vs (if i < L then d.take fr else d) (decide (i = L + 1)) s' W1) (hn : next7 (if i < L then d.take fr else d) (decide (i = L + 1)) s = (none, s')) (he : s'.er ≠ 0) : Flt w W0 W1 sb d s'.er := by
  have hby := h.rdg.at_.byts
  obtain ⟨vs', a1, l1, k1, b1⟩ := h.rdg.left hl
  refine ⟨⟨vs', _, _, s', a1, rfl, ?_⟩, he, k1, h.old.trans' hl.2⟩
  by_cases c : i = L + 1
  · rw [decide_eq_true c] at hn
    have hb := h.rdg.fed.ended hn
    rw [if_neg he, if_neg (by omega)] at hb
    exact hb
  · rw [decide_eq_false c] at hn
    obtain ⟨x, hx⟩ := fed_rest d L i fr
    have := h.rdg.fed.told hby hn he x
    rw [hx] at this
    exact this
end
set_option maxRecDepth 100000 in
set_option maxHeartbeats 3200000 in
theorem lpieces_any (w : World) (oa : Option Addr) (c : Nat) (d : List Int) (ob : Option Addr) (cb : Nat) (q : List Int) (h : ArgB w oa c d) (hq : NumsAt w ob q) (hql : q.length ≤ 140737488351232) :
    Calls Try.prog 8 #[.slice oa d.length c, .slice ob q.length cb] w fun e w' => e = .returned (.bool true) ∧ Kept w w' := by
  have hle := h.le
  have HR : Hid (∀ W, Kept w W → _) := fun W (k : Kept w W) => app_lit (c := c) (h.on k).data h.nil (by omega)
  have HD : Hid (∀ base W v, OwnB base W v d → Calls Try.prog 10 #[v] W fun x w' => DecR W d x w') := fun base W v (o : OwnB base W v d) => by
    obtain ⟨a, cap, rfl, hd, -, hn, -, -⟩ := OwnB.bytes o
    exact decode7_any hd hn (by omega) h.byts
  have H : Hid _ := h
  have HQ : Hid _ := hq
  obtain ⟨n, en⟩ : ∃ n, n = d.length := ⟨_, rfl⟩
  have EN : Hid _ := en
  obtain ⟨L, eL⟩ : ∃ L, L = q.length := ⟨_, rfl⟩
  have EL : Hid _ := eL
  rw [← en, ← eL]
  rw [← en] at HR hle
  rw [← eL] at hql
  clear h hq en eL
  go_enter Try.func8, Try.ntmps8
  go_wp2_with fail
  refine Calls.mono (anchor_any w) ?_
  rintro e w1 ⟨rfl, k1⟩
  have K1 : Hid _ := k1
  clear k1
  go_wp2_with fail
  refine Calls.mono (snew_any w1) ?_
  rintro x w2 ⟨sb, rfl, s2, k2, hsb⟩
  have S2 : Hid _ := s2
  have K2 : Hid (Kept w w2) := K1.out.trans' k2
  have HSB : Hid (w.heap.size ≤ sb) := Nat.le_trans K1.out.size hsb
  have B2 : Hid (w1.heap.size ≤ sb) := hsb
  clear s2 k2 hsb
  go_wp2_with (at_builtin; refine wpList_app rfl (.tmp 23) (.tmp 24) 22 22 rfl _ _ rfl rfl _ (HR.out _ K2.out) ?_; rintro v3 w3 ⟨o3, k3⟩)
  refine Calls.mono (HD.out _ _ _ o3) ?_
  rintro x w4 ⟨k4, m4⟩
  have K4 : Hid (Kept w w4) := (K2.out.trans' k3).trans' k4
  have K24 : Hid (Kept w2 w4) := k3.trans' k4
  have K23 : Hid (Kept w2 w3) := k3
  have hres : ∃ (vd : Value) (at7 : Nat) (e7 : Int), x = .returned (.tuple #[vd, .int .i64 (at7 : Int), .int .i64 e7]) ∧ (∃ a m c, vd = .slice a m c) ∧ Hid ((dec7 d = .error (at7, e7) ∧ e7 ≠ 0) ∨ (e7 = 0 ∧ ∃ l, dec7 d = .ok (l.map TxR.t) ∧ Lst w3.heap.size w4 vd l)) := by
    rcases hdc : dec7 d with ⟨p, e⟩ | ts
    · rw [hdc] at m4
      exact ⟨_, p, e, m4, ⟨_, _, _, rfl⟩, .inl ⟨rfl, (dec7_fits H.out.byts hdc).2⟩⟩
    · rw [hdc] at m4
      obtain ⟨v, l, e1, e2, e3⟩ := m4
      obtain ⟨a, cp, rfl, -⟩ := OwnT.txs e3.row
      exact ⟨_, 0, 0, e2, ⟨_, _, _, rfl⟩, .inr ⟨rfl, l, by rw [e1], e3⟩⟩
  obtain ⟨vd, at7, e7, rfl, ⟨da, dm, dc, rfl⟩, RS⟩ := hres
  have P0 : Hid (Hd7 w w4 w4 sb d L 0 0 (.slice none 0 0) (.int .i64 0)) := by
    refine .inr ⟨rfl, .slice none 0 0, sc0, [], ⟨⟨?_, Lst.nil _ _, ?_, K4.out, fun k e => (by cases e), HSB.out⟩, Same.refl _ _, ?_, Nat.le_refl _⟩, rfl, fun e => absurd e (by omega)⟩
    · rw [if_pos (Nat.zero_le _), List.take_zero, decide_eq_false (by omega)]
      have s4 := S2.out.on K24.out
      exact ⟨by rw [part_0 rfl rfl rfl, rest_0 rfl]; exact ⟨s4.obj, Tl.nil _ _, s4.ne, s4.byts, s4.len, s4.cts⟩, Nat.le_refl _, by simp, Byts.nil, fun _ e => (by cases e)⟩
    · rw [if_pos (Nat.zero_le _), List.take_zero]
      exact Fed.start
    · rintro k (e | e | ⟨r, e, -⟩) <;> cases e
  clear o3 k3 k4 m4
  go_wp2_with fail
  go_loopw [9, 10, 11, 12] (fun vfr vl vf vi W => ∃ i fr : Nat, vi = .int .i64 i ∧ vfr = .int .i64 fr ∧ i ≤ L + 2 ∧ fr ≤ n ∧ Hd7 w w4 W sb d L i fr vl vf) (fun _ _ _ vi _ => L + 3 - (intOf vi).toNat)
  case atStart => exact ⟨0, 0, rfl, rfl, by omega, by omega, P0.out⟩
  case round =>
    obtain ⟨i, fr, rfl, rfl, hi, hfr, hh⟩ := hrel
    rcases hh with ⟨z, rfl, hf, la, lm, lc, rfl⟩ | ⟨rfl, vs, s, l, hp, he, hfin⟩
    · obtain ⟨⟨vsf, Df, enf, sf, haf, hef, hdf⟩, hzn, hkf, -⟩ := hf
      have hz1 : (z == 0) = false := by simpa using hzn
      have hz2 : (z != 0) = true := by simpa using hzn
      have hp3 := part_er (s := sf) (by rw [hef]; exact hzn)
      obtain ⟨rfl, rfl⟩ : at7 = sf.pl ∧ e7 = z := by
        rcases RS.out with ⟨h1, -⟩ | ⟨-, l, h1, -⟩
        · rw [hdf] at h1
          simp only [Except.error.injEq, Prod.mk.injEq] at h1
          exact ⟨h1.1.symm, h1.2.symm⟩
        · rw [hdf] at h1
          cases h1
      have HOF : Hid _ := soffset_any haf.sn
      have HFN : Hid _ := sfin_any haf.sn
      rw [hp3, decide_eq_false (fun c => absurd c.1 (by decide))] at HFN
      have KF : Hid _ := hkf
      have hii : (i : Int) ≤ 140737488351234 := by omega
      have hzz : (e7 == e7) = true := by simp
      clear haf hkf hdf hef hzn hp3 P0 RS
      by_cases hi2 : i ≤ L + 1
      · have d1 : decide ((i : Int) ≤ (L : Int) + 1) = true := decide_eq_true (by omega)
        go_wp2_with fail
        refine Calls.mono HOF.out ?_
        rintro x w5 ⟨rfl, rfl⟩
        go_wp2_with fail
        refine Calls.mono HFN.out ?_
        rintro x w6 ⟨rfl, rfl⟩
        go_wp2_with fail
        go_ret
        exact ⟨rfl, KF.out⟩
      · have d1 : decide ((i : Int) ≤ (L : Int) + 1) = false := decide_eq_false (by omega)
        go_wp2_with fail
        refine Calls.mono HOF.out ?_
        rintro x w5 ⟨rfl, rfl⟩
        go_wp2_with fail
        refine Calls.mono HFN.out ?_
        rintro x w6 ⟨rfl, rfl⟩
        go_wp2_with fail
        go_ret
        exact ⟨rfl, KF.out⟩
    · by_cases hi2 : i ≤ L + 1
      · have d1 : decide ((i : Int) ≤ (L : Int) + 1) = true := decide_eq_true (by omega)
        have HP : Hid _ := hp
        have HER : Hid _ := he
        have hkw := hp.rdg.kept
        have KW : Hid _ := hkw
        obtain ⟨la, lc, rfl⟩ := hp.rdg.val
        have hle7 := hp.rdg.le
        have hli : (l.length : Int) ≤ 4096 := by omega
        have hen : decide (i = L + 2) = false := decide_eq_false (by omega)
        rw [hen] at HP
        have hii : (i : Int) ≤ 140737488351233 := by omega
        have hni : (n : Int) ≤ 140737488351232 := by omega
        have hfi : (fr : Int) ≤ (n : Int) := by omega
        obtain ⟨X, HX⟩ : ∃ X, Hid (i < L → q[i]? = some X) := ⟨q.getD i 0, fun c => by rw [List.getElem?_eq_getElem (by rw [← EL.out]; exact c)]; simp [List.getD, List.getElem?_eq_getElem (show i < q.length by rw [← EL.out]; exact c)]⟩
        clear hp he hfin hkw hen P0
        go_upto_region 13 with fail
        go_cut [62] from 30 to 119 (fun s62 wx => s62 = .bool (decide (i < L ∧ 0 ≤ X ∧ X ≤ (n : Int) - (fr : Int))) ∧ wx = wr)
        case first =>
          by_cases c1 : i < L
          · have d2 : decide ((i : Int) < (L : Int)) = true := decide_eq_true (by omega)
            have d2' : (i : Int) < (L : Int) := by omega
            obtain ⟨b, off, rfl, hbl, hcl⟩ := NumsAt.on HQ.out KW.out i X (HX.out c1)
            by_cases c2 : 0 ≤ X
            · have d3 : decide (X ≥ 0) = true := decide_eq_true c2
              by_cases c3 : X ≤ (n : Int) - (fr : Int)
              · have d4 : decide (X ≤ (n : Int) - (fr : Int)) = true := decide_eq_true c3
                go_wp2_with fail
                go_meet
                exact ⟨congrArg Value.bool (decide_eq_true (p := i < L ∧ 0 ≤ X ∧ X ≤ (n : Int) - (fr : Int)) ⟨c1, c2, c3⟩).symm, rfl⟩
              · have d4 : decide (X ≤ (n : Int) - (fr : Int)) = false := decide_eq_false c3
                go_wp2_with fail
                go_meet
                exact ⟨congrArg Value.bool (decide_eq_false (p := i < L ∧ 0 ≤ X ∧ X ≤ (n : Int) - (fr : Int)) (fun k => by omega)).symm, rfl⟩
            · have d3 : decide (X ≥ 0) = false := decide_eq_false c2
              go_wp2_with fail
              go_meet
              exact ⟨congrArg Value.bool (decide_eq_false (p := i < L ∧ 0 ≤ X ∧ X ≤ (n : Int) - (fr : Int)) (fun k => by omega)).symm, rfl⟩
          · have d2 : decide ((i : Int) < (L : Int)) = false := decide_eq_false (by omega)
            go_wp2_with fail
            go_meet
            exact ⟨congrArg Value.bool (decide_eq_false (p := i < L ∧ 0 ≤ X ∧ X ≤ (n : Int) - (fr : Int)) (fun k => c1 k.1)).symm, rfl⟩
        case rest =>
          obtain ⟨rfl, hwc⟩ := hcut
          subst hwc
          go_upto_if 62 with fail
          go_cut [9] from 30 to 119 (fun s9 wx => ∃ fr' : Nat, s9 = .int .i64 fr' ∧ fr' ≤ n ∧ Fd7 w w4 wx sb (if i ≤ L then d.take fr' else d) false (.slice la l.length lc))
          case first =>
            by_cases hok : i < L ∧ 0 ≤ X ∧ X ≤ (n : Int) - (fr : Int)
            · obtain ⟨o1, o2, o3⟩ := hok
              obtain ⟨b, off, rfl, hbl, hcl⟩ := NumsAt.on HQ.out KW.out i X (HX.out o1)
              obtain ⟨xn, rfl⟩ := Int.eq_ofNat_of_zero_le o2
              obtain ⟨M, eM⟩ : ∃ M, M = fr + xn := ⟨_, rfl⟩
              have hM : (fr : Int) + (xn : Int) = (M : Int) := by omega
              have hMn : M ≤ n := by omega
              have hfM : fr ≤ M := by omega
              have hcn : n ≤ c := by have := H.out.cap; rw [← EN.out] at this; exact this
              have hMc : M ≤ c := by omega
              have hxi : (xn : Int) ≤ (n : Int) := by omega
              have d2' : (i : Int) < (L : Int) := by omega
              have HPL : Hid (∀ W, Kept w W → ∀ ty, ∃ v' w', (Builtin.append_ #[22, 22] ty #[.slice (some ⟨W.heap.size, 0, none⟩) 0 0, .slice (if c = fr then oa else Option.map (fun x => x.add fr) oa) (M - fr) (c - fr)]).run Try.prog (W.alloc (.cells #[] 5)) = .ok v' w' ∧ OwnB W.heap.size w' v' ((d.drop fr).take (M - fr)) ∧ Kept W w') := fun W (k : Kept w W) ty => piece_lit H.out hfM (by rw [← EN.out]; exact hMn) W k ty
              have HPD := HP.out
              rw [if_pos (Nat.le_of_lt o1)] at HPD
              have HPP : Hid _ := HPD
              have hsz := HPD.rdg.kept.size
              have hsbl := HPD.rdg.at_.sn.lt
              have HO1 : Hid _ := o1
              rw [decide_eq_true (p := i < L ∧ 0 ≤ (xn : Int) ∧ (xn : Int) ≤ (n : Int) - (fr : Int)) ⟨o1, o2, o3⟩]
              have HXX : Hid _ := HX.out
              clear HPD eM o1 o2 o3
              have TM : Hid _ := take_more d hfM
              by_cases hcf : c = fr
              · subst hcf
                obtain rfl : M = c := by omega
                rw [if_pos rfl, Nat.sub_self] at HPL
                rw [Nat.sub_self] at TM
                go_wp2_with (at_builtin; refine wpList_app rfl (.tmp 64) (.tmp 73) 22 22 rfl _ _ rfl rfl _ (HPL.out _ KW.out) ?_; rintro v5 w5 ⟨o5, k5⟩; have O5 : Hid _ := o5; have K5 : Hid _ := k5; clear o5 k5)
                refine Calls.mono (HPP.out.fed_call HER.out K5.out O5.out (by rw [TM.out, List.length_take]; have := EN.out; omega) ((H.out.byts.drop _).take _)) ?_
                rintro x w6 ⟨rfl, f6⟩
                rw [TM.out] at f6
                have F6 : Hid _ := f6
                have hkw6 : Kept w w6 := by
                  obtain ⟨_, _, _, p6, -⟩ := f6
                  exact p6.rdg.kept
                obtain ⟨b', off', e', hbl6, hcl6⟩ := NumsAt.on HQ.out hkw6 i _ (HXX.out HO1.out)
                cases e'
                clear f6 hkw6
                go_wp2_with fail
                go_meet
                exact ⟨M, rfl, hMn, by rw [if_pos (Nat.le_of_lt HO1.out)]; exact F6.out⟩
              · rw [if_neg hcf] at HPL
                go_wp2_with (at_builtin; refine wpList_app rfl (.tmp 64) (.tmp 73) 22 22 rfl _ _ rfl rfl _ (HPL.out _ KW.out) ?_; rintro v5 w5 ⟨o5, k5⟩; have O5 : Hid _ := o5; have K5 : Hid _ := k5; clear o5 k5)
                refine Calls.mono (HPP.out.fed_call HER.out K5.out O5.out (by rw [TM.out, List.length_take]; have := EN.out; omega) ((H.out.byts.drop _).take _)) ?_
                rintro x w6 ⟨rfl, f6⟩
                rw [TM.out] at f6
                have F6 : Hid _ := f6
                have hkw6 : Kept w w6 := by
                  obtain ⟨_, _, _, p6, -⟩ := f6
                  exact p6.rdg.kept
                obtain ⟨b', off', e', hbl6, hcl6⟩ := NumsAt.on HQ.out hkw6 i _ (HXX.out HO1.out)
                cases e'
                clear f6 hkw6
                go_wp2_with fail
                go_meet
                exact ⟨M, rfl, hMn, by rw [if_pos (Nat.le_of_lt HO1.out)]; exact F6.out⟩
            · rw [decide_eq_false hok]
              go_wp2_with fail
              go_meet
              exact ⟨fr, rfl, hfr, vs, s, l, HP.out, HER.out⟩
          case rest =>
            obtain ⟨fr2, rfl, hfr2, hfd⟩ := hcut
            have FD : Hid _ := hfd
            have hfi2 : (fr2 : Int) ≤ (n : Int) := by omega
            clear hfd HP HER HX hfr hfi
            go_upto_if 85 with fail
            go_cut [9] from 30 to 119 (fun s9 wx => s9 = .int .i64 fr2 ∧ Fd7 w w4 wx sb (if i < L then d.take fr2 else d) false (.slice la l.length lc))
            case first =>
              by_cases hL : i = L
              · have d5 : ((i : Int) == (L : Int)) = true := by rw [hL]; simp
                obtain ⟨vs2, s2', l2, p2, e2⟩ := FD.out
                rw [if_pos (Nat.le_of_eq hL)] at p2
                have KW2 : Hid _ := p2.rdg.kept
                have HP2 : Hid _ := p2
                have HE2 : Hid _ := e2
                have HPL : Hid (∀ W, Kept w W → ∀ ty, ∃ v' w', (Builtin.append_ #[22, 22] ty #[.slice (some ⟨W.heap.size, 0, none⟩) 0 0, .slice (if c = fr2 then oa else Option.map (fun x => x.add fr2) oa) (n - fr2) (c - fr2)]).run Try.prog (W.alloc (.cells #[] 5)) = .ok v' w' ∧ OwnB W.heap.size w' v' ((d.drop fr2).take (n - fr2)) ∧ Kept W w') := fun W (k : Kept w W) ty => piece_lit H.out (fr := fr2) (M := n) hfr2 (by rw [← EN.out]; exact Nat.le_refl _) W k ty
                have hcn : n ≤ c := by have := H.out.cap; rw [← EN.out] at this; exact this
                have HLL : Hid _ := hL
                clear p2 e2 hL
                have TM : Hid _ := take_more d hfr2
                by_cases hcf : c = fr2
                · subst hcf
                  obtain rfl : n = c := by omega
                  rw [if_pos rfl, Nat.sub_self] at HPL
                  rw [Nat.sub_self] at TM
                  go_wp2_with (at_builtin; refine wpList_app rfl (.tmp 87) (.tmp 90) 22 22 rfl _ _ rfl rfl _ (HPL.out _ KW2.out) ?_; rintro v5 w5 ⟨o5, k5⟩; have O5 : Hid _ := o5; have K5 : Hid _ := k5; clear o5 k5)
                  have hall : d.take n = d := by rw [EN.out]; exact List.take_length
                  refine Calls.mono (HP2.out.fed_call HE2.out K5.out O5.out (by rw [TM.out, List.length_take]; have := EN.out; omega) ((H.out.byts.drop _).take _)) ?_
                  rintro x w6 ⟨rfl, f6⟩
                  rw [TM.out, hall] at f6
                  have F6 : Hid _ := f6
                  clear f6 hall
                  go_wp2_with fail
                  go_meet
                  exact ⟨rfl, by rw [if_neg (show ¬ i < L by have := HLL.out; omega)]; exact F6.out⟩
                · rw [if_neg hcf] at HPL
                  go_wp2_with (at_builtin; refine wpList_app rfl (.tmp 87) (.tmp 90) 22 22 rfl _ _ rfl rfl _ (HPL.out _ KW2.out) ?_; rintro v5 w5 ⟨o5, k5⟩; have O5 : Hid _ := o5; have K5 : Hid _ := k5; clear o5 k5)
                  have hall : d.take n = d := by rw [EN.out]; exact List.take_length
                  refine Calls.mono (HP2.out.fed_call HE2.out K5.out O5.out (by rw [TM.out, List.length_take]; have := EN.out; omega) ((H.out.byts.drop _).take _)) ?_
                  rintro x w6 ⟨rfl, f6⟩
                  rw [TM.out, hall] at f6
                  have F6 : Hid _ := f6
                  clear f6 hall
                  go_wp2_with fail
                  go_meet
                  exact ⟨rfl, by rw [if_neg (show ¬ i < L by have := HLL.out; omega)]; exact F6.out⟩
              · have d5 : ((i : Int) == (L : Int)) = false := by simpa using fun c => hL (by omega)
                have HLL : Hid _ := hL
                clear hL
                go_wp2_with fail
                go_meet
                have e : (if i < L then d.take fr2 else d) = if i ≤ L then d.take fr2 else d := by
                  by_cases c : i < L
                  · rw [if_pos c, if_pos (Nat.le_of_lt c)]
                  · rw [if_neg c, if_neg (show ¬ i ≤ L from fun h => HLL.out (by omega))]
                exact ⟨rfl, by rw [e]; exact FD.out⟩
            case rest =>
              obtain ⟨rfl, hfd⟩ := hcut
              have FD2 : Hid _ := hfd
              clear hfd FD
              go_upto_if 96 with fail
              go_cut [9] from 30 to 119 (fun s9 wx => s9 = .int .i64 fr2 ∧ Fd7 w w4 wx sb (if i < L then d.take fr2 else d) (decide (i = L + 1)) (.slice la l.length lc))
              case first =>
                by_cases hL : i = L + 1
                · have d6 : decide ((i : Int) > (L : Int)) = true := decide_eq_true (by omega)
                  obtain ⟨vs2, s2', l2, p2, e2⟩ := FD2.out
                  have HP2 : Hid _ := p2
                  have HE2 : Hid _ := e2
                  have HEN : Hid _ := send_any p2.rdg.at_.sn
                  have HLL : Hid _ := hL
                  have d6' : (L : Int) < (i : Int) := by omega
                  clear p2 e2 hL
                  go_wp2_with fail
                  refine Calls.mono HEN.out ?_
                  rintro x w6 ⟨rfl, s6, k6⟩
                  have F6 : Hid _ := HP2.out.over s6 k6
                  clear s6 k6
                  go_wp2_with fail
                  go_meet
                  exact ⟨rfl, _, _, _, by rw [decide_eq_true HLL.out]; exact F6.out, HE2.out⟩
                · have d6 : decide ((i : Int) > (L : Int)) = false := decide_eq_false (by omega)
                  have d6' : (i : Int) ≤ (L : Int) := by omega
                  have HLL : Hid _ := hL
                  clear hL
                  go_wp2_with fail
                  go_meet
                  exact ⟨rfl, by rw [decide_eq_false HLL.out]; exact FD2.out⟩
              case rest =>
                obtain ⟨rfl, hfd⟩ := hcut
                have FD3 : Hid _ := hfd
                clear hfd FD2
                go_wp2_with fail
                go_loopw [10, 11, 13] (fun vl vf vm W => In7 w w4 W sb d L i fr2 vl vf vm) (fun vl _ vm _ => mOf vm (5000 - valLen vl))
                case atStart => exact .inl ⟨rfl, rfl, FD3.out⟩
                case round =>
                  rcases hrel with ⟨rfl, rfl, vs3, s3, l3, p3, e3⟩ | ⟨rfl, hd7⟩
                  · obtain ⟨la3, lc3, rfl⟩ := p3.rdg.val
                    have hl3 : l3.length ≤ n ∧ l3.length ≤ 4096 := by
                      have h1 := p3.rdg.fed.1
                      have h2 := p3.ctp
                      have h3 := p3.rdg.at_.ple
                      have h4 : (if i < L then d.take fr2 else d).length ≤ n := by
                        rw [EN.out]
                        split
                        · rw [List.length_take]; omega
                        · exact Nat.le_refl _
                      rw [List.length_map] at h1
                      exact ⟨by omega, p3.rdg.le⟩
                    have d7 : decide ((l3.length : Int) ≤ (n : Int)) = true := decide_eq_true (by omega)
                    have d7' : (l3.length : Int) ≤ (n : Int) := by omega
                    have P3 : Hid _ := p3
                    have HN : Hid _ := snext_any p3.rdg.at_
                    clear p3 FD3
                    go_wp2_with fail
                    refine Calls.mono HN.out ?_
                    rintro x w5 ⟨tv, rfl, n5, l5⟩
                    obtain ⟨o, s', hn7⟩ : ∃ o s', next7 (if i < L then d.take fr2 else d) (decide (i = L + 1)) s3 = (o, s') := ⟨_, _, rfl⟩
                    rw [hn7] at n5 l5 ⊢
                    simp only at n5 l5 ⊢
                    cases o with
                    | none =>
                      obtain rfl : tv = txV t0 (.slice none 0 0) := n5
                      rw [show txV t0 (.slice none 0 0) = .agg #[.int .i64 0, .int .i64 0, .int .i64 0, .int .i64 0, .int .i64 0, .int .i64 0, .int .i64 0, .slice none 0 0] from rfl]
                      rw [show (none : Option TxM).isSome = false from rfl]
                      have HD7 : Hid (Hd7 w w4 w5 sb d L (i + 1) fr2 (.slice la3 l3.length lc3) (.int .i64 s'.er)) := by
                        by_cases he : s'.er = 0
                        · rw [he]
                          exact In7.wait P3.out l5 hn7 he
                        · exact .inl ⟨_, rfl, In7.told P3.out l5 hn7 he, _, _, _, rfl⟩
                      clear l5 hn7
                      go_wp2_with fail
                      go_roundw
                      case rel => exact .inr ⟨rfl, HD7.out.on ((Same.refl _ _).alloc _)⟩
                      case measure => simp only [mOf, valLen]; omega
                    | some t =>
                      obtain ⟨ta, tc, rfl, o5⟩ := n5
                      have he := next_some P3.out.rdg.at_.byts hn7
                      rw [he]
                      have HRD : Hid (∀ ty, _) := fun ty => P3.out.read l5 hn7 o5 ty
                      rw [show txV t (.slice ta t.ops.length tc) = .agg #[.int .i64 t.f0, .int .i64 t.f1, .int .i64 t.f2, .int .i64 t.f3, .int .i64 t.f4, .int .i64 t.f5, .int .i64 t.f6, .slice ta t.ops.length tc] from rfl]
                      rw [show (some t).isSome = true from rfl]
                      have HE5 : Hid _ := he
                      clear l5 o5 hn7 he
                      go_wp2_with (at_builtin; refine wpList_app rfl (.tmp 114) (.tmp 116) 24 24 rfl _ _ rfl rfl _ HRD.out ?_; intro v6 w6 hR; obtain ⟨vs6, a6, c6, r6, rfl⟩ := hR; have R6 : Hid _ := r6; clear r6)
                      go_roundw
                      case rel => exact .inl ⟨rfl, rfl, _, _, _, R6.out, HE5.out⟩
                      case measure => simp only [mOf, valLen]; omega
                  · have HD7 : Hid _ := hd7
                    clear hd7 FD3
                    go_wp2_with fail
                    go_roundw
                    case rel => exact ⟨i + 1, fr2, by congr 1, rfl, by omega, hfr2, HD7.out⟩
                    case measure => simp only [intOf]; omega
      · obtain rfl : i = L + 2 := by omega
        obtain ⟨I, eI⟩ : ∃ I, I = L + 2 := ⟨_, rfl⟩
        have d1 : decide ((I : Int) ≤ (L : Int) + 1) = false := decide_eq_false (by omega)
        have hii : (I : Int) ≤ 140737488351234 := by omega
        obtain ⟨f1, f2, f3⟩ := hfin rfl
        obtain ⟨ld, rfl, hld, hls⟩ : ∃ ld, e7 = 0 ∧ ld.map TxR.t = l.map TxR.t ∧ Lst w3.heap.size w4 (.slice da dm dc) ld := by
          rcases RS.out with ⟨h1, -⟩ | ⟨h0, ld, h1, h2⟩
          · rw [f1] at h1
            cases h1
          · rw [f1] at h1
            exact ⟨ld, h0, (Except.ok.inj h1).symm, h2⟩
        obtain ⟨la, lc, rfl⟩ := hp.rdg.val
        have hle7 := hp.rdg.le
        have hct : s.ct = l.length := by have := hp.rdg.fed.1; rw [List.length_map] at this; exact this
        have hsn := hp.rdg.at_.sn
        have HOF : Hid _ := soffset_any hsn
        have HCN : Hid _ := scount_any hsn
        have HFN : Hid _ := sfin_any hsn
        have hdr : (restOf (if L + 2 ≤ L then d.take fr else d) s).length = 0 := by
          rw [rest_0 he, if_neg (by omega), f3, List.length_drop]
          omega
        rw [part_ft he f2, decide_eq_true (⟨rfl, decide_eq_true rfl, hdr⟩ : (2 : Int) = 2 ∧ decide (L + 2 = L + 2) = true ∧ _)] at HFN
        rw [f3, ← EN.out] at HOF
        rw [hct] at HCN
        have hlen2 : ld.length = l.length := by have := congrArg List.length hld; simpa using this
        obtain ⟨da', dc', e', td, -⟩ := OwnT.txs hls.row
        simp only [Value.slice.injEq] at e'
        obtain ⟨rfl, rfl, rfl⟩ := e'
        have hsbw3 : sb < w3.heap.size := Nat.lt_of_lt_of_le S2.out.lt K23.out.size
        have hlsr : Lst w3.heap.size wr (.slice da ld.length dc) ld := hls.kept hp.old (fun k hk (e : k = sb) => by have := (hls.block hk).1; omega)
        obtain ⟨da', dc', e', td2, -⟩ := OwnT.txs hlsr.row
        simp only [Value.slice.injEq, true_and] at e'
        obtain ⟨rfl, rfl⟩ := e'
        obtain ⟨la', lc', e', tl2, -⟩ := OwnT.txs hp.rdg.lst.row
        simp only [Value.slice.injEq, true_and] at e'
        obtain ⟨rfl, rfl⟩ := e'
        have HSL : Hid _ := sameL wr la da lc dc l ld tl2 td2 hp.rdg.lst.deep hlsr.deep hld.symm (by omega) (fun t ht => by
          have hr := (dec7_one H.out.byts f1).1 t ht
          have := hr.2.1
          omega)
        have KF : Hid _ := hp.rdg.kept
        have hll : ((l.length : Int) == (ld.length : Int)) = true := by rw [hlen2]; simp
        have hnn : ((n : Int) == (n : Int)) = true := by simp
        rw [← eI]
        clear hp he hfin f1 f2 f3 hls hlsr td td2 tl2 hsn hdr hct hld P0 RS hi hi2 eI hlen2
        go_wp2_with fail
        refine Calls.mono HFN.out ?_
        rintro x w5 ⟨rfl, rfl⟩
        go_wp2_with fail
        refine Calls.mono HOF.out ?_
        rintro x w6 ⟨rfl, rfl⟩
        go_wp2_with fail
        refine Calls.mono HCN.out ?_
        rintro x w7 ⟨rfl, rfl⟩
        go_wp2_with fail
        refine Calls.mono HSL.out ?_
        rintro x w8 ⟨rfl, k8⟩
        have K8 : Hid _ := KF.out.trans' k8
        clear k8
        go_wp2_with fail
        go_ret
        exact ⟨rfl, K8.out⟩
end Go.Proofs.Ythnhfahkanpjjaa
