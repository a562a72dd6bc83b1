/- What is proved: committed gives the version that a transaction with a start sees, whatever the machine's flaw; the machine lies in memory. -/
import Derived.Test.YtmghmacgljihcaaKOvr
namespace Go.Proofs.Ytmghmacgljihcaa
open Go.RowKit

theorem results_c {fn : Func} {a t : Nat} {P : Program} {w : World} {tmps : Array Value} {ad : Addr} {v : Value} (h : fn.results = #[.cell a t]) (ha : tmps.getD a undef = .pointer (some ad)) (hv : (loadVar t ad).run P w = .ok v w) : (results fn tmps).run P w = .ok v w := by
  have ha' : tmps[a]?.getD undef = .pointer (some ad) := by simpa using ha
  simp [results, h, ha', asAddr, hv]
theorem at_f {F : Nat → Prop} {w : World} {sb : Nat} {A : List En} (h : St F w sb A) (k : ByteArray) (hk : k.size ≤ maxLen) (t : Int) (hn : A.length ≤ 65536) {x : Vn} {b : Bool} (hx : (atM (ch A k) t).getD v0 = x) (hb : (atM (ch A k) t).isSome = b) :
    Calls Try.prog 24 #[.pointer (some ⟨sb, 0, none⟩), .string k, .int .i64 t] w fun e w' => e = .returned (.tuple #[.agg #[.int .i64 x.c, .int .i64 x.w, .bool x.f, .string x.v], .bool b]) ∧ Kept w w' := by
  subst hx hb
  exact at13 h k hk t (by omega)
theorem at_c {M : Mm} (h : Inv M) (hg : Good M.A) {k : ByteArray} {t : Int} {x : Vn} (hx : atM (ch M.A k) t = some x) : 0 ≤ x.c ∧ x.c ≤ M.clock := by
  obtain ⟨hm, -⟩ := (hg k).at_mem hx
  obtain ⟨e, he, -, rfl⟩ := mem_ch.1 hm
  exact h.av e he
theorem comM_none {fl c : Int} {A : List En} {k : ByteArray} {s : Int} (h : atM (ch A k) (if fl = 2 then c else s) = none) : comM fl c A k s = v0 := by unfold comM; rw [h]
theorem comM_some {fl c : Int} {A : List En} {k : ByteArray} {s : Int} {x : Vn} (h : atM (ch A k) (if fl = 2 then c else s) = some x) (h3 : ¬ fl = 3) : comM fl c A k s = x := by unfold comM; rw [h]; simp only; rw [if_neg h3]
theorem comM_stale {fl c : Int} {A : List En} {k : ByteArray} {s : Int} {x : Vn} (h : atM (ch A k) (if fl = 2 then c else s) = some x) (h3 : fl = 3) : comM fl c A k s = (atM (ch A k) (x.c - 1)).getD v0 := by unfold comM; rw [h]; simp only; rw [if_pos h3]
/-- A call of At, as one step of a region that draws its order. -/
theorem step_at {ops : Array Oper} {o : Oper} {a : Act} {w : World} {K : Act → World → Prop} {Q : Exit → Act → World → Prop} {E : Prop} (hg : o.guard = none) (x y z : Operand) (ts : Array TypeId) (ho : o.op = .call { callee := .value (.func 24), args := #[x, y, z], argTypes := ts }) (vx vy vz : Value) (hx : a.eval x = vx) (hy : a.eval y = vy) (hz : a.eval z = vz) (R : Value → World → Prop)
    (hC : Calls Try.prog 24 #[vx, vy, vz] w fun e w' => ∃ u, e = .returned u ∧ R u w') (h : ∀ u w', R u w' → K (a.put o.dst u) w') : if Region.wanted o (yielded ops a.tmps) = true then Oper.wp Try.prog o a w K Q else E := by
  have hw : Region.wanted o (yielded ops a.tmps) = true := by simp [Region.wanted, hg]
  rw [if_pos hw]
  unfold Oper.wp
  simp only [execOp, ho, resolve, invoke, Sem.run_bind, List.map_toArray, List.map_cons, List.map_nil, hx, hy, hz]
  go_simp
  refine Calls.mono hC ?_
  rintro e w' ⟨u, rfl, hR⟩
  exact h u w' hR
theorem box_load {w1 : World} {g : Nat} {p q r s : Value} (h : w1.heap[g]? = some (.cells #[p, q, r, s] 75 (0, 0))) (x : Vn) (o : Obj) :
    (loadVar 75 ⟨g, 0, none⟩).run Try.prog (((((w1.setCell ⟨g, 0, none⟩ (.int .i64 x.c)).setCell ⟨g, 1, none⟩ (.int .i64 x.w)).setCell ⟨g, 2, none⟩ (.bool x.f)).setCell ⟨g, 3, none⟩ (.string x.v)).alloc o) = .ok (verV x) (((((w1.setCell ⟨g, 0, none⟩ (.int .i64 x.c)).setCell ⟨g, 1, none⟩ (.int .i64 x.w)).setCell ⟨g, 2, none⟩ (.bool x.f)).setCell ⟨g, 3, none⟩ (.string x.v)).alloc o) := by
  have h4 := put4 h (.int .i64 x.c) (.int .i64 x.w) (.bool x.f) (.string x.v)
  exact loadVar_ver ((heap_old _ o (lt_of_heap h4)).trans h4)
set_option maxRecDepth 100000 in
set_option maxHeartbeats 1600000 in
theorem committed15 {tg : Nat → Tg} {w : World} {mb sb vb : Nat} {lv : Value} {P : Nat → Option Nat} {L : List (TxM × Value)} {M : Mm} (h : Mi tg w mb sb vb lv P L M) (hi : Inv M) (k : ByteArray) (hk : k.size ≤ maxLen) (s : Int) (hA : M.A.length ≤ 65536) {X : Vn} (eX : X = comM M.flaw M.clock M.A k s) :
    Calls Try.prog 55 #[.pointer (some ⟨mb, 0, none⟩), .string k, .int .i64 s] w fun e w' => e = .returned (.agg #[.int .i64 X.c, .int .i64 X.w, .bool X.f, .string X.v]) ∧ Kept w w' := by
  have hg := h.st.good
  have HAT : Hid (∀ W, Kept w W → ∀ t x b, (atM (ch M.A k) t).getD v0 = x → (atM (ch M.A k) t).isSome = b → Calls Try.prog 24 #[.pointer (some ⟨vb, 0, none⟩), .string k, .int .i64 t] W fun e w' => e = .returned (.tuple #[.agg #[.int .i64 x.c, .int .i64 x.w, .bool x.f, .string x.v], .bool b]) ∧ Kept W w') := fun W k' t x b hx hb => at_f (h.on k').st k hk t hA hx hb
  have HCL : Hid (∀ W, Kept w W → mb < W.heap.size ∧ W.cell? ⟨mb, 0, none⟩ = some (.int .i64 M.flaw) ∧ W.cell? ⟨mb, 1, none⟩ = some (.int .i64 M.clock) ∧ W.cell? ⟨mb, 4, none⟩ = some (.pointer (some ⟨vb, 0, none⟩))) := fun W k' => by
    obtain ⟨h1, ⟨c0, c1, -, -, c4, -⟩, -⟩ := Mi.cells (h.on k')
    exact ⟨h1, c0, c1, c4⟩
  have HC : Hid (∀ {t x}, atM (ch M.A k) t = some x → 0 ≤ x.c ∧ x.c ≤ 1099511627776) := fun hx => by
    have h1 := at_c hi hg hx
    have h2 := hi.c1
    exact ⟨h1.1, by omega⟩
  clear h hg
  have EX : Hid (X = comM M.flaw M.clock M.A k s) := eX
  clear eX
  have HB6 : Hid _ := heap_new w (.cells #[.int .i64 0, .int .i64 0, .bool false, .string ⟨#[]⟩] 75 (0, 0))
  have K0 : Hid (Kept w (w.alloc (.cells #[.int .i64 0, .int .i64 0, .bool false, .string ⟨#[]⟩] 75 (0, 0)))) := (Same.refl _ _).alloc _
  obtain ⟨T, eT⟩ : ∃ T, T = if M.flaw = 2 then M.clock else s := ⟨_, rfl⟩
  have ET : Hid (T = if M.flaw = 2 then M.clock else s) := eT
  have hf : (M.flaw == 2) = true ∧ T = M.clock ∨ (M.flaw == 2) = false ∧ T = s := by
    by_cases h2 : M.flaw = 2
    · exact .inl ⟨by simpa using h2, by rw [eT, if_pos h2]⟩
    · exact .inr ⟨by simpa using h2, by rw [eT, if_neg h2]⟩
  clear eT
  generalize hfl : M.flaw = fl at *
  have HFL : Hid (M.flaw = fl) := hfl
  clear hfl
  generalize hcl : M.clock = cl at *
  have HCK : Hid (M.clock = cl) := hcl
  clear hcl hi
  go_enter Try.func55, Try.ntmps55
  go_upto_region 1 with fail
  generalize w.alloc (.cells #[.int .i64 0, .int .i64 0, .bool false, .string ⟨#[]⟩] 75 (0, 0)) = W at *
  generalize hw : w.heap.size = g6 at *
  have HWS : Hid (w.heap.size = g6) := hw
  clear hw
  obtain ⟨hmb, c0, c1, c4⟩ := HCL.out W K0.out
  have hgl := lt_of_heap HB6.out
  have HG6 : Hid (∀ W', Kept W W' → (W'.cell? ⟨g6, 0, none⟩ = some (.int .i64 0) ∧ W'.cell? ⟨g6, 1, none⟩ = some (.int .i64 0) ∧ W'.cell? ⟨g6, 2, none⟩ = some (.bool false) ∧ W'.cell? ⟨g6, 3, none⟩ = some (.string ⟨#[]⟩)) ∧ W'.frozen? ⟨g6, 0, none⟩ = false ∧ W'.frozen? ⟨g6, 1, none⟩ = false ∧ W'.frozen? ⟨g6, 2, none⟩ = false ∧ W'.frozen? ⟨g6, 3, none⟩ = false ∧ W'.heap[g6]? = some (.cells #[.int .i64 0, .int .i64 0, .bool false, .string ⟨#[]⟩] 75 (0, 0))) := fun W' k' => by
    have h1 : W'.heap[g6]? = _ := (k'.block g6 hgl (fun e => e)).trans HB6.out
    obtain ⟨h2, h3, h4, h5, h6⟩ := ver_obj h1
    exact ⟨h2, h3, h4, h5, h6, h1⟩
  have hwg : w.heap.size ≤ g6 := Nat.le_of_eq HWS.out
  cases e : atM (ch M.A k) T with
  | none =>
    have HA1 : Hid _ := HAT.out W K0.out T v0 false (by rw [e]; rfl) (by rw [e]; rfl)
    have EQ : Hid (X = v0) := (show X = _ from EX.out).trans (comM_none (by rw [← ET.out]; exact e))
    have CONT : Hid (∀ w1, Kept W w1 → (w1.cell? ⟨g6, 0, none⟩ = some (.int .i64 0) ∧ w1.cell? ⟨g6, 1, none⟩ = some (.int .i64 0))) := fun w1 k1 => ⟨(HG6.out w1 k1).1.1, (HG6.out w1 k1).1.2.1⟩
    clear e ET CONT
    rcases hf with ⟨f1, rfl⟩ | ⟨f1, rfl⟩
    all_goals
      go_wp2_with fail
      refine Calls.mono HA1.out ?_
      rintro r w1 ⟨rfl, k1⟩
      have K1 : Hid (Kept W w1) := k1
      obtain ⟨⟨z0, z1, z2, z3⟩, q0, q1, q2, q3, hg6⟩ := HG6.out w1 k1
      have H6 : Hid _ := hg6
      clear k1 hg6
      have hl6 : g6 < w1.heap.size := lt_of_heap H6.out
      go_wp2_with fail
      refine bodyPost_ret (results_c (a := 6) (t := 75) rfl rfl (box_load H6.out v0 _)) rfl ?_
      exact ⟨by rw [show X = _ from EQ.out], (put4_same (Same.trans' K0.out K1.out) (.inl hwg) _ _ _ _).alloc _⟩
  | some x =>
    have HA1 : Hid _ := HAT.out W K0.out T x true (by rw [e]; rfl) (by rw [e]; rfl)
    have HXC : Hid _ := HC.out e
    by_cases h3 : fl = 3
    · have EQ : Hid (X = (atM (ch M.A k) (x.c - 1)).getD v0) := (show X = _ from EX.out).trans (comM_stale (by rw [← ET.out]; exact e) h3)
      have g2 : (fl == 3) = true := by simpa using h3
      obtain ⟨b2, eb2⟩ : ∃ b2, (atM (ch M.A k) (x.c - 1)).isSome = b2 := ⟨_, rfl⟩
      have HA2 : Hid (∀ W, Kept w W → _) := fun W k' => HAT.out W k' (x.c - 1) X b2 (show X = _ from EQ.out).symm eb2
      have hxc := HXC.out
      have hxc2 : IntKind.i64.wrap (x.c - 1) = x.c - 1 := by rw [IntKind.wrap_i64] <;> omega
      have hxc1 : -9223372036854775808 ≤ x.c - 1 ∧ x.c - 1 ≤ 9223372036854775807 := by omega
      clear e ET EQ eb2 h3 EX
      rcases hf with ⟨f1, rfl⟩ | ⟨f1, rfl⟩
      all_goals
        go_wp2_with fail
        refine Calls.mono HA1.out ?_
        rintro r w1 ⟨rfl, k1⟩
        have K1 : Hid (Kept W w1) := k1
        have HG7 : Hid _ := heap_new w1 (.cells #[.int .i64 x.c, .int .i64 x.w, .bool x.f, .string x.v] 75 (0, 0))
        have K7 : Hid (Kept W (w1.alloc (.cells #[.int .i64 x.c, .int .i64 x.w, .bool x.f, .string x.v] 75 (0, 0)))) := Same.alloc k1 _
        have h7 : w.heap.size ≤ w1.heap.size := Same.size (Same.trans' K0.out k1)
        obtain ⟨h8, c40, -⟩ := HCL.out w1 (Same.trans' K0.out k1)
        clear k1
        go_upto_region 5 with fail
        generalize w1.alloc (.cells #[.int .i64 x.c, .int .i64 x.w, .bool x.f, .string x.v] 75 (0, 0)) = W2 at *
        have hne : g6 ≠ w1.heap.size := by have := Same.size K1.out; omega
        generalize w1.heap.size = g7 at *
        obtain ⟨h9, d0, d1, d4⟩ := HCL.out W2 (Same.trans' K0.out K7.out)
        obtain ⟨⟨y0, y1, y2, y3⟩, q0, q1, q2, q3⟩ := ver_obj HG7.out
        have HA3 : Hid (∀ W', Kept W2 W' → Calls Try.prog 24 #[.pointer (some ⟨vb, 0, none⟩), .string k, .int .i64 (x.c - 1)] W' fun e w' => ∃ u, e = .returned u ∧ (u = .tuple #[.agg #[.int .i64 X.c, .int .i64 X.w, .bool X.f, .string X.v], .bool b2] ∧ Kept W' w')) := fun W' k' =>
          Calls.mono (HA2.out W' (Same.trans' K0.out (Same.trans' K7.out k'))) fun e w' h => ⟨_, h.1, rfl, h.2⟩
        go_cut [36] (fun s36 wx => wx.heap[g7]? = some (.cells #[.int .i64 X.c, .int .i64 X.w, .bool X.f, .string X.v] 75 (0, 0)) ∧ Same (fun b => b = g7) W2 wx)
        case first =>
          go_region_law (refine step_at rfl (.tmp 40) (.tmp 41) (.tmp 44) #[59, 9, 3] rfl _ _ (.int .i64 (x.c - 1)) rfl rfl (by simp [Act.eval, Act.put]) _ (HA3.out _ (by (repeat (first | exact Same.refl _ _ | apply Same.drew | apply Same.drewN)); done)) ?_; rintro u w4 ⟨rfl, k4⟩; have K9 : Hid (Kept W2 w4) := (by refine Same.trans' ?_ k4; (repeat (first | exact Same.refl _ _ | apply Same.drew | apply Same.drewN)); done); have HG8 : Hid (w4.heap[g7]? = _) := ((Same.block K9.out g7 (lt_of_heap HG7.out) (fun e => e)).trans HG7.out); obtain ⟨⟨v0', v1', v2', v3'⟩, t0', t1', t2', t3'⟩ := ver_obj HG8.out; clear k4)
          all_goals
            go_wp2_with fail
            go_meet
            exact ⟨put4 HG8.out _ _ _ _, put4_same (g := g7) (Kept.to K9.out (fun b => b = g7)) (.inr rfl) _ _ _ _⟩
        case rest =>
          obtain ⟨hx7, hs7⟩ := hcut
          rename World => Z
          have HX7 : Hid _ := hx7
          have HS7 : Hid (Same (fun b => b = g7) W2 Z) := hs7
          obtain ⟨⟨v0', v1', v2', v3'⟩, -⟩ := ver_obj hx7
          have H6 : Hid (Z.heap[g6]? = _) := (hs7.block g6 (Nat.lt_of_lt_of_le hgl (Same.size K7.out)) hne).trans (HG6.out W2 K7.out).2.2.2.2.2
          obtain ⟨⟨s0, s1, s2, s3⟩, r0, r1, r2, r3⟩ := ver_obj H6.out
          have hl7 := lt_of_heap hx7
          have hl6 := lt_of_heap H6.out
          clear hx7 hs7 y0 y1 y2 y3 q0 q1 q2 q3 HG7
          go_wp2_with fail
          refine bodyPost_ret (results_c (a := 6) (t := 75) rfl rfl (loadVar_ver (x := X) (put4 H6.out _ _ _ _))) rfl ?_
          exact ⟨rfl, put4_same ((Same.trans (Same.trans' K0.out K7.out) HS7.out (fun b hb e => by subst e; omega))) (.inl hwg) _ _ _ _⟩
    · have EQ : Hid (X = x) := (show X = _ from EX.out).trans (comM_some (by rw [← ET.out]; exact e) h3)
      have g2 : (fl == 3) = false := by simpa using h3
      clear e ET h3
      rcases hf with ⟨f1, rfl⟩ | ⟨f1, rfl⟩
      all_goals
        go_wp2_with fail
        refine Calls.mono HA1.out ?_
        rintro r w1 ⟨rfl, k1⟩
        have K1 : Hid (Kept W w1) := k1
        obtain ⟨⟨z0, z1, z2, z3⟩, q0, q1, q2, q3, hg6⟩ := HG6.out w1 k1
        have H6 : Hid _ := hg6
        obtain ⟨h8, c40, -⟩ := HCL.out w1 (Same.trans' K0.out k1)
        clear k1 hg6
        have hl6 : g6 < w1.heap.size := lt_of_heap H6.out
        go_wp2_with fail
        refine bodyPost_ret (results_c (a := 6) (t := 75) rfl rfl (box_load H6.out x _)) rfl ?_
        exact ⟨by rw [show X = _ from EQ.out], (put4_same (Same.trans' K0.out K1.out) (.inl hwg) _ _ _ _).alloc _⟩
end Go.Proofs.Ytmghmacgljihcaa
