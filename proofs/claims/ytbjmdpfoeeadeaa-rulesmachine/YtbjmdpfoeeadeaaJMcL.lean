/- What is proved: the law RulesMachine answers true and leaves all that was there as it was; the script fits a machine's memory. -/
import Derived.Test.YtbjmdpfoeeadeaaJMcP
import Derived.Test.YtbjmdpfoeeadeaaMEm
import Derived.Test.YtbjmdpfoeeadeaaJWks
import Derived.Test.YtbjmdpfoeeadeaaRCopy
namespace Go.Proofs.Ytbjmdpfoeeadeaa.Sw
open Go.RowKit

theorem cv_opc (l : List Ch.Mc.OpM) : Ch.Mc.opc l = opc (l.map cvO) := by
  induction l with
  | nil => rfl
  | cons o r ih =>
    simp only [Ch.Mc.opc, opc, List.flatMap_cons, List.map_cons] at ih ⊢
    rw [ih]
    rfl
theorem cv_one {w : World} {t : Ch.Mc.TxM} {v : Value} (h : Ch.Mc.OwnO 0 w v t.ops) (hn : t.ops.length ≤ 16) : ∃ a c, v = .slice a (cvT t).ops.length c ∧ ArgT w (cvT t) a c := by
  have h1 : OwnO 0 w v (cvT t).ops := by
    have h2 := h
    unfold Ch.Mc.OwnO at h2
    rw [cv_opc] at h2
    have e : t.ops.length = (cvT t).ops.length := by simp [cvT]
    rw [e] at h2
    exact h2
  obtain ⟨a, c, ev, ho, -⟩ := OwnO.ops h1
  obtain ⟨a', c', ev', -, hnil, -⟩ := row_shape h1
  rw [ev] at ev'
  cases ev'
  refine ⟨a, c, ev, ho, hnil, ?_⟩
  have e : (cvT t).ops.length = t.ops.length := by simp [cvT]
  rw [e]
  unfold reachBytes
  omega
theorem cv_list {w : World} : ∀ {LL : List (Ch.Mc.TxM × Value)}, (∀ x ∈ LL, Ch.Mc.OwnO 0 w x.2 x.1.ops) → (∀ x ∈ LL, x.1.ops.length ≤ 16) → ∃ L : List TxR, L.map TxR.t = (LL.map (·.1)).map cvT ∧ txc L = Ch.Mc.txc LL ∧ ∀ r ∈ L, ArgT w r.t r.a r.c := by
  intro LL
  induction LL with
  | nil => exact fun _ _ => ⟨[], rfl, rfl, fun r h => by cases h⟩
  | cons x LL ih =>
    intro h1 h2
    obtain ⟨L, e1, e2, e3⟩ := ih (fun y hy => h1 y (List.mem_cons_of_mem _ hy)) (fun y hy => h2 y (List.mem_cons_of_mem _ hy))
    obtain ⟨a, c, ev, ha⟩ := cv_one (h1 x List.mem_cons_self) (h2 x List.mem_cons_self)
    refine ⟨⟨cvT x.1, a, c⟩ :: L, ?_, ?_, fun r hr => ?_⟩
    · simp only [List.map_cons, e1]
    · rw [txc_cons, e2]
      simp only [Ch.Mc.txc, List.flatMap_cons, TxR.cells, ev]
      rfl
    · rcases List.mem_cons.1 hr with rfl | hr
      · exact ha
      · exact e3 r hr
theorem txs_cells {w : World} {b off : Nat} {l : List TxR} (h : TxsAt w (some ⟨b, off, none⟩) l) : ∀ j u, (txc l)[j]? = some u → w.cell? ((Addr.mk b off none).add j) = some u := fun j u hu => by
  have hj := (List.getElem?_eq_some_iff.1 hu).1
  rw [length_txc] at hj
  obtain ⟨r, hr⟩ : ∃ r, l[j / 8]? = some r := ⟨_, List.getElem?_eq_getElem (by omega)⟩
  obtain ⟨b', off', e, -, hc⟩ := h _ _ hr
  cases e
  have e8 := txc_get hr (j := j % 8) (by omega)
  rw [show j / 8 * 8 + j % 8 = j by omega, hu] at e8
  rw [add_at, e8, ← hc (j % 8) (by omega)]
  congr 2
  omega
/-- Transactions more behind a list of one's own. -/
theorem app_txs {w : World} {base : Nat} {v : Value} {xs l : List TxR} {b off c : Nat} (hown : OwnT base w v xs) (hl : TxsAt w (some ⟨b, off, none⟩) l) (hb : xs.length + l.length ≤ 8192) (hbase : base ≤ w.heap.size) (ty : TypeId) :
    ∃ v' w', (Builtin.append_ #[59, 59] ty #[v, .slice (some ⟨b, off, none⟩) l.length c]).run Try.prog w = .ok v' w' ∧ OwnT base w' v' (xs ++ l) ∧ Same (fun k => v.ownBlock = some k) w w' := by
  obtain ⟨v', w', hr, r1, r2, -, -⟩ := Ch.app_wide (P := Try.prog) (t := 59) (ty := ty) (c := c) (m := l.length) (a := ⟨b, off, none⟩) (news := txc l) Try.underlying59 Ch.Mc.Try.infoTxn rfl (by decide) hown (length_txc l) (txs_cells hl) (txc_one _) (by unfold maxLen; omega) (by omega) hbase
  rw [← txc_append] at r1
  exact ⟨v', w', hr, by unfold OwnT; rw [List.length_append]; exact r1, r2⟩
theorem txs_drop {w : World} {b : Nat} {l : List TxR} (h : TxsAt w (some ⟨b, 0, none⟩) l) (t : Nat) : TxsAt w (some ⟨b, t * 8, none⟩) (l.drop t) := fun i r hr => by
  rw [List.getElem?_drop] at hr
  obtain ⟨b', off', e, hb, hc⟩ := h _ _ hr
  cases e
  refine ⟨b, t * 8, rfl, hb, fun j hj => ?_⟩
  rw [← hc j hj]
  congr 2
  omega
theorem txs_take {w : World} {a : Option Addr} {l : List TxR} (h : TxsAt w a l) (t : Nat) : TxsAt w a (l.take t) := fun i r hr => by
  have hi := (List.getElem?_eq_some_iff.1 hr).1
  rw [List.length_take] at hi
  rw [List.getElem?_take_of_lt (by omega)] at hr
  exact h i r hr
theorem lit_txs (w : World) : OwnT w.heap.size (w.alloc (.cells #[] 24 (0, 0))) (.slice (some ⟨w.heap.size, 0, none⟩) 0 0) [] :=
  ⟨rfl, .inr ⟨w.heap.size, 0, #[], rfl, Nat.le_refl _, heap_new _ _, Nat.le_refl _, Nat.zero_le _, rfl, rfl⟩⟩
set_option maxRecDepth 100000 in
set_option maxHeartbeats 6400000 in
theorem machine_law (ns fl turn : Int) (l : List Ch.Mc.Stp) (a : Option Addr) (c : Nat) (w : World) (h : Ch.Mc.StepsAt w a l ∧ Ch.Mc.SmallS l ∧ l.length ≤ 2513169434918) (ht1 : turn ≤ 9223372036854775807) :
    Calls Try.prog 8 #[.int .i64 ns, .int .i64 fl, .slice a l.length c, .int .i64 turn] w fun e w' => e = .returned (.bool true) ∧ Kept w w' := by
  have HA : Hid (∀ W, _) := fun W => anchor17 W
  by_cases hbad : (ns < 1 ∨ 64 < ns) ∨ (fl < 0 ∨ 4 < fl)
  · have HE : Hid (∀ W, _) := fun W => Ch.Mc.remitB W ns fl hbad a l.length c
    obtain ⟨cd, ecd⟩ : ∃ cd : Int, cd = if ns < 1 ∨ 64 < ns then 150 else 158 := ⟨_, rfl⟩
    have hcd : (cd != 0) = true := by rw [ecd]; split <;> rfl
    rw [← ecd] at HE
    clear ecd h hbad
    go_enter Try.func8, Try.ntmps8
    go_wp2_with fail
    refine Calls.mono (HA.out _) ?_
    rintro e W1 ⟨rfl, k1⟩
    have K1 : Hid (Kept w W1) := k1
    clear k1
    go_wp2_with fail
    refine Calls.mono (HE.out _) ?_
    rintro e W2 ⟨rfl, ew⟩
    subst W2
    go_wp2_with fail
    go_ret
    exact ⟨rfl, K1.out⟩
  obtain ⟨N, eN⟩ : ∃ N : Nat, (N : Int) = ns := ⟨ns.toNat, by omega⟩
  have HE : Hid (∀ W, Kept w W → _) := fun W k => Ch.Mc.remit15 (cap := c) (h.1.on k) h.2.1 (by have := h.2.2; omega) N fl (by omega) (by omega) (by omega) (by omega)
  have HM : Hid (Emd ((Ch.Mc.emM N fl l).log.map cvT)) := emd_log fl l (by omega) (by omega)
  have HLN : Hid ((Ch.Mc.emM N fl l).log.length ≤ 4096) := (Ch.Mc.em_log fl l (by omega) (by omega)).2.2
  have HRT : Hid (∀ t ∈ (Ch.Mc.emM N fl l).log, t.ops.length ≤ 16) := fun t ht => (Ch.Mc.em_right fl l (by omega) (by omega) t ht).n
  generalize (Ch.Mc.emM N fl l).log = G at *
  obtain ⟨n, en⟩ : ∃ n, n = G.length := ⟨_, rfl⟩
  have EN : Hid (n = G.length) := en
  rw [← en] at HE HLN
  subst eN
  clear h hbad en
  go_enter Try.func8, Try.ntmps8
  go_wp2_with fail
  refine Calls.mono (HA.out _) ?_
  rintro e W1 ⟨rfl, k1⟩
  have K1 : Hid (Kept w W1) := k1
  clear k1
  go_wp2_with fail
  refine Calls.mono (HE.out _ K1.out) ?_
  rintro e W2 ⟨a2, c2, LL, rfl, o2, l2, p2, k2⟩
  have K2 : Hid (Kept w W2) := K1.out.trans' k2
  obtain ⟨L, eL, eX, aL⟩ := cv_list p2 (fun x hx => HRT.out x.1 (by rw [← l2]; exact List.mem_map_of_mem hx))
  rw [l2] at eL
  have hLL : L.length = n := by
    have h9 := congrArg List.length eL
    rw [List.length_map, List.length_map] at h9
    rw [h9]
    exact EN.out.symm
  have O2 : Hid (OwnT 0 W2 (.slice a2 n c2) L) := by
    have h9 : W2.ownsRow 0 24 8 (.slice a2 n c2) LL.length (Ch.Mc.txc LL) := o2
    have h8 : LL.length = L.length := by
      have h7 := congrArg List.length l2
      rw [List.length_map] at h7
      rw [h7, hLL]
      exact EN.out.symm
    rw [h8, ← eX] at h9
    exact h9
  have AL : Hid (∀ r ∈ L, ArgT W2 r.t r.a r.c) := aL
  have HLL : Hid (L.length = n) := hLL
  have EM : Hid (Emd (L.map TxR.t)) := by show Emd (L.map TxR.t); rw [eL]; exact HM.out
  clear o2 l2 p2 k2 eL eX aL hLL HM HRT EN HE
  by_cases hz : n = 0
  · have dz : ((n : Int) == 0) = true := by simp [hz]
    go_wp2_with fail
    go_ret
    exact ⟨rfl, K2.out⟩
  have dz : ((n : Int) == 0) = false := by rw [beq_eq_false_iff_ne]; omega
  have dz2 : ¬ (n : Int) = 0 := by omega
  go_upto_if 34 with fail
  go_cut [3] (fun s3 wx => ∃ tt : Int, s3 = .int .i64 tt ∧ 0 ≤ tt ∧ tt ≤ 9223372036854775807 ∧ wx = W2)
  case first =>
    by_cases h0 : turn < 0
    · have d0 : decide (turn < 0) = true := decide_eq_true h0
      go_wp2_with fail
      go_meet
      exact ⟨0, rfl, by omega, by omega, rfl⟩
    · have d0 : decide (turn < 0) = false := decide_eq_false h0
      go_wp2_with fail
      go_meet
      exact ⟨turn, rfl, by omega, ht1, rfl⟩
  case rest =>
    obtain ⟨tt, rfl, ht0, ht9, ew⟩ := hcut
    subst wc
    obtain ⟨t, et⟩ : ∃ t : Nat, tt.tmod (n : Int) = (t : Int) := ⟨(tt.tmod (n : Int)).toNat, by
      have := Int.tmod_nonneg (n : Int) ht0
      omega⟩
    have HTN : Hid (t < n) := by
      have h1 := Int.tmod_lt_of_pos tt (show (0 : Int) < (n : Int) by omega)
      show t < n
      omega
    have htn : (t : Int) ≤ (n : Int) := by have := HTN.out; omega
    have htn2 : t ≤ n := by omega
    have hwt : IntKind.i64.wrap (t : Int) = (t : Int) := by have h1 := HTN.out; have h2 := HLN.out; rw [IntKind.wrap_i64] <;> omega
    obtain ⟨b, eb, hcn⟩ : ∃ b, a2 = some ⟨b, 0, none⟩ ∧ n ≤ c2 := by
      obtain ⟨a', c', ev, h1, h2, h3⟩ := row_shape O2.out
      cases ev
      cases a2 with
      | none => exact absurd (h2 rfl).1 (by rw [HLL.out]; exact hz)
      | some ad =>
        obtain ⟨g, e, -⟩ := h3 ad rfl
        exact ⟨g, by rw [e], by rw [← HLL.out]; exact h1⟩
    subst eb
    have hct : ¬ c2 = t := by have := HTN.out; omega
    have htc : (t : Int) ≤ (c2 : Int) := by omega
    have htc2 : t ≤ c2 := by omega
    obtain ⟨q, hq⟩ : ∃ q, n - t = q := ⟨_, rfl⟩
    obtain ⟨cq, hcq⟩ : ∃ cq, c2 - t = cq := ⟨_, rfl⟩
    have hs1 : ∀ W, (Instr.sliceAt 59 (.slice (some ⟨b, 0, none⟩) n c2) (some (.int .i64 (t : Int))) none none).run Try.prog W = .ok (.slice (some ⟨b, t * 8, none⟩) q cq) W := fun W => by
      rw [← hq, ← hcq]
      go_simp
    have hs2 : ∀ W, (Instr.sliceAt 59 (.slice (some ⟨b, 0, none⟩) n c2) none (some (.int .i64 (t : Int))) none).run Try.prog W = .ok (.slice (some ⟨b, 0, none⟩) t c2) W := fun W => by
      go_simp
    have hLd : (L.drop t).length = q := by rw [List.length_drop, HLL.out, hq]
    have hLt : (L.take t).length = t := by rw [List.length_take, HLL.out]; omega
    obtain ⟨L2, eL2⟩ : ∃ L2, L2 = L.drop t ++ L.take t := ⟨_, rfl⟩
    have hL2n : L2.length = n := by rw [eL2, List.length_append, hLd, hLt]; omega
    have TX2 : TxsAt W2 (some ⟨b, 0, none⟩) L := by
      obtain ⟨a', c', ev, h1, -⟩ := OwnT.txs O2.out
      cases ev
      exact h1
    have HAP1 : Hid (∀ W, Kept W2 W → ∀ ty, ∃ v' w', (Builtin.append_ #[59, 59] ty #[.slice (some ⟨W.heap.size, 0, none⟩) 0 0, .slice (some ⟨b, t * 8, none⟩) q cq]).run Try.prog (W.alloc (.cells #[] 24 (0, 0))) = .ok v' w' ∧ (∃ a m c, v' = .slice a m c) ∧ OwnT W2.heap.size w' v' (L.drop t) ∧ Kept W2 w') := fun W k ty => by
      have k2 : Kept W2 (W.alloc (.cells #[] 24 (0, 0))) := k.alloc _
      obtain ⟨v', w', r1, r2, r3⟩ := app_txs (c := cq) (lit_txs W) (txs_drop (TX2.on k2) t) (by rw [hLd]; have h1 := HLN.out; simp only [List.length_nil]; omega) (by rw [World.size_alloc]; omega) ty
      rw [hLd] at r1
      obtain ⟨a', c', ev, -⟩ := row_shape r2
      refine ⟨v', w', r1, ⟨_, _, _, ev⟩, row_base r2 k.size, k2.trans r3 (fun k' hk e => ?_)⟩
      simp only [Value.ownBlock, Option.some.injEq] at e
      have := k.size
      omega
    have HAP2 : Hid (∀ W v, OwnT W2.heap.size W v (L.drop t) → Kept W2 W → ∀ ty, ∃ v' w', (Builtin.append_ #[59, 59] ty #[v, .slice (some ⟨b, 0, none⟩) t c2]).run Try.prog W = .ok v' w' ∧ (∃ a c, v' = .slice a n c) ∧ OwnT W2.heap.size w' v' L2 ∧ Kept W2 w') := fun W v ho k ty => by
      obtain ⟨v', w', r1, r2, r3⟩ := app_txs (c := c2) ho (txs_take (TX2.on k) t) (by rw [hLd, hLt]; have h1 := HLN.out; omega) k.size ty
      rw [hLt] at r1
      rw [← eL2] at r2
      obtain ⟨a', c', ev, -⟩ := row_shape r2
      rw [hL2n] at ev
      refine ⟨v', w', r1, ⟨_, _, ev⟩, r2, k.trans r3 (fun k' hk e => ?_)⟩
      have := (row_block ho e).1
      omega
    have EL2 : Hid (L2 = L.drop t ++ L.take t) := eL2
    have HL2 : Hid (L2.length = n) := hL2n
    clear hLd hLt eL2 hL2n TX2 hct hq hcq
    go_upto_region 9 with fail
    clear dz dz2 et ht0 ht9 htn htn2 hwt htc htc2 hcn
    go_cut [9] (fun s9 wx => ∃ a3 c3, s9 = .slice a3 n c3 ∧ OwnT W2.heap.size wx (.slice a3 n c3) L2 ∧ Kept W2 wx)
    case first =>
      refine wp_region_held_drew (S := fun _ => True) (by kernel_rfl) trivial (fun hHeld => ?_)
      (try simp only [Act.put, List.getElem_toArray, List.getElem_cons_succ, List.getElem_cons_zero, List.setIfInBounds_toArray, List.set_cons_zero, List.set_cons_succ])
      refine wpAnyH_take (i := 1) (v := (.slice (some ⟨b, 0, none⟩) n c2)) rfl (by kernel_rfl) (by kernel_rfl) (by kernel_rfl) (fun _ _ _ h => h) (Or.inl ⟨by rfl, fun w hSw => by (dsimp only at hSw; go_simp)⟩) (by assumption) ?_
      (try simp only [Act.put, List.getElem_toArray, List.getElem_cons_succ, List.getElem_cons_zero, List.setIfInBounds_toArray, List.set_cons_zero, List.set_cons_succ])
      refine wpAnyH_take (i := 2) (v := (.int .i64 (t : Int))) rfl (by kernel_rfl) (by kernel_rfl) (by kernel_rfl) (fun _ _ _ h => h) (Or.inl ⟨by rfl, fun w hSw => by (dsimp only at hSw; go_simp)⟩) (by assumption) ?_
      (try simp only [Act.put, List.getElem_toArray, List.getElem_cons_succ, List.getElem_cons_zero, List.setIfInBounds_toArray, List.set_cons_zero, List.set_cons_succ])
      refine wpAnyH_take (i := 3) (v := (.slice (some ⟨b, t * 8, none⟩) q cq)) rfl (by kernel_rfl) (by kernel_rfl) (by kernel_rfl) (fun _ _ _ h => h) (Or.inl ⟨by rfl, fun w hSw => by (dsimp only at hSw; go_simp)⟩) (by assumption) ?_
      (try simp only [Act.put, List.getElem_toArray, List.getElem_cons_succ, List.getElem_cons_zero, List.setIfInBounds_toArray, List.set_cons_zero, List.set_cons_succ])
      refine wpAnyH_take (i := 5) (v := (.slice (some ⟨b, 0, none⟩) n c2)) rfl (by kernel_rfl) (by kernel_rfl) (by kernel_rfl) (fun _ _ _ h => h) (Or.inl ⟨by rfl, fun w hSw => by (dsimp only at hSw; go_simp)⟩) (by assumption) ?_
      (try simp only [Act.put, List.getElem_toArray, List.getElem_cons_succ, List.getElem_cons_zero, List.setIfInBounds_toArray, List.set_cons_zero, List.set_cons_succ])
      refine wpAnyH_take (i := 6) (v := (.int .i64 (t : Int))) rfl (by kernel_rfl) (by kernel_rfl) (by kernel_rfl) (fun _ _ _ h => h) (Or.inl ⟨by rfl, fun w hSw => by (dsimp only at hSw; go_simp)⟩) (by assumption) ?_
      (try simp only [Act.put, List.getElem_toArray, List.getElem_cons_succ, List.getElem_cons_zero, List.setIfInBounds_toArray, List.set_cons_zero, List.set_cons_succ])
      refine wpAnyH_take (i := 7) (v := (.slice (some ⟨b, 0, none⟩) t c2)) rfl (by kernel_rfl) (by kernel_rfl) (by kernel_rfl) (fun _ _ _ h => h) (Or.inl ⟨by rfl, fun w hSw => by (dsimp only at hSw; go_simp)⟩) (by assumption) ?_
      (try simp only [Act.put, List.getElem_toArray, List.getElem_cons_succ, List.getElem_cons_zero, List.setIfInBounds_toArray, List.set_cons_zero, List.set_cons_succ])
      refine wpAnyH_ready (rs := [0]) (by kernel_rfl) (by simp) (AllReadyH.cons rfl (fun K hK => ?_) AllReadyH.nil)
      go_simp
      refine hK.out _ _ trivial (fun hHeld1 => ?_)
      clear hK K hHeld
      (try simp only [Act.put, List.getElem_toArray, List.getElem_cons_succ, List.getElem_cons_zero, List.setIfInBounds_toArray, List.set_cons_zero, List.set_cons_succ])
      refine wpAnyH_ready (rs := [4]) (by kernel_rfl) (by simp) (AllReadyH.cons rfl (fun K hK => ?_) AllReadyH.nil)
      refine Ch.step_app rfl (.tmp 39) (.tmp 42) 59 rfl _ _ rfl rfl _ (HAP1.out W2.drew (by (repeat (first | exact Same.refl _ _ | apply Same.alloc | apply Same.drew | apply Same.drewN)); done)) ?_
      rintro v4 w4 ⟨⟨a4, m4, c4, e4⟩, o4, k4⟩
      subst e4
      have O4 : Hid _ := And.intro o4 k4
      clear o4 k4
      refine hK.out _ _ trivial (fun hHeld2 => ?_)
      clear hK K hHeld1
      (try simp only [Act.put, List.getElem_toArray, List.getElem_cons_succ, List.getElem_cons_zero, List.setIfInBounds_toArray, List.set_cons_zero, List.set_cons_succ])
      refine wpAnyH_ready (rs := [8]) (by kernel_rfl) (by simp) (AllReadyH.cons rfl (fun K hK => ?_) AllReadyH.nil)
      refine Ch.step_app rfl (.tmp 43) (.tmp 46) 59 rfl _ _ rfl rfl _ (HAP2.out w4 _ O4.out.1 O4.out.2) ?_
      rintro v5 w5 ⟨⟨a5, c5, e5⟩, o5, k5⟩
      subst e5
      have O5 : Hid _ := And.intro o5 k5
      clear o5 k5
      refine hK.out _ _ trivial (fun hHeld3 => ?_)
      clear hK K hHeld2
      (try simp only [Act.put, List.getElem_toArray, List.getElem_cons_succ, List.getElem_cons_zero, List.setIfInBounds_toArray, List.set_cons_zero, List.set_cons_succ])
      refine wpAnyH_ready (rs := [9]) (by kernel_rfl) (by simp) (AllReadyH.cons rfl (fun K hK => ?_) AllReadyH.nil)
      go_simp
      refine hK.out _ _ trivial (fun hHeld4 => ?_)
      clear hK K hHeld3
      (try simp only [Act.put, List.getElem_toArray, List.getElem_cons_succ, List.getElem_cons_zero, List.setIfInBounds_toArray, List.set_cons_zero, List.set_cons_succ])
      refine wpAnyH_done (by kernel_rfl) ?_ _
      go_wp2_with fail
      go_meet
      exact ⟨_, _, rfl, O5.out.1, O5.out.2⟩
    case rest =>
      obtain ⟨a3, c3, rfl, o3, k3⟩ := hcut
      rename World => W3
      have O3 : Hid (OwnT W2.heap.size W3 (.slice a3 n c3) L2) := o3
      have K3 : Hid (Kept w W3) := K2.out.trans' k3
      have EM2 : Hid (Emd (L2.map TxR.t)) := EM.out.perm (by
        rw [EL2.out, List.map_append]
        refine List.perm_append_comm.trans ?_
        rw [← List.map_append, List.take_append_drop])
      have TX3 : Hid (TxsAt W3 a3 L2) := by
        obtain ⟨a', c', ev, h1, -⟩ := OwnT.txs O3.out
        cases ev
        exact h1
      have AR3 : Hid (∀ r ∈ L2, ArgT W3 r.t r.a r.c) := fun r hr => by
        rw [EL2.out, List.mem_append] at hr
        refine (AL.out r ?_).on k3
        rcases hr with hr | hr
        · exact List.mem_of_mem_drop hr
        · exact List.mem_of_mem_take hr
      have WKF : Hid (∀ W, Kept W3 W → _) := fun W k => walk17 W a3 c3 L2 (TX3.out.on k) (by rw [HL2.out]; exact HLN.out) EM2.out.right
      rw [adj_none EM2.out L2.length (by rw [List.length_map]; exact Nat.le_refl _), HL2.out] at WKF
      clear o3 k3 HAP1 HAP2 O2 AL EM EL2 hs1 hs2
      go_wp2_with fail
      go_loopw [50] (fun s50 wr => ∃ j : Nat, s50 = .int .i64 j ∧ j ≤ n ∧ Kept W3 wr) (fun s50 _ => n - (intOf s50).toNat)
      case atStart => exact ⟨0, rfl, Nat.zero_le _, Same.refl _ _⟩
      case round =>
        obtain ⟨j, rfl, hj, kj⟩ := hrel
        rename World => WL
        have KJ : Hid (Kept W3 WL) := kj
        clear kj
        by_cases hlt : j < n
        case pos =>
          have d1 : decide ((j : Int) < (n : Int)) = true := decide_eq_true (by omega)
          have hlt2 : (j : Int) < (n : Int) := by omega
          have hws : IntKind.i64.wrap ((j : Int) + 1) = (j : Int) + 1 := by have := HLN.out; rw [IntKind.wrap_i64] <;> omega
          obtain ⟨r, hr⟩ : ∃ r, L2[j]? = some r := ⟨_, List.getElem?_eq_getElem (by rw [HL2.out]; exact hlt)⟩
          obtain ⟨b9, off9, ea, hbl, -⟩ := (TX3.out.on KJ.out) j r hr
          subst ea
          obtain ⟨q0, q1, q2, q3, q4, q5, q6, q7⟩ := (TX3.out.on KJ.out).get hr
          have hmem : r.t ∈ L2.map TxR.t := List.mem_map_of_mem (List.mem_of_getElem? hr)
          have HCP : Hid (∀ W, Kept W3 W → _) := fun W k => copy_any W r.t r.a r.c ((AR3.out r (List.mem_of_getElem? hr)).on k)
          have HSH : Hid (∀ W base a' c', OwnO base W (.slice a' r.t.ops.length c') r.t.ops → _) := fun W base a' c' (ho : OwnO base W (.slice a' r.t.ops.length c') r.t.ops) => Shape17 (j : Int) r.t 0 a' c' W (fun W2 k2 => OwnO.txa (OwnO.on ho k2))
          obtain ⟨z1, z2⟩ := shape_none EM2.out hmem (i := j) (by have := HLN.out; omega)
          rw [z1, z2] at HSH
          have HSD : Hid (∀ W, _) := fun W => rsound17 r.t r.a r.t.ops.length r.c W
          rw [decide_eq_true (EM2.out.one _ hmem).2.1] at HSD
          clear hr hmem z1 z2
          unfold txV at HCP HSH HSD
          generalize hon : r.t.ops.length = on at *
          go_wp2_with fail
          refine Calls.mono (HCP.out _ (KJ.out.alloc _)) ?_
          rintro e W5 ⟨a5, c5, rfl, o5, k5⟩
          have K5 : Hid (Kept W3 W5) := (KJ.out.alloc _).trans' k5
          have B5 : Hid (W5.heap[WL.heap.size]? = some (txO r.t r.a on r.c)) := (k5.block _ (by simp [World.size_alloc]) (fun e => e)).trans (heap_new _ _)
          have O5 : Hid (OwnO _ W5 (.slice a5 on c5) r.t.ops) := o5
          clear o5 k5 q0 q1 q2 q3 q4 q5 q6 q7 hbl
          generalize WL.heap.size = g5 at *
          go_wp2_with fail
          refine Calls.mono (HSH.out _ _ _ _ O5.out) ?_
          rintro e W6 ⟨v6, rfl, o6, k6⟩
          obtain ⟨a6, c6, ev, -⟩ := row_shape o6
          subst ev
          have K6 : Hid (Kept W3 W6) := K5.out.trans' k6
          have B6 : Hid (W6.heap[g5]? = some (txO r.t r.a on r.c)) := (k6.block _ (lt_of_heap B5.out) (fun e => e)).trans B5.out
          obtain ⟨⟨p0, p1, p2, p3, p4, p5, p6, p7⟩, -⟩ := tx_obj B6.out
          have hl := lt_of_heap B6.out
          clear o6 k6
          simp only [List.length_nil]
          go_wp2_with fail
          refine Calls.mono (HSD.out _) ?_
          rintro e W7 ⟨rfl, k7⟩
          have K7 : Hid (Kept W3 W7) := K6.out.trans' k7
          clear k7
          go_wp2_with fail
          go_roundw
          case rel => exact ⟨j + 1, by simp, hlt, K7.out⟩
          case measure => simp only [intOf]; omega
        obtain rfl : n = j := by omega
        have d1 : decide ((n : Int) < (n : Int)) = false := decide_eq_false (by omega)
        go_wp2_with fail
        refine Calls.mono (WKF.out _ KJ.out) ?_
        rintro e W8 ⟨v8, rfl, o8, k8⟩
        obtain ⟨a8, c8, ev, -⟩ := row_shape o8
        subst ev
        have K8 : Hid (Kept w W8) := (K3.out.trans' KJ.out).trans' k8
        clear o8 k8
        simp only [List.length_nil]
        go_wp2_with fail
        go_ret
        exact ⟨rfl, K8.out⟩
end Go.Proofs.Ytbjmdpfoeeadeaa.Sw
