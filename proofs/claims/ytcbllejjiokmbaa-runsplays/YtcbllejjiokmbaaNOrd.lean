/- What is proved: a list of rows is put in order by places taken out of a heap: the answer is a new list, the rows sorted, those alike as they stood; the list lies in memory. -/
import Derived.Test.YtcbllejjiokmbaaNPop
namespace Go.Proofs.Ytcbllejjiokmbaa
open Go.RowKit

/-- The same as one step of a region that draws its order. -/
theorem step_app {P : Program} {ops : Array Oper} {o : Oper} {a : Act} {w : World} {K : Act → World → Prop} {Q : Exit → Act → World → Prop} {E : Prop} (hg : o.guard = none) (s x : Operand) (t : TypeId)
    (ho : o.op = .call { callee := .builtin .append, args := #[s, x], argTypes := #[t, t] }) (vs vx : Value) (hs : a.eval s = vs) (hx : a.eval x = vx) (R : Value → World → Prop)
    (hrun : ∀ ty, ∃ v' w', (Builtin.append_ #[t, t] ty #[vs, vx]).run P w = .ok v' w' ∧ R v' w') (h : ∀ v' w', R v' w' → K (a.put o.dst v') w') : if Region.wanted o (yielded ops a.tmps) = true then Oper.wp P o a w K Q else E := by
  have hw : Region.wanted o (yielded ops a.tmps) = true := by simp [Region.wanted, hg]
  rw [if_pos hw]
  obtain ⟨v', w', hr, hR⟩ := hrun o.type
  unfold Oper.wp
  simp only [execOp, ho, resolve, invoke, builtin, Sem.run_bind, Sem.run_pure, Result.andThen_ok, List.map_toArray, List.map_cons, List.map_nil, hs, hx, hr]
  exact h v' w' hR

/-- What stands when the sorting begins. -/
theorem env_new {w : World} {a : Option Addr} {cap : Nat} {l : List RwM} (order : Int) (hr : RowsAt w a l) (hn : l.length ≤ 2199023255552) :
    Env (w.heap.size + 1 + 1) (((w.alloc (.cells #[.int .i64 order] 3)).alloc (.cells #[.slice a l.length cap] 22)).alloc (.cells #[.slice none 0 0, .func (.func 62) #[] #[.pointer (some ⟨w.heap.size, 0, none⟩), .pointer (some ⟨w.heap.size + 1, 0, none⟩)]] 103)) w.heap.size (w.heap.size + 1) order a cap l ∧
    Hm (w.heap.size + 1 + 1) (((w.alloc (.cells #[.int .i64 order] 3)).alloc (.cells #[.slice a l.length cap] 22)).alloc (.cells #[.slice none 0 0, .func (.func 62) #[] #[.pointer (some ⟨w.heap.size, 0, none⟩), .pointer (some ⟨w.heap.size + 1, 0, none⟩)]] 103)) w.heap.size (w.heap.size + 1) (.slice none 0 0) [] ∧
    Kept w (((w.alloc (.cells #[.int .i64 order] 3)).alloc (.cells #[.slice a l.length cap] 22)).alloc (.cells #[.slice none 0 0, .func (.func 62) #[] #[.pointer (some ⟨w.heap.size, 0, none⟩), .pointer (some ⟨w.heap.size + 1, 0, none⟩)]] 103)) := by
  have q0 := heap_new w (.cells #[.int .i64 order] 3)
  have q1 := heap_new (w.alloc (.cells #[.int .i64 order] 3)) (.cells #[.slice a l.length cap] 22)
  have q2 := heap_new ((w.alloc (.cells #[.int .i64 order] 3)).alloc (.cells #[.slice a l.length cap] 22)) (.cells #[.slice none 0 0, .func (.func 62) #[] #[.pointer (some ⟨w.heap.size, 0, none⟩), .pointer (some ⟨w.heap.size + 1, 0, none⟩)]] 103)
  have k : Kept w (((w.alloc (.cells #[.int .i64 order] 3)).alloc (.cells #[.slice a l.length cap] 22)).alloc (.cells #[.slice none 0 0, .func (.func 62) #[] #[.pointer (some ⟨w.heap.size, 0, none⟩), .pointer (some ⟨w.heap.size + 1, 0, none⟩)]] 103)) := (((Same.refl _ w).alloc _).alloc _).alloc _
  have k1 : Kept ((w.alloc (.cells #[.int .i64 order] 3)).alloc (.cells #[.slice a l.length cap] 22)) (((w.alloc (.cells #[.int .i64 order] 3)).alloc (.cells #[.slice a l.length cap] 22)).alloc (.cells #[.slice none 0 0, .func (.func 62) #[] #[.pointer (some ⟨w.heap.size, 0, none⟩), .pointer (some ⟨w.heap.size + 1, 0, none⟩)]] 103)) := (Same.refl _ _).alloc _
  have k0 : Kept (w.alloc (.cells #[.int .i64 order] 3)) ((w.alloc (.cells #[.int .i64 order] 3)).alloc (.cells #[.slice a l.length cap] 22)) := (Same.refl _ _).alloc _
  rw [World.size_alloc] at q1
  rw [World.size_alloc, World.size_alloc] at q2
  have s2 := lt_of_heap q2
  refine ⟨⟨by omega, by omega, Nat.le_of_lt s2, ?_, ?_, hr.on k, fun b hb => by have := hr.lt hb; omega, hn⟩, ⟨q2, OwnI.nil _ _⟩, k⟩
  · rw [(k0.trans' k1).cell (p := ⟨w.heap.size, 0, none⟩) (lt_of_heap q0) (fun e => e), cell_of q0]; rfl
  · rw [k1.cell (p := ⟨w.heap.size + 1, 0, none⟩) (lt_of_heap q1) (fun e => e), cell_of q1]; rfl
/-- One row more behind a list of one's own, the row lying in a block. -/
theorem app_row_at {w : World} {base b : Nat} {v : Value} {xs : List RwM} (r : RwM) (hown : OwnR base w v xs) (hcell : w.heap[b]? = some (.cells #[.int .i64 r.kind, .int .i64 r.time, .int .i64 r.seq, .int .i64 r.index, .int .i64 r.frm, .int .i64 r.til, .string r.body] 26 (0, 0))) (hb : xs.length + 1 ≤ 2199023255552) (hbase : base ≤ w.heap.size) (ty : TypeId) :
    ∃ v' w', (Builtin.append_ #[22, 22] ty #[v, .slice (some ⟨b, 0, none⟩) 1 1]).run Try.prog w = .ok v' w' ∧ OwnR base w' v' (xs ++ [r]) ∧ Same (fun k => v.ownBlock = some k) w w' ∧ ∀ k, v'.ownBlock = some k → v.ownBlock = some k ∨ w.heap.size ≤ k := by
  obtain ⟨i0, hi0, hz0, hz1, hz2⟩ := info_parts Try.infoRow
  obtain ⟨v', w', hr, r1, r2, _, r3⟩ := run_append_own_at (P := Try.prog) (w := w) base 22 ty 26 i0 _ 7 64 Try.underlying22 hi0 hz0 hz1 hz2 rfl (by decide) v xs.length _ hown ⟨b, 0, none⟩ 1 1 (rwc [r]) (length_rwc [r])
    (fun j u hu => by
      rw [Addr.add_lit, Nat.zero_add, cell_of hcell]
      rw [show rwc [r] = rc1 r from List.append_nil _] at hu
      simpa [rc1] using hu) (rwc_one _) (by unfold maxLen; omega) (by omega) hbase
  rw [← rwc_append] at r1
  refine ⟨v', w', hr, by rw [OwnR, List.length_append]; exact r1, Same.of_grown r2 (fun k e => e), fun k hk => ?_⟩
  rcases r3 with e | e
  · exact .inl (e ▸ hk)
  · rw [e] at hk
    cases hk
    exact .inr (Nat.le_refl _)
theorem Hm.onS {S : Nat → Prop} {B : Nat} {w w' : World} {ob lb : Nat} {v : Value} {L : List Nat} (h : Hm B w ob lb v L) (k : Same S w w') (hB : ¬ S B) (hv : ∀ b, v.ownBlock = some b → ¬ S b) : Hm B w' ob lb v L :=
  ⟨(k.block _ (lt_of_heap h.obj) hB).trans h.obj, h.own.kept k hv⟩
/-- What stands in the second loop. -/
structure Pq (B : Nat) (lt : Nat → Nat → Bool) (l : List RwM) (wr : World) (ob lb : Nat) (sv : Value) (o : List Nat) (vh : Value) (L : List Nat) : Prop where
  outs : Outs lt l.length o L
  hm : Hm B wr ob lb vh L
  apart : ∀ k, sv.ownBlock = some k → k ≠ B ∧ vh.ownBlock ≠ some k
  own : OwnR (B + 1) wr sv (o.map (l.getD · r0))
theorem Pq.len {B : Nat} {lt : Nat → Nat → Bool} {l : List RwM} {wr : World} {ob lb : Nat} {sv : Value} {o : List Nat} {vh : Value} {L : List Nat} (h : Pq B lt l wr ob lb sv o vh L) : o.length + L.length = l.length := by
  have := h.outs.perm.length_eq
  simpa using this
theorem Pq.on {B : Nat} {lt : Nat → Nat → Bool} {l : List RwM} {wr w' : World} {ob lb : Nat} {sv : Value} {o : List Nat} {vh : Value} {L : List Nat} (h : Pq B lt l wr ob lb sv o vh L) (k : Kept wr w') : Pq B lt l w' ob lb sv o vh L :=
  ⟨h.outs, h.hm.on k, h.apart, OwnR.kept h.own k (fun _ _ e => e)⟩
theorem Pq.step {B : Nat} {lt : Nat → Nat → Bool} (s : SWO lt) (tot : ∀ a b, a ≠ b → lt a b = true ∨ lt b a = true) {l : List RwM} {wr : World} {ob lb : Nat} {sv : Value} {o : List Nat} {vh : Value} {L : List Nat} (h : Pq B lt l wr ob lb sv o vh L)
    {w1 W' w5 : World} {vh' v5 : Value} {L' : List Nat} (hm : Hm B w1 ob lb vh' L') (hp : Hp lt L') (pm : (L.getD 0 0 :: L').Perm L) (eo : vh'.ownBlock = vh.ownBlock) (k : Kept w1 W')
    (o5 : OwnR (B + 1) w5 v5 (o.map (l.getD · r0) ++ [l.getD (L.getD 0 0) r0])) (k5 : Same (fun k => sv.ownBlock = some k) W' w5) (n5 : ∀ k, v5.ownBlock = some k → sv.ownBlock = some k ∨ W'.heap.size ≤ k) : Pq B lt l w5 ob lb v5 (o ++ [L.getD 0 0]) vh' L' := by
  have hm2 := hm.on k
  refine ⟨h.outs.step s tot hp pm, hm2.onS k5 (fun e => (h.apart _ e).1 rfl) (fun b hb e => (h.apart b e).2 (by rw [← eo]; exact hb)), fun b hb => ?_, by rw [List.map_append]; exact o5⟩
  rcases n5 b hb with e | e
  · exact ⟨(h.apart b e).1, by rw [eo]; exact (h.apart b e).2⟩
  · have h1 := lt_of_heap hm2.obj
    refine ⟨by omega, fun e2 => ?_⟩
    have := (hm2.own.block e2).2
    omega
set_option maxRecDepth 100000 in
set_option maxHeartbeats 1600000 in
theorem inorder10 (order : Int) {w : World} {a : Option Addr} {cap : Nat} {l : List RwM} (hr : RowsAt w a l) (hn : l.length ≤ 2199023255552) :
    Calls Try.prog 47 #[.int .i64 order, .slice a l.length cap] w fun e w' => ∃ v, e = .returned v ∧ OwnR w.heap.size w' v (srt (bef order) l) ∧ Kept w w' := by
  obtain ⟨e0, h0, k0⟩ := env_new (cap := cap) order hr hn
  obtain ⟨n, en⟩ : ∃ n, n = l.length := ⟨_, rfl⟩
  have O : Hid _ := plt_swo (bef_swo order) l
  rw [← en] at e0 h0 k0 hn ⊢
  have E0 : Hid _ := e0
  have H0 : Hid _ := h0
  have K0 : Hid _ := k0
  have EN : Hid _ := en
  clear hr e0 h0 k0 en
  go_enter Try.func47, Try.ntmps47
  go_wp2_with fail
  generalize ((w.alloc (.cells #[.int .i64 order] 3)).alloc (.cells #[.slice a n cap] 22)).alloc (.cells #[.slice none 0 0, .func (.func 62) #[] #[.pointer (some ⟨w.heap.size, 0, none⟩), .pointer (some ⟨w.heap.size + 1, 0, none⟩)]] 103) = W0 at E0 H0 K0 ⊢
  have hBh : Hid (w.heap.size ≤ w.heap.size + 1 + 1) := by show _ ≤ _; omega
  have hSz : Hid (∀ k, w.heap.size + 1 + 1 ≤ k → w.heap.size ≤ k) := fun k hk => by omega
  generalize hh : w.heap.size = h at *
  generalize h + 1 + 1 = B at *
  have HSZ : Hid (w.heap.size = h) := hh
  clear hh
  go_loopw [12] (fun i wr => ∃ (j : Nat) (vh : Value) (L : List Nat), j ≤ n ∧ i = .int .i64 j ∧ Hm B wr h (h + 1) vh L ∧ Hp (plt (bef order) l) L ∧ L.Perm (List.range j) ∧ Same (fun k => B ≤ k) W0 wr) (fun i _ => n - (intOf i).toNat)
  case atStart => exact ⟨0, _, [], Nat.zero_le _, rfl, H0.out, Hp.nil _, List.Perm.refl _, Same.refl _ _⟩
  case round =>
    obtain ⟨j, vh, L, hj, rfl, hm, hp, pm, ks⟩ := hrel
    by_cases hlt : j < n
    · have c1 : decide ((j : Int) < (n : Int)) = true := decide_eq_true (by omega)
      have c1' : (j : Int) < (n : Int) := by omega
      have lL : L.length = j := by rw [pm.length_eq]; simp
      have HPU : Hid _ := push10 (E0.out.on ks) hm hp (fun x hx => by have := List.mem_range.1 (pm.mem_iff.1 hx); rw [← EN.out]; omega) (by omega) (x := j) (by rw [← EN.out]; exact hlt)
      have PM : Hid _ := pm
      have KS : Hid _ := ks
      clear hm hp pm ks lL
      go_wp2_with fail
      refine Calls.mono HPU.out ?_
      rintro e w1 ⟨rfl, v', L', hm', hp', pm', ks'⟩
      have R : Hid _ := (⟨hm', hp', pm', ks'⟩ : _ ∧ _ ∧ _ ∧ _)
      clear hm' hp' pm' ks' HPU
      go_wp2_with fail
      go_roundw
      case rel =>
        obtain ⟨hm', hp', pm', ks'⟩ := R.out
        exact ⟨j + 1, v', L', hlt, by rw [Int.natCast_add]; rfl, hm', hp', by rw [List.range_succ]; exact pm'.trans (PM.out.append_right _), KS.out.trans' ks'⟩
      case measure => simp only [intOf]; omega
    · obtain rfl : n = j := by omega
      have c1 : decide ((n : Int) < (n : Int)) = false := by simp
      have e1 := (E0.out.on ks).cl
      rw [← EN.out] at e1
      obtain ⟨i0, hi0, hz0, hz1, hz2⟩ := info_parts Try.infoRow
      obtain ⟨w1, hmk, hown, hgr⟩ := run_make_own (P := Try.prog) wr (B + 1) 22 26 i0 _ 7 Try.underlying22 hi0 hz0 hz1 .i64 .i64 n (by rw [hz2]; omega) (by unfold maxLen; omega) (lt_of_heap hm.obj)
      have kw : Kept wr w1 := Same.of_grown hgr (fun k e => by cases e)
      have e2 := (kw.cell (p := ⟨h + 1, 0, none⟩) (Nat.lt_of_lt_of_le E0.out.b (Nat.le_trans E0.out.le ks.size)) (fun e => e)).trans e1
      have KS1 : Hid _ := ks.trans' (kw.to _)
      have PQ0 : Hid (Pq B (plt (bef order) l) l w1 h (h + 1) (.slice (some ⟨wr.heap.size, 0, none⟩) 0 n) [] vh L) := ⟨Outs.start hp (by rw [← EN.out]; exact pm), hm.on kw, fun k hk => by
        simp only [Value.ownBlock, Option.some.injEq] at hk
        subst hk
        refine ⟨fun e => ?_, fun e => ?_⟩
        · have := lt_of_heap hm.obj; omega
        · have := (hm.own.block e).2; omega, hown⟩
      clear hm hp pm ks hown hgr hz0 hz1 hz2 hi0 kw
      go_wp2_with fail
      clear hmk c1 hj hlt e1 e2
      go_loopw [7, 23] (fun sv i wr => ∃ (q : Nat) (o : List Nat) (vh : Value) (L : List Nat), q ≤ n ∧ i = .int .i64 q ∧ o.length = q ∧ Pq B (plt (bef order) l) l wr h (h + 1) sv o vh L ∧ Same (fun k => B ≤ k) W0 wr) (fun _ i _ => n - (intOf i).toNat)
      case atStart => exact ⟨0, [], vh, L, Nat.zero_le _, rfl, rfl, PQ0.out, KS1.out⟩
      case round =>
        clear PQ0 KS1
        obtain ⟨q, o, vh', L', hq, rfl, ho, pq, ks⟩ := hrel
        have hlen := pq.len
        rw [← EN.out] at hlen
        have PQ : Hid _ := pq
        by_cases hlt : q < n
        · have c1 : decide ((q : Int) < (n : Int)) = true := decide_eq_true (by omega)
          have c1' : (q : Int) < (n : Int) := by omega
          have hL0 : 0 < L'.length := by omega
          have hpl : Pl l.length L' := fun y hy => List.mem_range.1 (pq.outs.perm.mem_iff.1 (List.mem_append_right _ hy))
          have hx := hpl.at hL0
          obtain ⟨r, hr⟩ : ∃ r, l[L'.getD 0 0]? = some r := ⟨_, List.getElem?_eq_getElem hx⟩
          obtain ⟨b, off, ea, -⟩ := E0.out.rows _ r hr
          subst ea
          have HPOP : Hid (∀ W, Kept wr W → Calls Try.prog 64 #[.pointer (some ⟨B, 0, none⟩)] W fun e w' => e = .returned (.int .i64 ((L'.getD 0 0 : Nat) : Int)) ∧ ∃ (v1 : Value) (L1 : List Nat), Hm B w' h (h + 1) v1 L1 ∧ Hp (plt (bef order) l) L1 ∧ (L'.getD 0 0 :: L1).Perm L' ∧ v1.ownBlock = vh'.ownBlock ∧ Same (fun k => k = B ∨ vh'.ownBlock = some k) wr w') := fun W k => Calls.mono (pop10 (E0.out.on (ks.trans' (k.to _))) (pq.hm.on k) pq.outs.hp hpl (by omega) hL0) fun e w' ⟨h1, v1, L1, h2, h3, h4, h5, h6⟩ => ⟨h1, v1, L1, h2, h3, h4, h5, (k.to _).trans' h6⟩
          have HLOW : Hid (∀ w1, Same (fun k => k = B ∨ vh'.ownBlock = some k) wr w1 → Same (fun k => B ≤ k) W0 w1) := fun w1 k => ks.trans k fun i _ hi => pq.hm.low hi
          have HAPP : Hid (∀ W' bb, Same (fun k => k = B ∨ vh'.ownBlock = some k) wr W' → W'.heap[bb]? = some (.cells #[.int .i64 r.kind, .int .i64 r.time, .int .i64 r.seq, .int .i64 r.index, .int .i64 r.frm, .int .i64 r.til, .string r.body] 26 (0, 0)) → ∀ ty, ∃ v5 w5, (Builtin.append_ #[22, 22] ty #[u7, .slice (some ⟨bb, 0, none⟩) 1 1]).run Try.prog W' = .ok v5 w5 ∧ OwnR (B + 1) w5 v5 (o.map (l.getD · r0) ++ [r]) ∧ Same (fun k => u7.ownBlock = some k) W' w5 ∧ ∀ k, v5.ownBlock = some k → u7.ownBlock = some k ∨ W'.heap.size ≤ k) := fun W' bb k hc ty =>
            app_row_at r (OwnR.kept pq.own k fun g hg e => by
              rcases e with e | e
              · exact (pq.apart g hg).1 e
              · exact (pq.apart g hg).2 e) hc (by rw [List.length_map]; omega) (Nat.le_trans (lt_of_heap pq.hm.obj) k.size) ty
          have HUP : Hid (∀ W' w5, Same (fun k => B ≤ k) W0 W' → Same (fun k => u7.ownBlock = some k) W' w5 → Same (fun k => B ≤ k) W0 w5) := fun W' w5 k k5 => k.trans k5 fun i _ hi => by
            have := (OwnR.block pq.own hi).1
            omega
          have hrr : l.getD (L'.getD 0 0) r0 = r := getD_row hr
          have HST : Hid (∀ (w1 W' w5 : World) (v1 v5 : Value) (L1 : List Nat), Hm B w1 h (h + 1) v1 L1 → Hp (plt (bef order) l) L1 → (L'.getD 0 0 :: L1).Perm L' → v1.ownBlock = vh'.ownBlock → Kept w1 W' → OwnR (B + 1) w5 v5 (o.map (l.getD · r0) ++ [r]) → Same (fun k => u7.ownBlock = some k) W' w5 → (∀ k, v5.ownBlock = some k → u7.ownBlock = some k ∨ W'.heap.size ≤ k) → Pq B (plt (bef order) l) l w5 h (h + 1) v5 (o ++ [L'.getD 0 0]) v1 L1) := fun w1 W' w5 v1 v5 L1 hm hp pm eo k o5 k5 n5 => pq.step O.out (plt_tot _ _) hm hp pm eo k (by rw [hrr]; exact o5) k5 n5
          have HT : Hid (∀ W, Same (fun k => B ≤ k) W0 W → Same (fun k => B ≤ k) W0 W ∧ W.cell? ⟨h + 1, 0, none⟩ = some (.slice (some ⟨b, off, none⟩) n cap) ∧ W.cell? ⟨b, off + L'.getD 0 0 * 7, none⟩ = some (.int .i64 r.kind) ∧ W.cell? ⟨b, off + L'.getD 0 0 * 7 + 1, none⟩ = some (.int .i64 r.time) ∧ W.cell? ⟨b, off + L'.getD 0 0 * 7 + 2, none⟩ = some (.int .i64 r.seq) ∧ W.cell? ⟨b, off + L'.getD 0 0 * 7 + 3, none⟩ = some (.int .i64 r.index) ∧ W.cell? ⟨b, off + L'.getD 0 0 * 7 + 4, none⟩ = some (.int .i64 r.frm) ∧ W.cell? ⟨b, off + L'.getD 0 0 * 7 + 5, none⟩ = some (.int .i64 r.til) ∧ W.cell? ⟨b, off + L'.getD 0 0 * 7 + 6, none⟩ = some (.string r.body)) := fun W k => by
            have e1 := (E0.out.on k).cl
            rw [← EN.out] at e1
            obtain ⟨b', off', e, -, q0, q1, q2, q3, q4, q5, q6⟩ := (E0.out.on k).rows _ r hr
            cases e
            exact ⟨k, e1, q0, q1, q2, q3, q4, q5, q6⟩
          obtain ⟨-, t0, t1, t2, t3, t4, t5, t6, t7⟩ := HT.out wr ks
          have hx2 : ((L'.getD 0 0 : Nat) : Int) < (n : Int) := by rw [EN.out]; omega
          clear pq hpl hx hr hrr hlen
          generalize L'.getD 0 0 = x at *
          go_wp2_with fail
          go_region_held3 (fun W => Same (fun k => B ≤ k) W0 W ∧ W.cell? ⟨h + 1, 0, none⟩ = some (.slice (some ⟨b, off, none⟩) n cap) ∧ W.cell? ⟨b, off + x * 7, none⟩ = some (.int .i64 r.kind) ∧ W.cell? ⟨b, off + x * 7 + 1, none⟩ = some (.int .i64 r.time) ∧ W.cell? ⟨b, off + x * 7 + 2, none⟩ = some (.int .i64 r.seq) ∧ W.cell? ⟨b, off + x * 7 + 3, none⟩ = some (.int .i64 r.index) ∧ W.cell? ⟨b, off + x * 7 + 4, none⟩ = some (.int .i64 r.frm) ∧ W.cell? ⟨b, off + x * 7 + 5, none⟩ = some (.int .i64 r.til) ∧ W.cell? ⟨b, off + x * 7 + 6, none⟩ = some (.string r.body))
            (exact HT.out _ (by (repeat (first | assumption | apply Same.alloc | apply Same.drew | apply Same.drewN)); done))
            (first
            | (go_at_call 64; refine Calls.mono (HPOP.out _ (by (repeat (first | assumption | exact Same.refl _ _ | apply Same.alloc | apply Same.drew | apply Same.drewN)); done)) ?_; rintro e w1 ⟨rfl, v1, L1, hm1, hp1, pm1, eo1, ks1⟩; have kp := HLOW.out _ ks1)
            | (refine step_app rfl (.tmp 25) (.tmp 30) 22 rfl u7 (.slice (some ⟨_, 0, none⟩) 1 1) rfl rfl _ (HAPP.out _ _ (by (repeat (first | assumption | apply Same.alloc | apply Same.drew | apply Same.drewN)); done) (by exact heap_new _ _)) ?_; rintro v5 w5 ⟨o5, k5, n5⟩; have kp5 := HUP.out _ _ (by (repeat (first | assumption | apply Same.alloc | apply Same.drew | apply Same.drewN)); done) k5))
          all_goals
            have PS := HST.out _ _ _ _ _ _ hm1 hp1 pm1 eo1 (by (repeat (first | exact Same.refl _ _ | apply Same.alloc | apply Same.drew | apply Same.drewN)); done) o5 k5 n5
            have R : Hid _ := (⟨PS, kp5⟩ : _ ∧ _)
            clear PS hm1 hp1 pm1 eo1 ks1 kp o5 k5 n5 kp5
            go_wp2_with fail
            go_roundw
            case rel =>
              obtain ⟨ps, kp⟩ := R.out
              exact ⟨q + 1, o ++ [x], v1, L1, hlt, by rw [Int.natCast_add]; rfl, by rw [List.length_append, ho]; rfl, by first | exact ps | exact ps.on (Same.refl _ _).drew, by first | exact kp | exact kp.drew⟩
            case measure => simp only [intOf]; omega
        · obtain rfl : n = q := by omega
          have c1 : decide ((n : Int) < (n : Int)) = false := by simp
          have hL0 : L' = [] := List.eq_nil_of_length_eq_zero (by omega)
          subst hL0
          have hpm : o.Perm (List.range l.length) := by
            have := pq.outs.perm
            rwa [List.append_nil] at this
          have hs := srt_places (bef_swo order) hpm pq.outs.pw
          have ho2 := pq.own
          rw [hs] at ho2
          have R : Hid (OwnR h wr u7 (srt (bef order) l) ∧ Kept w wr) := ⟨⟨ho2.1, by
            rcases ho2.2 with h2 | ⟨g, cp, cur, e, hb, rest⟩
            · exact .inl h2
            · exact .inr ⟨g, cp, cur, e, hSz.out g (by omega), rest⟩⟩, K0.out.trans ks fun i hi hB => by
              have := hSz.out i hB
              have := HSZ.out
              omega⟩
          rw [← HSZ.out] at R
          clear pq hlen hpm hs ho2 ks
          go_wp2_with fail
          go_ret
          exact ⟨_, rfl, R.out⟩
end Go.Proofs.Ytcbllejjiokmbaa
