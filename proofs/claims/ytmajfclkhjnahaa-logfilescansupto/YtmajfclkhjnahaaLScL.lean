/- What is proved: LogfileScans answers true for every script whose bytes fit into memory together. -/
import Derived.Test.YtmajfclkhjnahaaLScQ
import Derived.Test.YtmajfclkhjnahaaLOps
namespace Go.Proofs.Ytmajfclkhjnahaa
open Go.RowKit

theorem via {p q : Prop} (h : p → q) (hp : p) : q := h hp
/-- append as one operation. -/
theorem wp_app {P : Program} {o : Oper} {a : Act} {w : World} {K : Act → World → Prop} {Q : Exit → Act → World → Prop} (s x : Operand) (t : TypeId)
    (ho : o.op = .call { callee := .builtin .append, args := #[s, x], argTypes := #[t, t] }) (vs vx : Value) (hs : a.eval s = vs) (hx : a.eval x = vx) (R : Value → World → Prop)
    (hrun : ∀ ty, ∃ v' w', (Builtin.append_ #[t, t] ty #[vs, vx]).run P w = .ok v' w' ∧ R v' w') (h : ∀ v' w', R v' w' → K (a.put o.dst v') w') : Oper.wp P o a w K Q := by
  obtain ⟨v', w', hr, hR⟩ := hrun o.type
  unfold Oper.wp
  simp only [execOp, ho, resolve, invoke, builtin, Sem.run_bind, Sem.run_pure, Result.andThen_ok, List.map_toArray, List.map_cons, List.map_nil, hs, hx, hr]
  exact h v' w' hR
theorem rest_len (d : List Int) (s : Sc) : (restOf d s).length ≤ d.length := by
  unfold restOf
  split
  · exact Nat.zero_le _
  · rw [List.length_drop]
    omega
theorem feed_same {base : Nat} {w w' : World} {sb : Nat} {v : Value} {part : Int} {r : List Int} {rd ct : Nat} {en : Bool} {er : Int} {p : List Int} (h : FeedR base w sb v part r rd ct en er p w') : Same (fun k => k = sb ∨ v.ownBlock = some k) w w' := by
  unfold FeedR at h
  split at h
  · subst h
    exact Same.refl _ _
  · obtain ⟨_, -, -, k⟩ := h
    exact k
/-- What an append to the document's bytes leaves, ahead of its store. -/
def Mo (w w5 : World) (sb rb : Nat) (v : Value) (d : List Int) (s : Sc) : Prop := ∃ vs, Sg w (w5.setCell ⟨rb, 0, none⟩ v) sb rb vs v d false s d false s
theorem more_facts {w W0 W w5 : World} {sb rb : Nat} {vs vd v5 : Value} {d p : List Int} {s : Sc} (h : Sg w W0 sb rb vs vd (d ++ p) false s d false s) (k : Kept W0 W) (hR : Tl w.heap.size w5 v5 (d ++ p) ∧ Same (fun k => vd.ownBlock = some k) W w5 ∧ (∀ k, v5.ownBlock = some k → vd.ownBlock = some k ∨ W.heap.size ≤ k)) :
    ∃ a n c, v5 = .slice a n c ∧ w5.cell? ⟨rb, 0, none⟩ = some vd ∧ w5.frozen? ⟨rb, 0, none⟩ = false ∧ rb < w5.heap.size ∧ Hid (∀ w6, Kept w5 w6 → Mo w w6 sb rb (.slice a n c) (d ++ p) s) := by
  obtain ⟨a, c, rfl, -⟩ := hR.1.bytes
  have g := h.on k
  have ho := (hR.2.1.block _ g.rlt (fun e => (g.vdr _ e).1 rfl)).trans g.obj
  exact ⟨a, _, c, rfl, (cell_of ho 0).trans rfl, frozen_of ho 0, lt_of_heap ho, fun w6 k6 => ⟨vs, g.more (hR.1.on k6) (hR.2.1.trans k6 fun _ _ f => f.elim) hR.2.2⟩⟩
theorem more_done {w w5 w6 W : World} {sb rb : Nat} {v : Value} {d : List Int} {s : Sc} {l : List Op7} {j : Nat} (h : ∀ w6, Kept w5 w6 → Mo w w6 sb rb v d s) (k5 : Kept w5 w6) (hb : d.length + fed7 (l.drop j) ≤ 1048576) (k : Kept (w6.setCell ⟨rb, 0, none⟩ v) W) : Sh w W sb rb l j := by
  obtain ⟨vs, g⟩ := h w6 k5
  exact g.sh hb k

set_option maxRecDepth 100000 in
set_option maxHeartbeats 1600000 in
theorem scans_law (w : World) (a : Option Addr) (cap : Nat) (l : List Op7) (h : Ops7At w a l) (hb : fed7 l + l.length ≤ 1048576) :
    Calls Try.prog 3 #[.slice a l.length cap] w fun e w' => e = .returned (.bool true) ∧ Kept w w' := by
  obtain ⟨n, en⟩ : ∃ n, n = l.length := ⟨_, rfl⟩
  have HF : Hid (fed7 l ≤ 1048576) := by show fed7 l ≤ 1048576; omega
  have hn : n ≤ 1048576 := by omega
  have HL : Hid _ := h
  rw [← en]
  have EN : Hid _ := en
  clear h hb en
  go_enter Try.func3, Try.ntmps3
  go_wp2_with fail
  refine Calls.mono (anchor_any w) ?_
  rintro e w1 ⟨rfl, k1⟩
  have K1 : Hid _ := k1
  clear k1
  go_wp2_with fail
  refine Calls.mono (snew_any w1) ?_
  rintro x w2 ⟨sb, rfl, s2, k2, hsb⟩
  have P0 : Hid (Sh w (w2.alloc rs0) sb w2.heap.size l 0) := ⟨_, _, _, _, _, Sg.start K1.out s2 k2 hsb, by have := HF.out; simpa using this⟩
  obtain ⟨rb, erb⟩ : ∃ rb, rb = w2.heap.size := ⟨_, rfl⟩
  unfold rs0 at P0
  clear s2 k2 hsb
  go_wp2_with fail
  rw [← erb] at P0 ⊢
  go_loopw [24] (fun i W => ∃ j : Nat, j ≤ n ∧ i = .int .i64 j ∧ Sh w W sb rb l j) (fun i _ => n - (intOf i).toNat)
  case atStart => exact ⟨0, Nat.zero_le _, rfl, P0.out⟩
  case round =>
    clear P0 erb
    obtain ⟨j, hj, rfl, vs, vd, d, en, s, sg, hd⟩ := hrel
    have hdl : d.length ≤ 1048576 := by omega
    have SG : Hid _ := sg
    have hrl := sg.rlt
    have hsl := sg.at_.sn.lt
    by_cases hlt : j < n
    · have c1 : decide ((j : Int) < (n : Int)) = true := decide_eq_true (by omega)
      have c1' : (j : Int) < (n : Int) := by omega
      obtain ⟨o, hoj⟩ : ∃ o, l[j]? = some o := ⟨_, List.getElem?_eq_getElem (by rw [← EN.out]; exact hlt)⟩
      obtain ⟨g, off, ea, hg, q0, q1, ab⟩ := HL.out j o hoj
      subst ea
      have tt : ∀ k, wr.cell? ⟨g, k, none⟩ = w.cell? ⟨g, k, none⟩ := fun k => sg.kept.cell (p := ⟨g, k, none⟩) hg (fun h => h)
      rw [← tt] at q0 q1
      have hfn := fed_next hoj
      obtain ⟨ok, oa, oc, p⟩ := o
      simp only at q0 q1 ab hfn
      obtain ⟨m, em⟩ : ∃ m, m = p.length := ⟨_, rfl⟩
      rw [← em] at q1 hfn
      have EM : Hid _ := em
      have AB : Hid _ := ab
      have HFN : Hid (d.length + m + fed7 (l.drop (j + 1)) ≤ 1048576) := by show d.length + m + fed7 (l.drop (j + 1)) ≤ 1048576; omega
      have HSD : Hid (d.length + fed7 (l.drop (j + 1)) ≤ 1048576) := by show d.length + fed7 (l.drop (j + 1)) ≤ 1048576; omega
      have HDL : Hid _ := hdl
      have HBX : Hid _ := heap_new wr (.cells #[.int .i64 ok, .slice oa m oc] 31)
      have KB : Hid (Kept wr (wr.alloc (.cells #[.int .i64 ok, .slice oa m oc] 31))) := (Same.refl _ wr).alloc _
      have S2 : Hid _ := sg.on KB.out
      clear tt hoj hfn ab em hd hdl sg
      by_cases hk1 : ok = 1
      · subst hk1
        have hplm : p.length ≤ 1048576 := by have := HFN.out; have := EM.out; omega
        have HR : Hid (∀ W, Kept w W → _) := fun W (k : Kept w W) => app_lit (c := oc) (AB.out.on k).data AB.out.nil (by omega)
        rw [← EM.out] at HR
        have KW : Hid _ := S2.out.kept
        have HPB : Hid (s.pl + (restOf d s ++ p).length ≤ 211106232532992) := by
          show s.pl + (restOf d s ++ p).length ≤ 211106232532992
          have := rest_len d s
          have := S2.out.at_.ple
          have := HDL.out
          rw [List.length_append]
          omega
        have HDP : Hid ((d ++ p).length + fed7 (l.drop (j + 1)) ≤ 1048576) := by
          show (d ++ p).length + fed7 (l.drop (j + 1)) ≤ 1048576
          have := HFN.out
          have := EM.out
          rw [List.length_append]
          omega
        go_upto_region 12 with fail
        generalize hW0 : wr.alloc (.cells #[.int .i64 1, .slice oa m oc] 31) = W0 at KB HBX S2 KW ⊢
        clear hW0
        have z1 := (cell_of HBX.out 1).trans rfl
        have z3 := lt_of_heap HBX.out
        cases en with
        | true =>
          go_wp2_with (at_builtin; refine wpList_app rfl (.tmp 33) (.tmp 35) 27 27 rfl _ _ rfl rfl _ (HR.out _ KW.out) ?_; rintro v3 w3 ⟨o3, k3⟩)
          have s3 := S2.out.on k3
          obtain ⟨a3, c3, rfl, d3, -, n3, -, -⟩ := OwnB.bytes o3
          have HFE : Hid _ := sfeed_any (c := c3) s3.at_.sn s3.kept.size d3 n3 AB.out.byts HPB.out
          have S3 : Hid _ := s3
          rw [← EM.out] at HFE
          rw [← EM.out]
          clear o3 k3 s3 d3 n3
          refine Calls.mono HFE.out ?_
          rintro x w4 ⟨rfl, hf⟩
          unfold FeedR at hf
          rw [if_pos (.inl rfl)] at hf
          subst hf
          have y1 := (cell_of S3.out.obj 1).trans rfl
          have y3 := S3.out.rlt
          clear HFE
          go_wp2_with fail
          go_roundw
          case rel => exact ⟨j + 1, hlt, by rw [Int.natCast_add]; rfl, S3.out.sh HSD.out (by (repeat (first | exact Same.refl _ _ | apply Same.drew)); done)⟩
          case measure => simp only [intOf]; omega
        | false =>
          obtain ⟨va, vc, evd, -⟩ := S2.out.row.bytes
          subst evd
          obtain ⟨D, eD⟩ : ∃ D, D = d.length := ⟨_, rfl⟩
          have hvs : ∀ k, vs.ownBlock = some k → k < wr.heap.size := fun k e => (SG.out.at_.sn.row.block e).2
          go_wp2_with (at_builtin; refine wpList_app rfl (.tmp 33) (.tmp 35) 27 27 rfl _ _ rfl rfl _ (HR.out _ KW.out) ?_; rintro v3 w3 ⟨o3, k3⟩)
          have s3 := S2.out.on k3
          have hb3 := (k3.block _ (lt_of_heap HBX.out) (fun h => h)).trans HBX.out
          obtain ⟨a3, c3, rfl, d3, -, n3, -, -⟩ := OwnB.bytes o3
          have HFE : Hid _ := sfeed_any (c := c3) s3.at_.sn s3.kept.size d3 n3 AB.out.byts HPB.out
          have S3 : Hid _ := s3
          have B3 : Hid _ := hb3
          rw [← EM.out] at HFE
          rw [← EM.out]
          clear o3 k3 s3 d3 n3 hb3
          refine Calls.mono HFE.out ?_
          rintro x w4 ⟨rfl, hf⟩
          have hfs := feed_same hf
          obtain ⟨vs4, s4⟩ := S3.out.feed (by have := HDP.out; omega) AB.out.byts hf
          have hb4 := (hfs.block _ (lt_of_heap B3.out) (by
            rintro (e | e)
            · omega
            · have := hvs _ e
              omega)).trans B3.out
          have y0 := (cell_of s4.obj 0).trans rfl
          have y1 := (cell_of s4.obj 1).trans rfl
          have y2 := frozen_of s4.obj 0
          have y3 := s4.rlt
          have z1' := (cell_of hb4 1).trans rfl
          have z3' := lt_of_heap hb4
          have HAP : Hid (∀ W, Kept w4 W → ∀ ty, _) := fun W (k : Kept w4 W) ty => app_tail (c := oc) (s4.on k).row (AB.out.on (s4.on k).kept).data AB.out.nil (by have := HDL.out; omega) (s4.on k).kept.size ty
          have S4 : Hid _ := s4
          rw [← EM.out] at HAP
          rw [← eD] at HAP S4 y0
          clear HFE hf hfs s4 hb4 hvs S3 B3 z1 z3
          go_wp2_with fail
          refine wp_region_any (by kernel_rfl) ?_
          refine wpAny_take (i := 0) (v := ?_) rfl (by kernel_rfl) (by kernel_rfl) (by kernel_rfl) (fun _ _ _ h => h) (Or.inl ⟨by rfl, (by intro w; go_simp; (try with_reducible rfl))⟩) ?_
          refine wpAny_take (i := 1) (v := ?_) rfl (by kernel_rfl) (by kernel_rfl) (by kernel_rfl) (fun _ _ _ h => h) (Or.inl ⟨by rfl, (by intro w; go_simp; (try with_reducible rfl))⟩) ?_
          refine wpAny_take (i := 2) (v := ?_) rfl (by kernel_rfl) (by kernel_rfl) (by kernel_rfl) (fun _ _ _ h => h) (Or.inl ⟨by rfl, (by intro w; go_simp; (try with_reducible rfl))⟩) ?_
          refine wpAny_take (i := 3) (v := ?_) rfl (by kernel_rfl) (by kernel_rfl) (by kernel_rfl) (fun _ _ _ h => h) (Or.inl ⟨by rfl, (by intro w; go_simp; (try with_reducible rfl))⟩) ?_
          refine wpAny_take (i := 5) (v := ?_) rfl (by kernel_rfl) (by kernel_rfl) (by kernel_rfl) (fun _ _ _ h => h) (Or.inl ⟨by rfl, (by intro w; go_simp; (try with_reducible rfl))⟩) ?_
          refine via (p := ?pp1) ?body1 ?hp1
          case body1 =>
            intro H
            refine wpAny_ready (rs := [4, 6]) (by kernel_rfl) (by simp) ?_
            refine AllReady.cons rfl (fun K hK => ?_) (AllReady.cons rfl (fun K hK => ?_) AllReady.nil)
            · skip
              go_simp
              refine hK _ _ ?_
              clear hK K
              refine wpAny_ready (rs := [6]) (by kernel_rfl) (by simp) ?_
              refine AllReady.cons rfl (fun K hK => ?_) AllReady.nil
              go_simp
              refine hK _ _ ?_
              clear hK K
              exact H
            · skip
              go_simp
              refine hK _ _ ?_
              clear hK K
              refine wpAny_ready (rs := [4]) (by kernel_rfl) (by simp) ?_
              refine AllReady.cons rfl (fun K hK => ?_) AllReady.nil
              go_simp
              refine hK _ _ ?_
              clear hK K
              exact H
          case hp1 =>
            refine wpAny_ready (rs := [7]) (by kernel_rfl) (by simp) ?_
            refine AllReady.cons rfl (fun K hK => ?_) AllReady.nil
            refine wp_app (.tmp 63) (.tmp 65) 27 rfl (.slice va D vc) (.slice oa m oc) (by go_simp; try rfl) (by go_simp; try rfl) _ (HAP.out _ (by (repeat (first | exact Same.refl _ _ | apply Same.drewN | apply Same.drew)); done)) ?_
            intro v5 w5 hR
            obtain ⟨a5, n5, c5, rfl, f1, f2, f3, HY⟩ := more_facts S4.out (by (repeat (first | exact Same.refl _ _ | apply Same.drewN | apply Same.drew)); done) hR
            clear hR
            go_simp
            refine hK _ _ ?_
            clear hK K
            refine wpAny_take (i := 8) (v := ?_) rfl (by kernel_rfl) (by kernel_rfl) (by kernel_rfl) (fun _ _ _ h => h) (Or.inl ⟨by rfl, (by intro w; go_simp; (try with_reducible rfl))⟩) ?_
            refine wpAny_take (i := 9) (v := ?_) rfl (by kernel_rfl) (by kernel_rfl) (by kernel_rfl) (fun _ _ _ h => h) (Or.inl ⟨by rfl, (by intro w; go_simp; (try with_reducible rfl))⟩) ?_
            refine wpAny_ready (rs := [10]) (by kernel_rfl) (by simp) ?_
            refine AllReady.cons rfl (fun K hK => ?_) AllReady.nil
            go_simp
            refine hK _ _ ?_
            clear hK K
            refine wpAny_done (by kernel_rfl) ?_ _
            go_wp2_with fail
            go_roundw
            case rel => exact ⟨j + 1, hlt, by rw [Int.natCast_add]; rfl, more_done HY.out (by (repeat (first | exact Same.refl _ _ | apply Same.drewN | apply Same.drew)); done) HDP.out (by (repeat (first | exact Same.refl _ _ | apply Same.drewN | apply Same.drew)); done)⟩
            case measure => simp only [intOf]; omega
      · have hk1' : (ok == 1) = false := by simpa using hk1
        by_cases hk2 : ok = 2
        · subst hk2
          have HN : Hid _ := send_any S2.out.at_.sn
          clear hk1
          cases en with
          | true =>
            go_wp2_with fail
            refine Calls.mono HN.out ?_
            rintro x w4 ⟨rfl, s4, k4⟩
            have s5 := S2.out.over s4 k4
            have SE : Hid _ := s5.ended
            have y1 := (cell_of s5.obj 1).trans rfl
            have y2 := frozen_of s5.obj 1
            have y3 := s5.rlt
            clear s4 k4 s5
            go_wp2_with fail
            go_roundw
            case rel => exact ⟨j + 1, hlt, by rw [Int.natCast_add]; rfl, SE.out.sh HSD.out (by (repeat (first | exact Same.refl _ _ | apply Same.drew)); done)⟩
            case measure => simp only [intOf]; omega
          | false =>
            go_wp2_with fail
            refine Calls.mono HN.out ?_
            rintro x w4 ⟨rfl, s4, k4⟩
            have s5 := S2.out.over s4 k4
            have SE : Hid _ := s5.ended
            have y1 := (cell_of s5.obj 1).trans rfl
            have y2 := frozen_of s5.obj 1
            have y3 := s5.rlt
            clear s4 k4 s5
            go_wp2_with fail
            go_roundw
            case rel => exact ⟨j + 1, hlt, by rw [Int.natCast_add]; rfl, SE.out.sh HSD.out (by (repeat (first | exact Same.refl _ _ | apply Same.drew)); done)⟩
            case measure => simp only [intOf]; omega
        · have hk2' : (ok == 2) = false := by simpa using hk2
          by_cases hk3 : ok = 3
          · subst hk3
            have HN : Hid _ := snext_any S2.out.at_
            have hby := S2.out.at_.byts
            have hft := S2.out.at_.ftp
            have HOP : Hid _ := next_ops (en := en) (s := s) hby
            have hr2 := S2.out.rlt
            clear hk1 hk2
            obtain ⟨nx, hnx⟩ : ∃ nx, nx = next7 d en s := ⟨_, rfl⟩
            rw [← hnx] at HN HOP
            have HRN : Hid (∀ W vs, Sg w W sb rb vs vd d en nx.2 d en s → Calls Try.prog 9 #[.pointer (some ⟨rb, 0, none⟩)] W fun x w' => ∃ tv, x = .returned (.tuple #[tv, .bool nx.1.isSome, .int .i64 nx.2.er]) ∧ NxV W.heap.size w' nx.1 tv ∧ Sg w w' sb rb vs vd d en nx.2 d en nx.2 ∧ Same (fun k => k = rb) W w') := fun W vs (hh : Sg w W sb rb vs vd d en nx.2 d en s) => by
              have := hh.rnext HDL.out hby hft
              rw [← hnx] at this
              exact this
            have HLT : Hid (∀ W, Left w.heap.size _ sb vs d en nx.2 W → _) := fun W hl => S2.out.left hl
            clear hnx hby hft
            obtain ⟨nt, ns⟩ := nx
            obtain ⟨b, eb⟩ : ∃ b, b = nt.isSome := ⟨_, rfl⟩
            obtain ⟨er, ee⟩ : ∃ er, er = ns.er := ⟨_, rfl⟩
            have hee : (er != er) = false := by simp
            have hbb : (b != b) = false := by cases b <;> rfl
            go_wp2_with fail
            refine Calls.mono HN.out ?_
            rintro x w4 ⟨tv, rfl, n4, l4⟩
            obtain ⟨vs4, s4⟩ := HLT.out _ l4
            obtain ⟨u, ua, un, uc, rfl⟩ := n4.agg
            simp only at s4 HRN HOP ⊢
            rw [← eb, ← ee]
            rw [← eb, ← ee] at HRN
            obtain ⟨u0, u1, u2, u3, u4, u5, u6, uo⟩ := u
            have n4 : NxV (wr.alloc (.cells #[.int .i64 3, .slice oa m oc] 31)).heap.size w4 nt (.agg #[.int .i64 u0, .int .i64 u1, .int .i64 u2, .int .i64 u3, .int .i64 u4, .int .i64 u5, .int .i64 u6, .slice ua un uc]) := n4
            simp only
            have HB1 : Hid _ := heap_new w4 (.cells #[.int .i64 u0, .int .i64 u1, .int .i64 u2, .int .i64 u3, .int .i64 u4, .int .i64 u5, .int .i64 u6, .slice ua un uc] 37)
            have k41 : Kept w4 (w4.alloc (.cells #[.int .i64 u0, .int .i64 u1, .int .i64 u2, .int .i64 u3, .int .i64 u4, .int .i64 u5, .int .i64 u6, .slice ua un uc] 37)) := (Same.refl _ w4).alloc _
            have HRN4 : Hid _ := HRN.out _ _ (s4.on k41)
            have hr4 := s4.rlt
            have N4 : Hid (∀ w5, Same (fun k => k = rb) (w4.alloc (.cells #[.int .i64 u0, .int .i64 u1, .int .i64 u2, .int .i64 u3, .int .i64 u4, .int .i64 u5, .int .i64 u6, .slice ua un uc] 37)) w5 → TxA w5 (nt.getD t0) (.agg #[.int .i64 u0, .int .i64 u1, .int .i64 u2, .int .i64 u3, .int .i64 u4, .int .i64 u5, .int .i64 u6, .slice ua un uc])) := fun w5 (k5 : Same (fun k => k = rb) _ w5) => ((n4.kept k41 (fun _ _ h => h)).kept k5 (fun k hk (e : k = rb) => by omega)).tx
            clear n4 k41 s4 l4 HRN HLT HN
            go_wp2_with fail
            refine Calls.mono HRN4.out ?_
            rintro x w5 ⟨tv2, rfl, n5, s5, k5⟩
            obtain ⟨u', ua', un', uc', rfl⟩ := n5.agg
            obtain ⟨x0, x1, x2, x3, x4, x5, x6, xo⟩ := u'
            have n5 : NxV (w4.alloc (.cells #[.int .i64 u0, .int .i64 u1, .int .i64 u2, .int .i64 u3, .int .i64 u4, .int .i64 u5, .int .i64 u6, .slice ua un uc] 37)).heap.size w5 nt (.agg #[.int .i64 x0, .int .i64 x1, .int .i64 x2, .int .i64 x3, .int .i64 x4, .int .i64 x5, .int .i64 x6, .slice ua' un' uc']) := n5
            simp only
            have hb5 := (k5.block _ (lt_of_heap HB1.out) (by omega)).trans HB1.out
            have y0 := (cell_of hb5 0).trans rfl
            have y1 := (cell_of hb5 1).trans rfl
            have y2 := (cell_of hb5 2).trans rfl
            have y3 := (cell_of hb5 3).trans rfl
            have y4 := (cell_of hb5 4).trans rfl
            have y5 := (cell_of hb5 5).trans rfl
            have y6 := (cell_of hb5 6).trans rfl
            have y7 := (cell_of hb5 7).trans rfl
            have hl5 := lt_of_heap hb5
            have T4 : Hid _ := N4.out _ k5
            have T5 : Hid _ := n5.tx
            have HSM : Hid (∀ W, Kept w5 W → _) := fun W (k : Kept w5 W) => sameT W (nt.getD t0) (.agg #[.int .i64 u0, .int .i64 u1, .int .i64 u2, .int .i64 u3, .int .i64 u4, .int .i64 u5, .int .i64 u6, .slice ua un uc]) (.agg #[.int .i64 x0, .int .i64 x1, .int .i64 x2, .int .i64 x3, .int .i64 x4, .int .i64 x5, .int .i64 x6, .slice ua' un' uc']) (TxA.on (w := w5) T4.out k) (TxA.on (w := w5) T5.out k) HOP.out
            have S5 : Hid _ := s5
            clear hb5 n5 k5 s5 T4 T5
            go_wp2_with fail
            refine Calls.mono (HSM.out _ (by (repeat (first | exact Same.refl _ _ | apply Same.alloc | apply Same.drew)); done)) ?_
            rintro x w6 ⟨rfl, k6⟩
            have K6 : Hid (Kept w5 w6) := Same.trans' (by (repeat (first | exact Same.refl _ _ | apply Same.alloc | apply Same.drew)); done) k6
            clear k6
            go_wp2_with fail
            go_roundw
            case rel => exact ⟨j + 1, hlt, by rw [Int.natCast_add]; rfl, S5.out.sh HSD.out K6.out⟩
            case measure => simp only [intOf]; omega
          · have hk3' : (ok == 3) = false := by simpa using hk3
            by_cases hk4 : ok = 4
            · subst hk4
              have HT : Hid _ := S2.out.tells HDL.out
              clear hk1 hk2 hk3
              go_wp2_with fail
              refine Calls.mono HT.out ?_
              rintro x w4 ⟨rfl, k4⟩
              have SE : Hid _ := S2.out.on k4
              clear k4
              go_wp2_with fail
              go_roundw
              case rel => exact ⟨j + 1, hlt, by rw [Int.natCast_add]; rfl, SE.out.sh HSD.out (by (repeat (first | exact Same.refl _ _ | apply Same.drew)); done)⟩
              case measure => simp only [intOf]; omega
            · have hk4' : (ok == 4) = false := by simpa using hk4
              clear hk1 hk2 hk3 hk4
              go_wp2_with fail
              go_roundw
              case rel => exact ⟨j + 1, hlt, by rw [Int.natCast_add]; rfl, S2.out.sh HSD.out (by (repeat (first | exact Same.refl _ _ | apply Same.drew)); done)⟩
              case measure => simp only [intOf]; omega
    · have ej : j = n := by omega
      subst ej
      have c1 : decide ((j : Int) < (j : Int)) = false := by simp
      have HT : Hid _ := sg.tells hdl
      clear sg
      go_wp2_with fail
      refine Calls.mono HT.out ?_
      rintro x w4 ⟨rfl, k4⟩
      have K4 : Hid _ := SG.out.kept.trans' k4
      clear k4
      go_wp2_with fail
      go_ret
      exact ⟨rfl, K4.out⟩
end Go.Proofs.Ytmajfclkhjnahaa
