/- What is proved: the document's Valid of a rejection, and of any outcome; condition: the list's length. -/
import Derived.Test.YtfhaiklfbnfdlaaDoorRpE
import Derived.Deep.WholeRow
namespace Go.Proofs.YtfhaiklfbnfdlaaDoor
open Go.RowKit

/-- No one of the first j comes before the one ahead of it. -/
def Up2 (ls : List Vi.Vl) (j : Nat) : Prop := ∀ i x y, i + 1 < j → ls[i + 1]? = some x → ls[i]? = some y → Vi.ltV x y = false
theorem Up2.more {ls : List Vi.Vl} {j : Nat} {x y : Vi.Vl} (h : Up2 ls (j + 1)) (hx : ls[j + 1]? = some x) (hy : ls[j]? = some y) (hl : Vi.ltV x y = false) : Up2 ls (j + 1 + 1) := fun i u v hi hu hv => by
  by_cases he : i + 1 < j + 1
  · exact h i u v he hu hv
  · obtain rfl : i = j := by omega
    rw [hx] at hu
    rw [hy] at hv
    cases hu
    cases hv
    exact hl
/-- What Valid asks of a program. -/
structure Ad (P : Program) (k : Nat) (enc : Vi.Vl → List Value) : Prop where
  mixed : P.follows .mixedOrders = true
  E : Vi.Ek enc k
  fV : P.funcs[11]? = some Tryd.f11
  eV : ∀ (args : Array Value) (w : World), Sem.run P (callFunc 18 args) w = .ok (.enter 18 args) w
  eB : ∀ (args : Array Value) (w : World), Sem.run P (callFunc 20 args) w = .ok (.enter 20 args) w
  val : ∀ (x : Vi.Vl) (W : World), Calls P 18 #[.agg (enc x).toArray] W fun e w' => e = .returned (.bool (Vi.okV x)) ∧ Vi.Grw W w'
  bef : ∀ (a b : Vi.Vl) (W : World), Calls P 20 #[.agg (enc a).toArray, .agg (enc b).toArray] W fun e w' => e = .returned (.bool (Vi.ltV a b)) ∧ Vi.Grw W w'
  t3 : P.underlying 3 = some (TypeDesc.int IntKind.i64)
  t4 : P.underlying 4 = some TypeDesc.bool
  t22 : P.underlying 22 = Tryd.prog.underlying 22
  t23 : P.underlying 23 = some (TypeDesc.slice 41)
  t25 : P.underlying 25 = Tryd.prog.underlying 25
  a3 : ∀ w, Sem.run P (isAgg 3) w = .ok false w
  a4 : ∀ w, Sem.run P (isAgg 4) w = .ok false w
  a22 : ∀ w, Sem.run P (isAgg 22) w = .ok false w
  a23 : ∀ w, Sem.run P (isAgg 23) w = .ok false w
  a25 : ∀ w, Sem.run P (isAgg 25) w = .ok true w
  a41 : ∀ w, Sem.run P (isAgg 41) w = .ok true w
  z3 : ∀ w, Sem.run P (Go.sizeOf 3) w = .ok 1 w
  z4 : ∀ w, Sem.run P (Go.sizeOf 4) w = .ok 1 w
  z22 : ∀ w, Sem.run P (Go.sizeOf 22) w = .ok 1 w
  z23 : ∀ w, Sem.run P (Go.sizeOf 23) w = .ok 1 w
  z25 : ∀ w, Sem.run P (Go.sizeOf 25) w = .ok 6 w
  z41 : ∀ w, Sem.run P (Go.sizeOf 41) w = .ok k w
  v25 : ∃ zs : Array Value, zs.size = 6 ∧ ∀ w, Sem.run P (zeroValue 25) w = .ok (.agg zs) w
  i25 : (P.info? 25).map (·.size) = some 6
  hk : k ≤ 16777216
set_option maxRecDepth 100000 in
set_option maxHeartbeats 6400000 in
theorem rvd_p {P : Program} {k : Nat} {enc : Vi.Vl → List Value} (AD : Ad P k enc) (w : World) (cd off tn tt : Int) (ls : List Vi.Vl) (a : Option Addr) (cap : Nat) (h : Vi.At enc k w a ls) (hlen : ls.length ≤ 1172812402961) :
    Calls P 11 #[.agg #[.int .i64 9, .int .i64 cd, .int .i64 off, .int .i64 tn, .int .i64 tt, .slice a ls.length cap]] w fun e w' => e = .returned (.bool (okO ⟨9, cd, off, tn, tt, ls⟩)) ∧ Vi.Grw w w' := by
  have HK : Hid (okO ⟨9, cd, off, tn, tt, ls⟩ = true ↔ OkP 9 cd off tn tt ls.length ∧ allV ls = true ∧ Vi.srd ls = true) := okO_P _
  obtain ⟨mixed, E, fV, eV, eB, val, bef, t3, t4, t22, t23, t25, a3, a4, a22, a23, a25, a41, z3, z4, z22, z23, z25, z41, ⟨zs, hzl, v25⟩, i25, hkm⟩ := AD
  have t22 := t22.trans Tryd.underlying22
  have t25 := t25.trans Tryd.underlying25
  have u22 := run_underlying t22
  have u23 := run_underlying t23
  have u25 := run_underlying t25
  have EE : Hid (Vi.Ek enc k) := E
  have hk0 : ¬ k = 0 := by have := E.pos; omega
  have hkm' : ¬ 16777216 < k := by omega
  have HL : Hid (Vi.At enc k w a ls) := h
  have HV : Hid (∀ x W, _) := val
  have HBF : Hid (∀ x y W, _) := bef
  have HST : Hid (∀ v0 v1 v2 v3 v4 v5 : Value, v0.oneCell' = true → v1.oneCell' = true → v2.oneCell' = true → v3.oneCell' = true → v4.oneCell' = true → v5.oneCell' = true → (storeCells ⟨w.heap.size, 0, none⟩ [v0, v1, v2, v3, v4, v5]).run P (w.alloc (.cells zs 25)) = .ok () (w.alloc (ouO v0 v1 v2 v3 v4 v5))) := fun v0 v1 v2 v3 v4 v5 h0 h1 h2 h3 h4 h5 => by
    have := run_storeCells_new (P := P) w 25 zs #[v0, v1, v2, v3, v4, v5] (by rw [i25]; rfl) (by rw [hzl]; rfl) (by simp [h0, h1, h2, h3, h4, h5])
    simpa using this
  clear val bef E i25
  generalize okO ⟨9, cd, off, tn, tt, ls⟩ = R at *
  obtain ⟨n, en⟩ : ∃ n, n = ls.length := ⟨_, rfl⟩
  rw [← en] at HK hlen ⊢
  have EN : Hid (n = ls.length) := en
  clear en h
  have hni : (n : Int) ≤ 1172812402961 := by omega
  have F : Hid (¬ (OkP 9 cd off tn tt n ∧ allV ls = true ∧ Vi.srd ls = true) → Ending.returned (.bool false) = Ending.returned (Value.bool R)) := fun h => by
    cases hR : R
    · rfl
    · exact (h (HK.out.1 hR)).elim
  by_cases hok : OkP 9 cd off tn tt n
  · have HO : Hid (OkP 9 cd off tn tt n) := hok
    have hcd : cd = 0 := hok.2.2.1 (by omega)
    have hof : off = 0 := hok.2.2.2.2.1 (by omega)
    obtain ⟨htn0, htn1⟩ := hok.2.2.2.2.2.1 (by omega)
    obtain ⟨⟨htt0, htt1⟩, hnt, hn1⟩ := hok.2.2.2.2.2.2.2.1 rfl
    have r1 : ¬ tn < 0 := by omega
    have r2 : ¬ 4096 < tn := by omega
    have r3 : ¬ tt < 1 := by omega
    have r4 : ¬ 1099511627776 < tt := by omega
    have r5 : ¬ 10000 < (n : Int) := by omega
    have r6 : ¬ tt < (n : Int) := by omega
    have HN1 : Hid (n ≤ 10000) := hn1
    subst hcd hof
    clear hok htn0 htn1 htt0 htt1 hnt hn1
    have hst := HST.out (.int .i64 9) (.int .i64 0) (.int .i64 0) (.int .i64 tn) (.int .i64 tt) (.slice a n cap) rfl rfl rfl rfl rfl rfl
    go_enter fV, Tryd.ntmps11
    go_upto_region 3 with fail
    have B0 : Hid ((w.alloc (ouO (.int .i64 9) (.int .i64 0) (.int .i64 0) (.int .i64 tn) (.int .i64 tt) (.slice a n cap))).heap[w.heap.size]? = some (ouO (.int .i64 9) (.int .i64 0) (.int .i64 0) (.int .i64 tn) (.int .i64 tt) (.slice a n cap))) := heap_new w _
    have G0 : Hid (Vi.Grw w (w.alloc (ouO (.int .i64 9) (.int .i64 0) (.int .i64 0) (.int .i64 tn) (.int .i64 tt) (.slice a n cap)))) := (Vi.Grw.refl w).alloc _
    generalize w.alloc (ouO (.int .i64 9) (.int .i64 0) (.int .i64 0) (.int .i64 tn) (.int .i64 tt) (.slice a n cap)) = W0 at B0 G0 ⊢
    obtain ⟨c0, c1, c2, c3, c4, c5⟩ := ou_obj B0.out
    have l0 := lt_of_heap B0.out
    go_wp2_with fail
    clear c0 c1 c2 c3 c4 c5 l0 r1 r2 r3 r4 r5 r6 hst
    go_loopw [4] (fun v wr => ∃ j : Nat, v = .int .i64 (j : Int) ∧ j ≤ n ∧ (ls.take j).all Vi.okV = true ∧ Up2 ls j ∧ Vi.Grw W0 wr) (fun v _ => n - (intOf v).toNat)
    case atStart => exact ⟨0, rfl, Nat.zero_le _, rfl, fun i x y hi => by omega, Vi.Grw.refl _⟩
    case round =>
      obtain ⟨j, rfl, hj, hall, hup, hk⟩ := hrel
      rename World => WL
      have KL : Hid (Vi.Grw W0 WL) := hk
      have HA : Hid ((ls.take j).all Vi.okV = true) := hall
      have HU : Hid (Up2 ls j) := hup
      have BL : Hid (WL.heap[w.heap.size]? = some (ouO (.int .i64 9) (.int .i64 0) (.int .i64 0) (.int .i64 tn) (.int .i64 tt) (.slice a n cap))) := ((Vi.Grw.kept hk).block _ (lt_of_heap B0.out) (fun e => e)).trans B0.out
      have AL : Hid (Vi.At enc k WL a ls) := (HL.out.on (Vi.Grw.kept G0.out)).on (Vi.Grw.kept hk)
      clear hk hall hup
      obtain ⟨c0, c1, c2, c3, c4, c5⟩ := ou_obj BL.out
      have l0 := lt_of_heap BL.out
      clear c0 c1 c2 c3 c4
      by_cases hjn : j < n
      · have d1 : (j : Int) < (n : Int) := by omega
        have d1d : decide ((j : Int) < (n : Int)) = true := decide_eq_true d1
        obtain ⟨x, hx⟩ : ∃ x, ls[j]? = some x := ⟨_, List.getElem?_eq_getElem (by rw [← show n = _ from EN.out]; exact hjn)⟩
        have hax := AL.out j x hx
        obtain ⟨b, o, rfl, hb, -⟩ := hax
        have lx := AL.out.loadg EE.out hx P
        obtain ⟨cx, ecx⟩ : ∃ cx, cx = enc x := ⟨_, rfl⟩
        have ECX : Hid (cx = enc x) := ecx
        rw [← ecx] at lx
        have q5 : ∀ n os, _ := fun n os => cell_grown (a := ⟨w.heap.size, 5, none⟩) l0 c5 n os
        have HX : Hid (ls[j]? = some x) := hx
        have HJ : Hid (j < n) := hjn
        clear hx ecx
        have HVX : Hid (∀ W, _) := HV.out x
        rw [← show cx = _ from ECX.out] at HVX
        cases hv : Vi.okV x with
        | false =>
          have EF : Hid (Ending.returned (.bool false) = Ending.returned (Value.bool R)) := F.out (fun h => by
            have := List.all_eq_true.1 h.2.1 x (List.mem_of_getElem? HX.out)
            rw [hv] at this
            cases this)
          rw [hv] at HVX
          clear hv
          go_wp2_with fail
          refine wp_region_quiet_grown mixed (by kernel_rfl) ?_
          repeat (go_big_quiet_step (first | (go_at_call 18; refine Calls.grown_of (HVX.out _))))
          refine wpQuiet_nil ?_
          intro _ hw'
          obtain ⟨⟨nq, osq⟩, hw''⟩ := hw'
          subst hw''
          have G : Hid (Vi.Grw WL (Sort.grow (WL.drewN nq) osq)) := ⟨nq, osq, rfl⟩
          generalize Sort.grow (WL.drewN nq) osq = W5 at G ⊢
          clear lx q5
          go_wp2_with fail
          go_ret
          exact ⟨EF.out, (G0.out.trans KL.out).trans G.out⟩
        | true =>
          have HN : Hid ((ls.take (j + 1)).all Vi.okV = true) := by
            show _ = _
            rw [List.take_add_one, HX.out, List.all_append, HA.out]
            simp [hv]
          rw [hv] at HVX
          clear hv
          by_cases hj0 : j = 0
          · subst hj0
            have HU1 : Hid (Up2 ls 1) := fun i x y hi => by omega
            have lx : ∀ n os, Sem.run P (loadCellsFrom ⟨b, o, none⟩ 0 k #[]) (Sort.grow (WL.drewN n) os) = .ok cx.toArray (Sort.grow (WL.drewN n) os) := by simpa using lx
            go_wp2_with fail
            refine wp_region_quiet_grown mixed (by kernel_rfl) ?_
            repeat (go_big_quiet_step (first | (go_at_call 18; refine Calls.grown_of (HVX.out _))))
            refine wpQuiet_nil ?_
            intro _ hw'
            obtain ⟨⟨nq, osq⟩, hw''⟩ := hw'
            subst hw''
            have G : Hid (Vi.Grw WL (Sort.grow (WL.drewN nq) osq)) := ⟨nq, osq, rfl⟩
            generalize Sort.grow (WL.drewN nq) osq = W5 at G ⊢
            clear lx q5
            go_wp2_with fail
            go_roundw
            case rel => exact ⟨1, rfl, HJ.out, HN.out, HU1.out, KL.out.trans G.out⟩
            case measure => simp only [intOf]; have := HJ.out; omega
          · have f1 : (0 : Int) < (j : Int) := by omega
            have f1b : decide ((j : Int) > 0) = true := decide_eq_true f1
            have f1n : 0 < j := by omega
            obtain ⟨i, rfl⟩ : ∃ i, j = i + 1 := ⟨j - 1, by omega⟩
            obtain ⟨y, hy⟩ : ∃ y, ls[i]? = some y := ⟨_, List.getElem?_eq_getElem (by rw [← show n = _ from EN.out]; omega)⟩
            have ly := AL.out.loadg EE.out hy P
            have HLT : Hid (∀ W, _) := HBF.out x y
            rw [← show cx = _ from ECX.out] at HLT
            obtain ⟨cy, ecy⟩ : ∃ cy, cy = enc y := ⟨_, rfl⟩
            rw [← ecy] at ly HLT
            have HY : Hid (ls[i]? = some y) := hy
            clear hy ecy hj0
            obtain ⟨j, ej⟩ : ∃ j, j = i + 1 := ⟨_, rfl⟩
            have EJ : Hid (j = i + 1) := ej
            have hi : (j : Int) - 1 = (i : Int) := by omega
            have hwi : IntKind.i64.wrap ((j : Int) - 1) = (i : Int) := by rw [IntKind.wrap_i64] <;> omega
            have hw64 : wrap64 ((j : Int) - 1) = (i : Int) := by unfold wrap64; omega
            have hwd : IntKind.i64.wrap (i : Int) = (i : Int) := by rw [IntKind.wrap_i64] <;> omega
            have hin : (i : Int) < (n : Int) := by omega
            rw [← ej] at lx f1 f1b f1n d1 d1d hj hjn ⊢
            clear ej
            cases hv : Vi.ltV x y with
            | true =>
              have EF : Hid (Ending.returned (.bool false) = Ending.returned (Value.bool R)) := F.out (fun h => by
                have := (srd_iff ls).1 h.2.2 i x y HX.out HY.out
                rw [hv] at this
                cases this)
              rw [hv] at HLT
              clear hv
              go_wp2_with fail
              refine wp_region_quiet_grown mixed (by kernel_rfl) ?_
              repeat (go_big_quiet_step (first | (go_at_call 18; refine Calls.grown_of (HVX.out _)) | (go_at_call 20; refine Calls.grown_of (HLT.out _))))
              refine wpQuiet_nil ?_
              intro _ hw'
              obtain ⟨⟨nq, osq⟩, hw''⟩ := hw'
              subst hw''
              have G : Hid (Vi.Grw WL (Sort.grow (WL.drewN nq) osq)) := ⟨nq, osq, rfl⟩
              generalize Sort.grow (WL.drewN nq) osq = W5 at G ⊢
              clear lx ly q5
              go_wp2_with fail
              go_ret
              exact ⟨EF.out, (G0.out.trans KL.out).trans G.out⟩
            | false =>
              have HU1 : Hid (Up2 ls (i + 1 + 1)) := HU.out.more HX.out HY.out hv
              rw [hv] at HLT
              clear hv
              go_wp2_with fail
              refine wp_region_quiet_grown mixed (by kernel_rfl) ?_
              repeat (go_big_quiet_step (first | (go_at_call 18; refine Calls.grown_of (HVX.out _)) | (go_at_call 20; refine Calls.grown_of (HLT.out _))))
              refine wpQuiet_nil ?_
              intro _ hw'
              obtain ⟨⟨nq, osq⟩, hw''⟩ := hw'
              subst hw''
              have G : Hid (Vi.Grw WL (Sort.grow (WL.drewN nq) osq)) := ⟨nq, osq, rfl⟩
              generalize Sort.grow (WL.drewN nq) osq = W5 at G ⊢
              clear lx ly q5
              go_wp2_with fail
              go_roundw
              case rel => exact ⟨j + 1, by first | rfl | simp, by have := HJ.out; have := EJ.out; omega, by rw [EJ.out]; exact HN.out, by rw [EJ.out]; exact HU1.out, KL.out.trans G.out⟩
              case measure => simp only [intOf]; have := HJ.out; have := EJ.out; omega
      · obtain rfl : j = n := by omega
        have d1 : ¬ (j : Int) < (j : Int) := by omega
        have ER : Hid (Ending.returned (.bool true) = Ending.returned (Value.bool R)) := by
          have : R = true := HK.out.2 ⟨HO.out, by
            have := HA.out
            rw [List.take_of_length_le (by rw [← show j = _ from EN.out]; exact Nat.le_refl _)] at this
            exact this, (srd_iff ls).2 (fun i x y hx hy => HU.out i x y (by have := (List.getElem?_eq_some_iff.1 hx).1; rw [← show j = _ from EN.out] at this; exact this) hx hy)⟩
          rw [this]
          exact rfl
        go_wp2_with fail
        go_ret
        exact ⟨ER.out, G0.out.trans KL.out⟩
  · have EF : Hid (Ending.returned (.bool false) = Ending.returned (Value.bool R)) := F.out (fun h => hok h.1)
    have HO : Hid (¬ OkP 9 cd off tn tt n) := hok
    have hst := HST.out (.int .i64 9) (.int .i64 cd) (.int .i64 off) (.int .i64 tn) (.int .i64 tt) (.slice a n cap) rfl rfl rfl rfl rfl rfl
    by_cases h1 : cd = 0
    · by_cases h2 : off = 0
      · by_cases h3 : tn < 0
        · subst h1 h2
          go_enter fV, Tryd.ntmps11
          go_wp2_with fail
          go_ret
          exact ⟨EF.out, (Vi.Grw.refl _).alloc _⟩
        · by_cases h4 : 4096 < tn
          · subst h1 h2
            go_enter fV, Tryd.ntmps11
            go_wp2_with fail
            go_ret
            exact ⟨EF.out, (Vi.Grw.refl _).alloc _⟩
          · have hb : tt < 1 ∨ (¬ tt < 1 ∧ 1099511627776 < tt) ∨ (¬ tt < 1 ∧ ¬ 1099511627776 < tt ∧ 10000 < (n : Int)) ∨ (¬ tt < 1 ∧ ¬ 1099511627776 < tt ∧ ¬ 10000 < (n : Int) ∧ tt < (n : Int)) := by
              have : ¬ ((1 ≤ tt ∧ tt ≤ 1099511627776) ∧ (n : Int) ≤ tt ∧ n ≤ 10000) := fun h => HO.out (by unfold OkP; omega)
              omega
            subst h1 h2
            rcases hb with s1 | ⟨s1, s2⟩ | ⟨s1, s2, s3⟩ | ⟨s1, s2, s3, s4⟩
            all_goals
              go_enter fV, Tryd.ntmps11
              go_wp2_with fail
              go_ret
              exact ⟨EF.out, (Vi.Grw.refl _).alloc _⟩
      · subst h1
        have h2b : (off != 0) = true := by simpa using h2
        by_cases h3 : off < 0
        · go_enter fV, Tryd.ntmps11
          go_wp2_with fail
          go_ret
          exact ⟨EF.out, (Vi.Grw.refl _).alloc _⟩
        · by_cases h4 : 4194304 < off
          · go_enter fV, Tryd.ntmps11
            go_wp2_with fail
            go_ret
            exact ⟨EF.out, (Vi.Grw.refl _).alloc _⟩
          · go_enter fV, Tryd.ntmps11
            go_wp2_with fail
            go_ret
            exact ⟨EF.out, (Vi.Grw.refl _).alloc _⟩
    · have h1b : (cd != 0) = true := by simpa using h1
      go_enter fV, Tryd.ntmps11
      go_wp2_with fail
      go_ret
      exact ⟨EF.out, (Vi.Grw.refl _).alloc _⟩
set_option maxRecDepth 100000 in
theorem ad22 : Ad Tryd.prog 12 Vi.vl1 where
  mixed := by kernel_rfl
  E := Vi.ekV
  fV := Tryd.func11
  eV := Tryd.call18
  eB := Tryd.call20
  val := fun x W => (Vi.rvalid18 x W).mono fun e w' ⟨h1, h2⟩ => ⟨h1, by rw [h2]; exact (Vi.Grw.refl _).alloc _⟩
  bef := Vi.before18
  t3 := Tryd.underlying3
  t4 := Tryd.underlying4
  t22 := rfl
  t23 := Tryd.underlying23
  t25 := rfl
  a3 := Tryd.isAgg3
  a4 := Tryd.isAgg4
  a22 := Tryd.isAgg22
  a23 := Tryd.isAgg23
  a25 := Tryd.isAgg25
  a41 := Tryd.isAgg41
  z3 := Tryd.sizeOf3
  z4 := Tryd.sizeOf4
  z22 := Tryd.sizeOf22
  z23 := Tryd.sizeOf23
  z25 := Tryd.sizeOf25
  z41 := Tryd.sizeOf41
  v25 := ⟨_, by rfl, Tryd.zeroValue25⟩
  i25 := by kernel_rfl
  hk := by decide
/-- The document's Valid tells whether an outcome is right. -/
theorem rvalid22 (w : World) (o : OuM) (a : Option Addr) (cap : Nat) (h : Vi.At Vi.vl1 12 w a o.ls) (hlen : o.ls.length ≤ 1172812402961) :
    Calls Tryd.prog 11 #[.agg #[.int .i64 o.kd, .int .i64 o.cd, .int .i64 o.of, .int .i64 o.tn, .int .i64 o.tt, .slice a o.ls.length cap]] w fun e w' => e = .returned (.bool (okO o)) ∧ Vi.Grw w w' := by
  obtain ⟨kd, cd, off, tn, tt, ls⟩ := o
  by_cases h9 : kd = 9
  · subst h9
    exact rvd_p ad22 w cd off tn tt ls a cap h hlen
  · exact rvalid22_no w kd cd off tn tt ls a cap hlen h9
end Go.Proofs.YtfhaiklfbnfdlaaDoor
