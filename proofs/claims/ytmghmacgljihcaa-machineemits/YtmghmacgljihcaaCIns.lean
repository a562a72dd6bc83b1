/- What is proved: Install answers as the chains say, and lays the version behind its key's chain or leaves the store as it is; the store lies in memory, no list is longer than memory lets it be. -/
import Derived.Test.YtmghmacgljihcaaCRead
import Derived.Deep.RegionLaw
import Derived.Deep.DeepCutAuto
namespace Go.Proofs.Ytmghmacgljihcaa
open Go.RowKit

/-- A store into a map as one step of a region that draws its order. -/
theorem step_upd {P : Program} {ops : Array Oper} {o : Oper} {a : Act} {w : World} {K : Act → World → Prop} {Q : Exit → Act → World → Prop} {E : Prop} (hg : o.guard = none) (m x v : Operand) (t : TypeId)
    (ho : o.op = Op.mapUpdate t m x v) (vm vx vv : Value) (hm : a.eval m = vm) (hx : a.eval x = vx) (hv : a.eval v = vv) (R : World → Prop)
    (hrun : ∃ w', (Instr.mapUpdate t vm vx vv).run P w = .ok () w' ∧ R w') (h : ∀ w', R w' → K (a.put o.dst undef) w') : if Region.wanted o (yielded ops a.tmps) = true then Oper.wp P o a w K Q else E := by
  have hw : Region.wanted o (yielded ops a.tmps) = true := by simp [Region.wanted, hg]
  rw [if_pos hw]
  obtain ⟨w', hr, hR⟩ := hrun
  unfold Oper.wp
  simp only [execOp, ho, Sem.run_bind, Sem.run_pure, Result.andThen_ok, hm, hx, hv, hr]
  exact h w' hR
theorem Sc.count {F : Nat → Prop} {w : World} {sb cb lb : Nat} {n : Int} {A : List En} {D : DataW Value} (h : Sc none F w sb cb lb n A D) (n' : Int) : Sc none F (w.setCell ⟨sb, 2, none⟩ (.int .i64 n')) sb cb lb n' A D := by
  have hs : Same (fun b => b = sb) w (w.setCell ⟨sb, 2, none⟩ (.int .i64 n')) := Same.setCell (S := fun b => b = sb) (Same.refl _ w) ⟨sb, 2, none⟩ (.inr rfl) _
  have hob := setCell_at h.obj 2 (.int .i64 n')
  have hne : ∀ {es clock}, w.heap[sb]? ≠ some (.map es clock) := fun e => by rw [h.obj] at e; cases e
  refine ⟨by simpa using hob, h.fs, h.fc, h.fl, h.ne, owns_same h.own (hs.block _ h.own.lt fun e => ?_), h.sz, fun k hk => ?_, h.apart, h.good, fun b hb => Nat.lt_of_lt_of_le (h.lt b hb) hs.size⟩
  · obtain ⟨es, clock, hm, _⟩ := h.own
    rw [e] at hm
    exact hne hm
  · rcases h.at_ k hk with h1 | ⟨h1, v, h2, h3, h4⟩
    · exact .inl h1
    · refine .inr ⟨h1, v, h2, OwnV.kept h3 hs (fun b hb e => ?_), h4⟩
      obtain ⟨_, cur, hc⟩ := OwnV.block h3 hb
      rw [e, h.obj] at hc
      cases hc
/-- What Install leaves. -/
def InsP (F : Nat → Prop) (w : World) (sb : Nat) (A' : List En) (w' : World) : Prop := ∃ F', St F' w' sb A' ∧ (∀ b, F' b → F b ∨ w.heap.size ≤ b) ∧ Same F w w'
theorem InsP.stays {F : Nat → Prop} {w w' : World} {sb : Nat} {A : List En} (h : St F w sb A) (k : Kept w w') : InsP F w sb A w' := ⟨F, h.on k, fun _ hb => .inl hb, k.to F⟩
/-- Ahead of the last steps. -/
structure Mid (F : Nat → Prop) (w W : World) (sb cb lb : Nat) (A : List En) (k : ByteArray) (x : Vn) (D DL : DataW Value) (v : Value) : Prop where
  sc : Sc none F W sb cb lb A.length A D
  lng : W.ownsMap Try.prog 9 unitElem lb (Go.Maps.size DL) DL
  lk : Lk (A ++ [⟨k, x⟩]) DL
  own : OwnV 0 W v (ch A k)
  fv : ∀ b, v.ownBlock = some b → F b
  hat : ch A k ≠ [] → ∀ zd, D.atKey (kl k) zd = .held v
  nil : ch A k = [] → v = .slice none 0 0
  sw : Same F w W
/-- What the append leaves. -/
structure Apd (F : Nat → Prop) (w W w4 : World) (A : List En) (k : ByteArray) (x : Vn) (v v4 : Value) : Prop where
  own : OwnV 0 w4 v4 (ch A k ++ [x])
  same : Same (fun b => v.ownBlock = some b) W w4
  loc : ∀ b, v4.ownBlock = some b → v.ownBlock = some b ∨ W.heap.size ≤ b
theorem Mid.append {F : Nat → Prop} {w W : World} {sb cb lb : Nat} {A : List En} {k : ByteArray} {x : Vn} {D DL : DataW Value} {v : Value} (h : Mid F w W sb cb lb A k x D DL v) (hn : A.length + 1 ≤ 5277655813324) {W' : World} (kk : Kept W W') {g : Nat} (hg : W'.heap[g]? = some (.cells #[.int .i64 x.c, .int .i64 x.w, .bool x.f, .string x.v] 75 (0, 0))) (ty : TypeId) :
    ∃ v' w', (Builtin.append_ #[94, 94] ty #[v, .slice (some ⟨g, 0, none⟩) 1 1]).run Try.prog W' = .ok v' w' ∧ Apd F w W w' A k x v v' := by
  obtain ⟨v', w', hr, r1, r2, r3⟩ := app_ver_at (base := 0) (g := g) x (h.own.on kk) (fun i y hy => by
    cases i with
    | zero =>
      simp only [List.getElem?_cons_zero, Option.some.injEq] at hy
      subst hy
      exact ⟨g, 0, rfl, lt_of_heap hg, (cell_of hg _).trans rfl, (cell_of hg _).trans rfl, (cell_of hg _).trans rfl, (cell_of hg _).trans rfl⟩
    | succ i => simp at hy) (Nat.le_trans (Nat.succ_le_succ (ch_length_le A k)) hn) (Nat.zero_le _) ty
  exact ⟨v', w', hr, r1, (kk.to _).trans' r2, fun b hb => (r3 b hb).imp id fun hle => Nat.le_trans kk.size hle⟩
theorem Mid.upd {F : Nat → Prop} {w W w4 : World} {sb cb lb : Nat} {A : List En} {k : ByteArray} {x : Vn} {D DL : DataW Value} {v v4 : Value} (h : Mid F w W sb cb lb A k x D DL v) (hk : k.size ≤ maxLen) (hn : A.length + 1 ≤ 5277655813324) (h0 : code A k x = 0) (ap : Apd F w W w4 A k x v v4) {W5 : World} (kk : Kept w4 W5) :
    ∃ w6, (Instr.mapUpdate 89 (.map (some cb)) (.string k) v4).run Try.prog W5 = .ok () w6 ∧ w6.cell? ⟨sb, 2, none⟩ = some (.int .i64 A.length) ∧ w6.frozen? ⟨sb, 2, none⟩ = false ∧ sb < w6.heap.size ∧ InsP F w sb (A ++ [⟨k, x⟩]) (w6.setCell ⟨sb, 2, none⟩ (.int .i64 ((A.length : Int) + 1))) := by
  have hrow : ∀ (k' : ByteArray) v' b, some k.toList ≠ some k'.toList → (∀ zd, D.atKey (kl k') zd = .held v') → v'.ownBlock = some b → v.ownBlock ≠ some b := fun k' v' b hne hv' hb hb' => by
    by_cases he : ch A k = []
    · rw [h.nil he] at hb'
      simp [Value.ownBlock] at hb'
    · exact h.sc.apart k k' v v' b (by simp) (by simp) (fun e => hne (by rw [e])) (h.hat he) hv' hb' hb
  have hvm : ∀ b, v.ownBlock = some b → b ≠ sb ∧ b ≠ cb ∧ b ≠ lb := fun b hb => by
    obtain ⟨_, cur, hc⟩ := OwnV.block h.own hb
    refine ⟨fun e => ?_, fun e => ?_, fun e => ?_⟩
    · rw [e, h.sc.obj] at hc; cases hc
    · obtain ⟨es, clock, hm, _⟩ := h.sc.own
      rw [e, hm] at hc; cases hc
    · obtain ⟨es, clock, hm, _⟩ := h.lng
      rw [e, hm] at hc; cases hc
  have s5 : Same (fun b => v.ownBlock = some b) W W5 := ap.same.trans' (kk.to _)
  have hsc : Sc (some k.toList) F W5 sb cb lb A.length A D := (h.sc.but k).kept s5 (fun e => (hvm _ e).1 rfl) (fun e => (hvm _ e).2.1 rfl) hrow
  have o4 := ap.own.on kk
  have hch : ch (A ++ [(⟨k, x⟩ : En)]) k = ch A k ++ [x] := by rw [ch_append, ch_one_same rfl]
  have hg : Good (A ++ [(⟨k, x⟩ : En)]) := by
    have := h.sc.good.inst k x
    unfold Ytmghmacgljihcaa.inst at this
    rwa [if_pos h0] at this
  have hsl := h.sc.size_le
  obtain ⟨w6, hrun, q1, q2, q3⟩ := hsc.put (A' := A ++ [⟨k, x⟩]) (F' := fun b => F b ∨ v4.ownBlock = some b) hk (by unfold maxLen; omega) hg
    (fun k' hne => by rw [ch_append, ch_one_other (fun e => hne e.symm), List.append_nil]) (by rw [hch]; simp) (by rw [hch]; exact o4) (fun b hb => .inl hb) (fun b hb => .inr hb)
    (fun b hb => by
      rcases hb with hb | hb
      · exact hsc.lt b hb
      · obtain ⟨_, cur, hc⟩ := OwnV.block o4 hb
        exact lt_of_heap hc)
    (fun k' v' g hne hv' hb hb' => by
      rcases ap.loc g hb with hl | hl
      · exact hrow k' v' g (fun e => hne (Option.some.inj e).symm) hv' hb' hl
      · rcases h.sc.at_ k' (by simp) with ⟨_, hh⟩ | ⟨_, v2, h2, h3, _⟩
        · rw [Go.Maps.has_true_of_atKey hv'] at hh; cases hh
        · have e := (hv' .nil).symm.trans (h2 .nil)
          simp only [DataW.held.injEq] at e
          subst e
          obtain ⟨_, cur, hc⟩ := OwnV.block h3 hb'
          have := lt_of_heap hc
          omega)
  obtain ⟨⟨-, -, c2⟩, f2, hb⟩ := q1.cells
  have hlen : ((A ++ [(⟨k, x⟩ : En)]).length : Int) = (A.length : Int) + 1 := by simp
  have q4 := q1.count ((A ++ [(⟨k, x⟩ : En)]).length : Int)
  rw [hlen] at q4
  have s6 : Same F w (w6.setCell ⟨sb, 2, none⟩ (.int .i64 ((A.length : Int) + 1))) :=
    Same.setCell (((h.sw.trans s5 (fun i _ hi => h.fv i hi)).trans q2 (fun i _ hi => by rw [hi]; exact h.sc.fc))) ⟨sb, 2, none⟩ (.inr h.sc.fs) _
  refine ⟨w6, hrun, c2, f2, hb, _, ⟨cb, lb, _, DL, by rw [hlen]; exact q4, ?_, h.lk⟩, fun b hb => ?_, s6⟩
  · refine owns_same h.lng ?_
    have e1 := s5.block lb h.lng.lt (fun e => (hvm _ e).2.2 rfl)
    have e2 := q2.block lb (Nat.lt_of_lt_of_le h.lng.lt s5.size) (fun e => h.sc.ne e.symm)
    have e3 : (w6.setCell ⟨sb, 2, none⟩ (.int .i64 ((A.length : Int) + 1))).heap[lb]? = w6.heap[lb]? := Below.heap_setCell _ _ _ _ (fun e => by
      obtain ⟨es, clock, hm, _⟩ := h.lng
      have ho := h.sc.obj
      rw [show sb = lb from e.symm, hm] at ho
      cases ho)
    exact e3.trans (e2.trans e1)
  · rcases hb with hb | hb
    · exact .inl hb
    · rcases ap.loc b hb with hl | hl
      · exact .inl (h.fv b hl)
      · exact .inr (Nat.le_trans h.sw.size hl)

theorem empty_false {k : ByteArray} (h : k.size ≠ 0) : k.toList.isEmpty = false := by
  cases e : k.toList.isEmpty
  · rfl
  · exact absurd ((empty_iff k).1 e) h
theorem Lk.first {A : List En} {DL : DataW Value} (h : Lk A DL) {k : ByteArray} (hk : ch A k = []) (x : Vn) : Lk (A ++ [⟨k, x⟩]) DL where
  some_ := fun k' hh => by
    have := h.some_ k' hh
    rw [ch_append]
    intro e
    exact this (List.append_eq_nil_iff.1 e).1
  long := fun k' hl => by
    refine h.long k' ?_
    by_cases e : k.toList = k'.toList
    · rw [ch_append, ← ch_congr e A, hk, ch_one_same e] at hl
      simp at hl
    · rwa [ch_append, ch_one_other e, List.append_nil] at hl
theorem Lk.more {A : List En} {DL : DataW Value} (h : Lk A DL) {k : ByteArray} (hD : Go.Maps.IsMap DL) (x : Vn) : Lk (A ++ [⟨k, x⟩]) (DL.put (kl k) (.agg [])) where
  some_ := fun k' hh => by
    by_cases e : k.toList = k'.toList
    · rw [ch_append, ch_one_same e]; simp
    · rw [Go.Maps.has_put_other (kl_ne fun e' => e e'.symm)] at hh
      rw [ch_append, ch_one_other e, List.append_nil]
      exact h.some_ k' hh
  long := fun k' hl => by
    by_cases e : k.toList = k'.toList
    · rw [← kl_eq e]
      exact Go.Maps.has_put_same hD (kl_key k) _
    · rw [Go.Maps.has_put_other (kl_ne fun e' => e e'.symm)]
      rw [ch_append, ch_one_other e, List.append_nil] at hl
      exact h.long k' hl
set_option maxRecDepth 100000 in
set_option maxHeartbeats 3200000 in
theorem install13 {F : Nat → Prop} {w : World} {sb : Nat} {A : List En} (h : St F w sb A) (k : ByteArray) (hk : k.size ≤ maxLen) (x : Vn) (hn : A.length + 1 ≤ 5277655813324) :
    Calls Try.prog 52 #[.pointer (some ⟨sb, 0, none⟩), .string k, verV x] w fun e w' => e = .returned (.int .i64 (code A k x)) ∧ InsP F w sb (inst A k x) w' := by
  have HK0 : Hid _ := (Same.refl (fun _ => False) w).alloc (.cells #[.int .i64 x.c, .int .i64 x.w, .bool x.f, .string x.v] 75 (0, 0))
  have HG : Hid _ := heap_new w (.cells #[.int .i64 x.c, .int .i64 x.w, .bool x.f, .string x.v] 75 (0, 0))
  have HS : Hid _ := h
  have HN : Hid _ := hn
  clear h
  have HKL : Hid _ := hk
  have hks : (k.size : Int) ≤ 9223372036854775807 := by unfold maxLen at hk; omega
  by_cases h1 : rightK k = false
  · have hc : code A k x = 130 := by unfold code; rw [if_pos h1]
    have hi : inst A k x = A := by unfold Ytmghmacgljihcaa.inst; rw [if_neg (by rw [hc]; decide)]
    rw [hc, hi]
    have h1' : ¬ (0 < k.size ∧ k.size ≤ 8) := by simpa [rightK] using h1
    clear hc hi h1
    by_cases h0 : k.size = 0
    · have e0 : k.toList.isEmpty = true := (empty_iff k).2 h0
      clear h0 h1'
      go_enter Try.func52, Try.ntmps52
      go_wp2_with fail
      go_ret
      exact ⟨rfl, InsP.stays HS.out HK0.out⟩
    · have e0 : k.toList.isEmpty = false := empty_false h0
      have e1 : (8 : Int) < (k.size : Int) := by omega
      have e2 : decide ((8 : Int) < (k.size : Int)) = true := decide_eq_true e1
      clear h0 h1'
      go_enter Try.func52, Try.ntmps52
      go_wp2_with fail
      go_ret
      exact ⟨rfl, InsP.stays HS.out HK0.out⟩
  · have h1' : 0 < k.size ∧ k.size ≤ 8 := by simpa [rightK] using h1
    have e0 : k.toList.isEmpty = false := empty_false (by omega)
    have e1 : ¬ (8 : Int) < (k.size : Int) := by omega
    have e2 : decide ((8 : Int) < (k.size : Int)) = false := decide_eq_false e1
    have HR : Hid (∀ W, _) := fun W => right_any x W
    have H1 : Hid (rightK k = true) := by
      show rightK k = true
      simpa using h1
    clear h1'
    generalize hcd : code A k x = cd
    generalize hin : inst A k x = B
    have HCD : Hid _ := hcd
    have HIN : Hid _ := hin
    clear hcd hin
    go_enter Try.func52, Try.ntmps52
    go_upto_region 3 with fail
    generalize w.alloc (.cells #[.int .i64 x.c, .int .i64 x.w, .bool x.f, .string x.v] 75 (0, 0)) = W at HK0 HG ⊢
    generalize hgg : w.heap.size = g at HG ⊢
    obtain ⟨⟨x0, x1, x2, x3⟩, -⟩ := ver_obj HG.out
    by_cases h2 : rightV x = false
    · have hc : code A k x = 131 := by unfold code; rw [if_neg h1, if_pos h2]
      have hi : inst A k x = A := by unfold Ytmghmacgljihcaa.inst; rw [if_neg (by rw [hc]; decide)]
      have EC : Hid (cd = 131) := (show code A k x = cd from HCD.out).symm.trans hc
      have EB : Hid (B = A) := (show inst A k x = B from HIN.out).symm.trans hi
      rw [h2] at HR
      clear hc hi h1 h2 H1
      go_wp2_with fail
      refine Calls.mono (HR.out _) ?_
      rintro r w1 ⟨rfl, k1⟩
      go_wp2_with fail
      go_ret
      exact ⟨by rw [show cd = 131 from EC.out]; rfl, by rw [show B = A from EB.out]; exact InsP.stays HS.out (Same.trans' HK0.out k1)⟩
    · have h2' : rightV x = true := by simpa using h2
      rw [h2'] at HR
      have H2 : Hid _ := h2'
      clear h1 h2 h2'
      go_wp2_with fail
      refine Calls.mono (HR.out _) ?_
      rintro r w1 ⟨rfl, k1⟩
      have kw1 : Kept w w1 := Same.trans' HK0.out k1
      obtain ⟨cb, lb, D, DL, hsc, hlng, hlk⟩ := St.on HS.out kw1
      obtain ⟨⟨c0, c1, c2⟩, f2, hb⟩ := hsc.cells
      obtain ⟨v, hrun, ho, hfv, hat, hnil⟩ := hsc.look hk (by simp)
      have HG1 : Hid (w1.heap[g]? = _) := ((k1.block g (lt_of_heap HG.out) (fun e => e)).trans HG.out)
      obtain ⟨⟨y0, y1, y2, y3⟩, -⟩ := ver_obj HG1.out
      clear x0 x1 x2 x3
      have SK : Hid _ := kw1
      clear k1 HR hk hks
      by_cases hl : ch A k = []
      · obtain rfl := hnil hl
        have hz : code A k x = 0 := by
          unfold code
          rw [if_neg (by rw [show rightK k = true from H1.out]; decide), if_neg (by rw [show rightV x = true from H2.out]; decide), hl]
          rfl
        have MID : Hid (Mid F w w1 sb cb lb A k x D DL _) := ⟨hsc, hlng, hlk.first hl x, ho, hfv, hat, hnil, kw1.to F⟩
        have HZ : Hid _ := hz
        have EC : Hid (cd = 0) := (show code A k x = cd from HCD.out).symm.trans hz
        have EB : Hid (B = A ++ [⟨k, x⟩]) := (show inst A k x = B from HIN.out).symm.trans (by unfold Ytmghmacgljihcaa.inst; rw [if_pos hz])
        have HAP : Hid (∀ W', Kept w1 W' → ∀ g', W'.heap[g']? = _ → ∀ ty, _) := fun W' k' g' hg' ty => Mid.append MID.out HN.out k' hg' ty
        have HUP : Hid (∀ w4 v4, Apd F w w1 w4 A k x _ v4 → ∀ W5, Kept w4 W5 → _) := fun w4 v4 ap W5 k5 => Mid.upd MID.out HKL.out HN.out HZ.out ap k5
        have HC4 : Hid (∀ w4 v4, Apd F w w1 w4 A k x _ v4 → w4.cell? ⟨sb, 0, none⟩ = some (.map (some cb)) ∧ sb < w4.heap.size ∧ ∃ a n c, v4 = .slice a n c) := fun w4 v4 ap => by
          obtain ⟨a4, c4, e4, -⟩ := OwnV.vers ap.own
          refine ⟨(ap.same.cell (p := ⟨sb, 0, none⟩) hb (fun e => ?_)).trans c0, Nat.lt_of_lt_of_le hb ap.same.size, a4, _, c4, e4⟩
          obtain ⟨_, cur, hc⟩ := OwnV.block ho e
          rw [hsc.obj] at hc
          cases hc
        have hw1 : (A.length : Int) + 1 ≤ 9223372036854775807 := by omega
        clear hsc hlng hlk ho hfv hat hnil hz MID
        go_upto_region 10 with fail
        go_region_law ((refine step_app rfl (.tmp 47) (.tmp 49) 94 rfl _ (.slice (some ⟨w1.heap.size, 0, none⟩) 1 1) rfl rfl _ (HAP.out _ (by (repeat (first | assumption | exact Same.refl _ _ | apply Same.alloc | apply Same.drew | apply Same.drewN)); done) _ (by exact heap_new _ _)) ?_); rintro v4 w4 ap; obtain ⟨c40, b4, a4, n4, cp4, rfl⟩ := HC4.out _ _ ap; obtain ⟨w6, hup, c62, f62, b6, ip⟩ := HUP.out _ _ ap _ (Same.refl _ _); have IP : Hid _ := ip; clear ip ap)
        all_goals
          go_wp2_with fail
          go_ret
          exact ⟨by rw [show cd = 0 from EC.out]; rfl, by rw [show B = _ from EB.out]; exact IP.out⟩
      · obtain ⟨a, cap, rfl, hv, -, -, -, -⟩ := OwnV.vers ho
        obtain ⟨l', y, el⟩ : ∃ l' y, ch A k = l' ++ [y] := ⟨_, _, (List.dropLast_concat_getLast hl).symm⟩
        have hst := stale_last (by rw [← el]; exact hsc.good k) x
        rw [← el] at hst
        have hm1 : (ch A k).length = l'.length + 1 := by rw [el]; simp
        obtain ⟨b, off, rfl, hb2, z0, z1, z2, z3⟩ := hv l'.length y (by rw [el]; simp)
        have HC : Hid (∀ W, _) := fun W => compare_any x y W
        have hcl := cmpV_le x y
        generalize cmpV x y = cv at HC hcl
        have HSC : Hid _ := hsc
        have HLNG : Hid _ := hlng
        have HLK : Hid _ := hlk
        obtain ⟨N, eN⟩ : ∃ N, N = (ch A k).length := ⟨_, rfl⟩
        rw [← eN] at hrun hm1
        have HFV : Hid (∀ b', (Value.slice (some ⟨b, off, none⟩) N cap).ownBlock = some b' → F b') := by
          show ∀ b', _
          rw [eN]
          exact hfv
        have HAT : Hid (ch A k ≠ [] → ∀ zd, D.atKey (kl k) zd = .held (.slice (some ⟨b, off, none⟩) N cap)) := by
          show ch A k ≠ [] → _
          rw [eN]
          exact hat
        have HNI : Hid (ch A k = [] → Value.slice (some ⟨b, off, none⟩) N cap = .slice none 0 0) := by
          show ch A k = [] → _
          rw [eN]
          exact hnil
        have HO : Hid (OwnV 0 w1 (.slice (some ⟨b, off, none⟩) N cap) (ch A k)) := by
          show OwnV 0 w1 _ _
          rw [eN]
          exact ho
        have hgl : g < w1.heap.size := lt_of_heap HG1.out
        generalize l'.length = m at hm1 z0 z1 z2 z3
        have HHL : Hid _ := hl
        have hN : N ≤ A.length := by rw [eN]; exact ch_length_le A k
        have d0 : (0 : Int) < (N : Int) := by omega
        have d1 : decide ((0 : Int) < (N : Int)) = true := decide_eq_true d0
        have d2 : (m : Int) < (N : Int) := by omega
        have d3 : decide ((m : Int) < (N : Int)) = true := decide_eq_true d2
        have d4 : (N : Int) ≤ 9223372036854775807 := by omega
        have d5 : 0 < N := by omega
        have d6 : (N : Int) - 1 = (m : Int) := by omega
        have d7 : m < N := by omega
        have d8 : IntKind.i64.wrap ((N : Int) - 1) = (m : Int) := by rw [IntKind.wrap_i64]; omega
        have d9 : (0 : Int) ≤ (m : Int) := by omega
        clear d6
        clear hN hsc hlng hlk hfv hat hnil ho hv hm1 el hl kw1 eN
        have HBX : Hid (∀ W', Kept w1 W' → Kept w1 W' ∧ W'.cell? ⟨g, 0, none⟩ = some (.int .i64 x.c) ∧ W'.cell? ⟨g, 1, none⟩ = some (.int .i64 x.w) ∧ W'.cell? ⟨g, 2, none⟩ = some (.bool x.f) ∧ W'.cell? ⟨g, 3, none⟩ = some (.string x.v) ∧ W'.cell? ⟨b, off + m * 4, none⟩ = some (.int .i64 y.c) ∧ W'.cell? ⟨b, off + m * 4 + 1, none⟩ = some (.int .i64 y.w) ∧ W'.cell? ⟨b, off + m * 4 + 2, none⟩ = some (.bool y.f) ∧ W'.cell? ⟨b, off + m * 4 + 3, none⟩ = some (.string y.v)) := fun W' k' =>
          ⟨k', (k'.cell (p := ⟨g, 0, none⟩) hgl (fun e => e)).trans y0, (k'.cell (p := ⟨g, 1, none⟩) hgl (fun e => e)).trans y1, (k'.cell (p := ⟨g, 2, none⟩) hgl (fun e => e)).trans y2, (k'.cell (p := ⟨g, 3, none⟩) hgl (fun e => e)).trans y3, (k'.cell (p := ⟨b, _, none⟩) hb2 (fun e => e)).trans z0, (k'.cell (p := ⟨b, _, none⟩) hb2 (fun e => e)).trans z1, (k'.cell (p := ⟨b, _, none⟩) hb2 (fun e => e)).trans z2, (k'.cell (p := ⟨b, _, none⟩) hb2 (fun e => e)).trans z3⟩
        have HST : Hid _ := hst
        have HCL : Hid _ := hcl
        clear hst hcl
        go_upto_region 7 with fail
        go_cut [35] (fun s35 wx => s35 = .bool (decide (cv ≤ 0)) ∧ Kept w1 wx)
        case first =>
          go_region_held3 (fun W' => Kept w1 W' ∧ W'.cell? ⟨g, 0, none⟩ = some (.int .i64 x.c) ∧ W'.cell? ⟨g, 1, none⟩ = some (.int .i64 x.w) ∧ W'.cell? ⟨g, 2, none⟩ = some (.bool x.f) ∧ W'.cell? ⟨g, 3, none⟩ = some (.string x.v) ∧ W'.cell? ⟨b, off + m * 4, none⟩ = some (.int .i64 y.c) ∧ W'.cell? ⟨b, off + m * 4 + 1, none⟩ = some (.int .i64 y.w) ∧ W'.cell? ⟨b, off + m * 4 + 2, none⟩ = some (.bool y.f) ∧ W'.cell? ⟨b, off + m * 4 + 3, none⟩ = some (.string y.v))
            (exact HBX.out _ (by (repeat (first | exact Same.refl _ _ | apply Same.alloc | apply Same.drew | apply Same.drewN | refine Same.trans' ?_ kq)); done))
            ((go_at_call 58; refine Calls.mono (HC.out _) ?_; rintro r w2 ⟨rfl, kq⟩))
          all_goals
            go_wp2_with fail
            go_meet
            exact ⟨rfl, (by (repeat (first | exact Same.refl _ _ | apply Same.alloc | apply Same.drew | apply Same.drewN | refine Same.trans' ?_ kq)); done)⟩
        case rest =>
          obtain ⟨rfl, k2⟩ := hcut
          rw [show decide (cv ≤ 0) = !gt x y from HCL.out]
          rename World => wx
          cases hgt : gt x y
          · have hc : code A k x = 132 := by
              unfold code
              rw [if_neg (by rw [show rightK k = true from H1.out]; decide), if_neg (by rw [show rightV x = true from H2.out]; decide), if_pos (by rw [show stale (ch A k) x = !gt x y from HST.out, hgt]; rfl)]
            have hi : inst A k x = A := by unfold Ytmghmacgljihcaa.inst; rw [if_neg (by rw [hc]; decide)]
            have EC : Hid (cd = 132) := (show code A k x = cd from HCD.out).symm.trans hc
            have EB : Hid (B = A) := (show inst A k x = B from HIN.out).symm.trans hi
            have K2 : Hid _ := k2
            clear hc hi hgt k2
            go_wp2_with fail
            go_ret
            exact ⟨by rw [show cd = 132 from EC.out]; rfl, by rw [show B = A from EB.out]; exact InsP.stays HS.out (Same.trans' SK.out K2.out)⟩
          · have hz : code A k x = 0 := by
              unfold code
              rw [if_neg (by rw [show rightK k = true from H1.out]; decide), if_neg (by rw [show rightV x = true from H2.out]; decide), if_neg (by rw [show stale (ch A k) x = !gt x y from HST.out, hgt]; decide)]
            have k02 : Kept w wx := Same.trans' SK.out k2
            have hsc2 := Sc.on HSC.out k2
            have hlng2 : wx.ownsMap Try.prog 9 unitElem lb (Go.Maps.size DL) DL := owns_same HLNG.out (k2.block _ (World.ownsMap.lt HLNG.out) (fun e => e))
            have ho2 := OwnV.on HO.out k2
            have hlb2 := hlng2.lt
            have hszl : Go.Maps.size DL < maxLen := by
              have := Lk.size_le HLK.out hlng2
              unfold maxLen
              omega
            obtain ⟨⟨-, c12, -⟩, -, hbx⟩ := hsc2.cells
            have HSC2 : Hid _ := hsc2
            have HO2 : Hid _ := ho2
            have HLB : Hid _ := hlb2
            have K02 : Hid _ := k02
            have HGX : Hid (wx.heap[g]? = _) := ((k2.block g (lt_of_heap HG1.out) (fun e => e)).trans HG1.out)
            have HZZ : Hid _ := hz
            clear hsc2 ho2 hlb2 k02 k2 hz hgt
            go_upto_region 10 with (at_mapUpdate; refine wpList_mapUpdate_own _ rfl _ _ _ 90 rfl 9 117 Try.keyedS Try.underlying90 unitElem lb _ DL rfl hlng2 hszl _ _ _ rfl rfl (key_of HKL.out) (.agg []) [] unitElem_mk ?_; intro w3 hl3 hg3)
            have s3 : Same (fun b => b = lb) wx w3 := Same.of_grown hg3 (fun j e => by cases e; rfl)
            have hmp : ∀ {o : Obj}, wx.heap[lb]? = some o → ∃ es clock, o = .map es clock := fun ho => by
              obtain ⟨es, clock, hm, _⟩ := hlng2
              rw [hm] at ho
              cases ho
              exact ⟨_, _, rfl⟩
            have nsb : sb ≠ lb := fun e => by
              have hh := Sc.obj HSC2.out
              rw [e] at hh
              obtain ⟨_, _, e'⟩ := hmp hh
              cases e'
            have nrow : ∀ (v' : Value) (l : List Vn) b', OwnV 0 wx v' l → v'.ownBlock = some b' → b' ≠ lb := fun v' l b' hv' hb' e => by
              obtain ⟨_, cur, hc⟩ := OwnV.block hv' hb'
              rw [e] at hc
              obtain ⟨_, _, e'⟩ := hmp hc
              cases e'
            have hsc : Sc none F w3 sb cb lb A.length A D := Sc.kept HSC2.out s3 nsb (Sc.ne HSC2.out) (fun k' v' b' hx' hv' hb' => by
              rcases Sc.at_ HSC2.out k' hx' with ⟨_, hh⟩ | ⟨_, v2, h2, h3, _⟩
              · rw [Go.Maps.has_true_of_atKey hv'] at hh; cases hh
              · have e := (hv' .nil).symm.trans (h2 .nil)
                simp only [DataW.held.injEq] at e
                subst e
                exact nrow _ _ _ h3 hb')
            have ho := OwnV.kept HO2.out s3 (fun b' hb' => nrow _ _ _ HO2.out hb')
            have hz : code A k x = 0 := HZZ.out
            have hmi : Go.Maps.IsMap DL := hlng2.isMap
            have MID : Hid (Mid F w w3 sb cb lb A k x D (DL.put (kl k) (.agg [])) _) := ⟨hsc, tight hl3, Lk.more HLK.out hmi x, ho, HFV.out, HAT.out, HNI.out, (Same.mono (S' := F) K02.out (fun _ _ f => f.elim)).trans s3 (fun i _ hi => by rw [hi]; exact Sc.fl HSC2.out)⟩
            obtain ⟨⟨c0', -⟩, -, hb'⟩ := hsc.cells
            have ng : g ≠ lb := fun e => by
              have hh := HGX.out
              rw [e] at hh
              obtain ⟨_, _, e'⟩ := hmp hh
              cases e'
            obtain ⟨⟨u0, u1, u2, u3⟩, -⟩ := ver_obj ((s3.block g (lt_of_heap HGX.out) ng).trans HGX.out)
            clear y0 y1 y2 y3 hmp nsb nrow hmi ng hlng2 hl3 hg3 s3 c12 hbx z0 z1 z2 z3 c0 c1 c2 f2 hb
            rename w3.cell? ⟨sb, 0, none⟩ = _ => c0
            rename sb < w3.heap.size => hb
            have HZ : Hid _ := hz
            have EC : Hid (cd = 0) := (show code A k x = cd from HCD.out).symm.trans hz
            have EB : Hid (B = A ++ [⟨k, x⟩]) := (show inst A k x = B from HIN.out).symm.trans (by unfold Ytmghmacgljihcaa.inst; rw [if_pos hz])
            have HAP : Hid (∀ W', Kept w3 W' → ∀ g', W'.heap[g']? = _ → ∀ ty, _) := fun W' k' g' hg' ty => Mid.append MID.out HN.out k' hg' ty
            have HUP : Hid (∀ w4 v4, Apd F w w3 w4 A k x _ v4 → ∀ W5, Kept w4 W5 → _) := fun w4 v4 ap W5 k5 => Mid.upd MID.out HKL.out HN.out HZ.out ap k5
            have HC4 : Hid (∀ w4 v4, Apd F w w3 w4 A k x _ v4 → w4.cell? ⟨sb, 0, none⟩ = some (.map (some cb)) ∧ sb < w4.heap.size ∧ ∃ a n c, v4 = .slice a n c) := fun w4 v4 ap => by
              obtain ⟨a4, c4, e4, -⟩ := OwnV.vers ap.own
              refine ⟨(ap.same.cell (p := ⟨sb, 0, none⟩) hb (fun e => ?_)).trans c0, Nat.lt_of_lt_of_le hb ap.same.size, a4, _, c4, e4⟩
              obtain ⟨_, cur, hc⟩ := OwnV.block ho e
              rw [hsc.obj] at hc
              cases hc
            have hw3 : (A.length : Int) + 1 ≤ 9223372036854775807 := by omega
            clear hsc ho hz MID
            go_region_law ((refine step_app rfl (.tmp 47) (.tmp 49) 94 rfl _ (.slice (some ⟨w3.heap.size, 0, none⟩) 1 1) rfl rfl _ (HAP.out _ (by (repeat (first | assumption | exact Same.refl _ _ | apply Same.alloc | apply Same.drew | apply Same.drewN)); done) _ (by exact heap_new _ _)) ?_); rintro v4 w4 ap; obtain ⟨c40, b4, a4, n4, cp4, rfl⟩ := HC4.out _ _ ap; obtain ⟨w6, hup, c62, f62, b6, ip⟩ := HUP.out _ _ ap _ (Same.refl _ _); have IP : Hid _ := ip; clear ip ap)
            all_goals
              go_wp2_with fail
              go_ret
              exact ⟨by rw [show cd = 0 from EC.out]; rfl, by rw [show B = _ from EB.out]; exact IP.out⟩
end Go.Proofs.Ytmghmacgljihcaa
