/- What is proved: operate lays one operation more into a session's active transaction, with its time; the machine lies in memory, the transaction has at most 16 operations. -/
import Derived.Test.YtmghmacgljihcaaKOpr
import Derived.Deep.DeepCutAuto
namespace Go.Proofs.Ytmghmacgljihcaa
open Go.RowKit

theorem op_at {w : World} {g : Nat} {o : OpM} (h : w.heap[g]? = some (.cells #[.int .i64 o.kind, .string o.key, .bool o.found, .string o.value] 84 (0, 0))) : OpsAt w (some ⟨g, 0, none⟩) [o] := fun i y hy => by
  cases i with
  | zero =>
    simp only [List.getElem?_cons_zero, Option.some.injEq] at hy
    subst hy
    exact ⟨g, 0, rfl, lt_of_heap h, (cell_of h _).trans rfl, (cell_of h _).trans rfl, (cell_of h _).trans rfl, (cell_of h _).trans rfl⟩
  | succ i => simp at hy
set_option maxRecDepth 100000 in
set_option maxHeartbeats 3200000 in
theorem operate15 {tg : Nat → Tg} {w : World} {mb sb vb : Nat} {lv : Value} {P : Nat → Option Nat} {L : List (TxM × Value)} {M : Mm} (h : Mi tg w mb sb vb lv P L M) (hv : Inv M) {i : Nat} {a : Ac} (ha : (M.at i).act = some a) (o : OpM) :
    Calls Try.prog 43 #[.pointer (some ⟨mb, 0, none⟩), .int .i64 (i : Int), .agg #[.int .i64 o.kind, .string o.key, .bool o.found, .string o.value]] w fun e w' => e = .returned (.tuple #[]) ∧ MiP tg w mb sb vb (operM M i a o) w' := by
  have hi := at_lt ha
  obtain ⟨g, ov, tv, hp, hx⟩ := h.act i a ha
  have hac := hv.ac i a ha
  have HF : Hid (∀ wx ov' tv', Op1 tg w wx i g a.t (a.t.ops ++ [o]) (a.ts ++ [M.clock]) ov' tv' → MiP tg w mb sb vb (operM M i a o) wx) := fun wx ov' tv' h1 => Op1.fin h hi hp (t := (addO a M.clock o).t) (ts := (addO a M.clock o).ts) ⟨h1.obj, h1.own, h1.loc, h1.tms, h1.tt, h1.same, h1.tgx⟩
  have K0 : Hid (Kept w (w.alloc (.cells #[.int .i64 o.kind, .string o.key, .bool o.found, .string o.value] 84 (0, 0)))) := (Same.refl _ _).alloc _
  have HG0 : Hid _ := heap_new w (.cells #[.int .i64 o.kind, .string o.key, .bool o.found, .string o.value] 84 (0, 0))
  have HM : Hid (Mi tg w mb sb vb lv P L M) := h
  have HX : Hid (TxAt tg w i g a ov tv) := hx
  have hn := hac.n
  have hts := hac.ts
  have hs1 := hv.s1
  obtain ⟨oa, ocp, eov, -⟩ := OwnO.ops hx.ops
  obtain ⟨ta, tcp, etv, -⟩ := row_shape hx.tms
  clear h hv ha hx hac
  obtain ⟨n, en⟩ : ∃ n, n = M.ses.length := ⟨_, rfl⟩
  rw [← en] at hi hs1
  have EN : Hid (n = M.ses.length) := en
  have hi2 : (i : Int) < (n : Int) := by omega
  have hi3 : decide ((i : Int) < (n : Int)) = true := decide_eq_true hi2
  have HPP : Hid (P i = some g) := hp
  have HOV : Hid _ := eov
  have HTV : Hid _ := etv
  have HTS : Hid (a.ts.length = a.t.ops.length) := hts
  clear en hp eov etv hts
  go_enter Try.func43, Try.ntmps43
  go_upto_region 1 with fail
  generalize w.alloc (.cells #[.int .i64 o.kind, .string o.key, .bool o.found, .string o.value] 84 (0, 0)) = W at *
  have hws : w.heap.size ≤ W.heap.size := Same.size K0.out
  generalize w.heap.size = gx at HG0 ⊢
  obtain ⟨hmb, ⟨-, c1, -, c3, -, -⟩, -⟩ := Mi.cells (Mi.on HM.out K0.out)
  obtain ⟨hsb, -, d1, -⟩ := Mi.sess (Mi.on HM.out K0.out) (i := i) (by rw [← EN.out]; exact hi)
  rw [HPP.out] at d1
  simp only [Option.map_some] at d1
  rw [← EN.out] at c3
  have O1 : Hid (Op1 tg w W i g a.t a.t.ops a.ts ov tv) := (Op1.start HX.out).on K0.out
  have hgx := lt_of_heap HG0.out
  have x0 : W.cell? ⟨gx, 0, none⟩ = some (.int .i64 o.kind) := (cell_of HG0.out 0).trans rfl
  have x1 : W.cell? ⟨gx, 1, none⟩ = some (.string o.key) := (cell_of HG0.out 1).trans rfl
  have x2 : W.cell? ⟨gx, 2, none⟩ = some (.bool o.found) := (cell_of HG0.out 2).trans rfl
  have x3 : W.cell? ⟨gx, 3, none⟩ = some (.string o.value) := (cell_of HG0.out 3).trans rfl
  have HAP : Hid (∀ W', Kept W W' → ∀ g', W'.heap[g']? = some (.cells #[.int .i64 o.kind, .string o.key, .bool o.found, .string o.value] 84 (0, 0)) → ∀ ty, ∃ v' w', (Builtin.append_ #[49, 49] ty #[ov, .slice (some ⟨g', 0, none⟩) 1 1]).run Try.prog W' = .ok v' w' ∧ (OwnO 0 w' v' (a.t.ops ++ [o]) ∧ Same (fun k => ov.ownBlock = some k) W' w' ∧ ∀ k, v'.ownBlock = some k → ov.ownBlock = some k ∨ W'.heap.size ≤ k)) := fun W' k' g' hg' ty =>
    app_op o (OwnO.on O1.out.own k') (op_at hg') (by omega) (Nat.zero_le _) ty
  have HFI : Hid (∀ W' w4 v4, Kept W W' → OwnO 0 w4 v4 (a.t.ops ++ [o]) → Same (fun b => ov.ownBlock = some b) W' w4 → (∀ b, v4.ownBlock = some b → ov.ownBlock = some b ∨ W'.heap.size ≤ b) → (w4.cell? ⟨g, 7, none⟩ = some ov ∧ w4.frozen? ⟨g, 7, none⟩ = false ∧ g < w4.heap.size ∧ ∃ a n c, v4 = .slice a n c) ∧ Op1 tg w (w4.setCell ⟨g, 7, none⟩ v4) i g a.t (a.t.ops ++ [o]) a.ts v4 tv) := fun W' w4 v4 k' h1 h2 h3 => Op1.ops O1.out k' h1 h2 h3
  obtain ⟨hgl, ⟨-, -, -, -, -, -, -, c7, c8⟩, -⟩ := TxB.cells O1.out.obj
  obtain rfl := (show ov = _ from HOV.out)
  clear O1 HOV
  generalize a.t.ops.length = on at *
  go_upto_region 2 with fail
  go_cut [23] (fun s23 wx => ∃ ov', Op1 tg w wx i g a.t (a.t.ops ++ [o]) a.ts ov' tv)
  case first =>
    go_region_law ((refine step_app rfl (.tmp 20) (.tmp 22) 49 rfl _ (.slice (some ⟨W.heap.size, 0, none⟩) 1 1) rfl rfl _ (HAP.out _ (by (repeat (first | assumption | exact Same.refl _ _ | apply Same.alloc | apply Same.drew | apply Same.drewN)); done) _ (by exact heap_new _ _)) ?_); rintro v4 w4 ⟨o4, s4, l4⟩; obtain ⟨⟨c40, f40, b40, a4, n4, cp4, rfl⟩, ip⟩ := HFI.out _ w4 v4 (by (repeat (first | assumption | exact Same.refl _ _ | apply Same.alloc | apply Same.drew | apply Same.drewN)); done) o4 s4 l4; have IP : Hid _ := ip; clear o4 s4 l4 ip)
    all_goals
      go_wp2_with fail
      go_meet
      exact ⟨_, Op1.on IP.out (by (repeat (first | exact Same.refl _ _ | apply Same.drew | apply Same.drewN)); done)⟩
  case rest =>
    obtain ⟨ov', o2⟩ := hcut
    rename World => Z
    clear x0 x1 x2 x3 hgx hmb c1 c3 hsb d1 c7 c8 hgl HAP HFI K0 HG0
    have O2 : Hid (Op1 tg w Z i g a.t (a.t.ops ++ [o]) a.ts ov' tv) := o2
    obtain ⟨hgl, ⟨-, -, -, -, -, -, -, -, c8⟩, -⟩ := TxB.cells o2.obj
    have hob : Z.heap[mb]? = _ := (Op1.rest HM.out o2).1.trans (Mi.obj HM.out)
    have hmb := lt_of_heap hob
    have c1 : Z.cell? ⟨mb, 1, none⟩ = some (.int .i64 M.clock) := (cell_of hob 1).trans rfl
    have HAP : Hid (∀ W', Kept Z W' → ∀ g', W'.heap[g']? = some (.cells #[.int .i64 M.clock] 3 (0, 0)) → ∀ ty, ∃ v' w', (Builtin.append_ #[64, 64] ty #[tv, .slice (some ⟨g', 0, none⟩) 1 1]).run Try.prog W' = .ok v' w' ∧ (OwnI 0 w' v' (a.ts ++ [M.clock]) ∧ Same (fun k => tv.ownBlock = some k) W' w' ∧ ∀ k, v'.ownBlock = some k → tv.ownBlock = some k ∨ W'.heap.size ≤ k)) := fun W' k' g' hg' ty =>
      app_int (row_kept (Op1.tms O2.out) k' fun _ _ e => e) hg' (by have := HTS.out; omega) (Nat.zero_le _) ty
    have HFI : Hid (∀ W' w4 v4, Kept Z W' → OwnI 0 w4 v4 (a.ts ++ [M.clock]) → Same (fun b => tv.ownBlock = some b) W' w4 → (∀ b, v4.ownBlock = some b → tv.ownBlock = some b ∨ W'.heap.size ≤ b) → (w4.cell? ⟨g, 8, none⟩ = some tv ∧ w4.frozen? ⟨g, 8, none⟩ = false ∧ g < w4.heap.size ∧ ∃ a n c, v4 = .slice a n c) ∧ Op1 tg w (w4.setCell ⟨g, 8, none⟩ v4) i g a.t (a.t.ops ++ [o]) (a.ts ++ [M.clock]) ov' v4) := fun W' w4 v4 k' h1 h2 h3 => Op1.times O2.out k' h1 h2 h3
    obtain rfl := (show tv = _ from HTV.out)
    clear o2 hob O2 HTV HTS
    generalize a.ts.length = tn at *
    generalize M.clock = cl at *
    go_upto_region 3 with fail
    go_region_law ((refine step_app rfl (.tmp 31) (.tmp 36) 64 rfl _ (.slice (some ⟨Z.heap.size, 0, none⟩) 1 1) rfl rfl _ (HAP.out _ (by (repeat (first | assumption | exact Same.refl _ _ | apply Same.alloc | apply Same.drew | apply Same.drewN)); done) _ (by exact heap_new _ _)) ?_); rintro v4 w4 ⟨o4, s4, l4⟩; obtain ⟨⟨c40, f40, b40, a4, n4, cp4, rfl⟩, ip⟩ := HFI.out _ w4 v4 (by (repeat (first | assumption | exact Same.refl _ _ | apply Same.alloc | apply Same.drew | apply Same.drewN)); done) o4 s4 l4; have IP : Hid _ := ip; clear o4 s4 l4 ip)
    all_goals
      go_wp2_with fail
      go_end0
      exact ⟨rfl, HF.out _ _ _ (Op1.on IP.out (by (repeat (first | exact Same.refl _ _ | apply Same.drew | apply Same.drewN)); done))⟩
end Go.Proofs.Ytmghmacgljihcaa
