/- What is proved: read gives what a read of a key finds, and lays the operation into the transaction; the machine lies in memory. -/
import Derived.Test.YtmghmacgljihcaaKSees
import Derived.Test.YtmghmacgljihcaaKOprW
import Derived.Test.YtmghmacgljihcaaKCom
namespace Go.Proofs.Ytmghmacgljihcaa
open Go.RowKit

/-- A step's box. -/
def StB (w : World) (g : Nat) (kd : Int) (se : Int) (gp : Int) (k v : ByteArray) : Prop := w.heap[g]? = some (.cells #[.int .i64 kd, .int .i64 se, .int .i64 gp, .string k, .string v] 32 (0, 0))
theorem StB.cells {w : World} {g : Nat} {kd se gp : Int} {k v : ByteArray} (h : StB w g kd se gp k v) : g < w.heap.size ∧ w.cell? ⟨g, 0, none⟩ = some (.int .i64 kd) ∧ w.cell? ⟨g, 1, none⟩ = some (.int .i64 se) ∧ w.cell? ⟨g, 2, none⟩ = some (.int .i64 gp) ∧ w.cell? ⟨g, 3, none⟩ = some (.string k) ∧ w.cell? ⟨g, 4, none⟩ = some (.string v) :=
  ⟨lt_of_heap h, (cell_of h 0).trans rfl, (cell_of h 1).trans rfl, (cell_of h 2).trans rfl, (cell_of h 3).trans rfl, (cell_of h 4).trans rfl⟩
theorem StB.on {w w' : World} {g : Nat} {kd se gp : Int} {k v : ByteArray} (h : StB w g kd se gp k v) (hk : Kept w w') : StB w' g kd se gp k v := (hk.block g (lt_of_heap h) (fun e => e)).trans h
set_option maxRecDepth 100000 in
set_option maxHeartbeats 1600000 in
theorem read15 {tg : Nat → Tg} {w : World} {mb sb vb : Nat} {lv : Value} {P : Nat → Option Nat} {L : List (TxM × Value)} {M : Mm} (h : Mi tg w mb sb vb lv P L M) (hv : Inv M) {i : Nat} {a : Ac} (ha : (M.at i).act = some a) (kd gp : Int) (k v : ByteArray) (hk : k.size ≤ maxLen) {B : Bool} {V : ByteArray} (eS : seeM M a.t k = (B, V)) :
    Calls Try.prog 42 #[.pointer (some ⟨mb, 0, none⟩), .agg #[.int .i64 kd, .int .i64 (i : Int), .int .i64 gp, .string k, .string v]] w fun e w' => e = .returned (.agg #[.bool B, .string V, .int .i64 0]) ∧ MiP tg w mb sb vb (operM M i a ⟨1, k, B, V⟩) w' := by
  have hi := at_lt ha
  obtain ⟨g, ov, tv, hp, hx⟩ := h.act i a ha
  have hac := hv.ac i a ha
  have hA : M.A.length ≤ 65536 := by have := hv.al; have := hv.log_lt ha; omega
  have hs1 := hv.s1
  have HLT : Hid (∀ b, tg b ≠ .out → b < w.heap.size) := h.lt
  have K3 : Hid (Kept w ((w.alloc (.cells #[.int .i64 kd, .int .i64 (i : Int), .int .i64 gp, .string k, .string v] 32 (0, 0))).alloc (.cells #[.bool false, .string ⟨#[]⟩, .int .i64 0] 54 (0, 0)))) := ((Same.refl _ _).alloc _).alloc _
  have HB4 : Hid (AnB ((w.alloc (.cells #[.int .i64 kd, .int .i64 (i : Int), .int .i64 gp, .string k, .string v] 32 (0, 0))).alloc (.cells #[.bool false, .string ⟨#[]⟩, .int .i64 0] 54 (0, 0))) (w.heap.size + 1) an0) := by
    have := heap_new (w.alloc (.cells #[.int .i64 kd, .int .i64 (i : Int), .int .i64 gp, .string k, .string v] 32 (0, 0))) (.cells #[.bool false, .string ⟨#[]⟩, .int .i64 0] 54 (0, 0))
    rw [World.size_alloc] at this
    exact this
  have HB3 : Hid (StB ((w.alloc (.cells #[.int .i64 kd, .int .i64 (i : Int), .int .i64 gp, .string k, .string v] 32 (0, 0))).alloc (.cells #[.bool false, .string ⟨#[]⟩, .int .i64 0] 54 (0, 0))) w.heap.size kd i gp k v) := StB.on (heap_new w _) ((Same.refl _ _).alloc _)
  have HM : Hid (Mi tg w mb sb vb lv P L M) := h
  have HV : Hid (Inv M) := hv
  have HAA : Hid ((M.at i).act = some a) := ha
  have HX : Hid (TxAt tg w i g a ov tv) := hx
  have HSE : Hid (∀ W, Kept w W → Calls Try.prog 49 #[.pointer (some ⟨mb, 0, none⟩), .pointer (some ⟨g, 0, none⟩), .string k] W fun e w' => e = .returned (.tuple #[.bool B, .string V]) ∧ Kept W w') := fun W k' => sees15 (h.on k') hv (hx.obj.on k') (hx.ops.on k') hac.n k hk hA eS
  obtain ⟨n, en⟩ : ∃ n, n = M.ses.length := ⟨_, rfl⟩
  have EN : Hid (n = M.ses.length) := en
  have hi' := hi
  rw [← en] at hi hs1
  have hi2 : (i : Int) < (n : Int) := by omega
  have hi3 : decide ((i : Int) < (n : Int)) = true := decide_eq_true hi2
  have HPP : Hid (P i = some g) := hp
  clear h hv ha hx hac hp en eS hk hA
  have hw1 : w.heap.size ≤ w.heap.size + 1 := Nat.le_succ _
  go_enter Try.func42, Try.ntmps42
  go_upto_region 1 with fail
  generalize (w.alloc (.cells #[.int .i64 kd, .int .i64 (i : Int), .int .i64 gp, .string k, .string v] 32 (0, 0))).alloc (.cells #[.bool false, .string ⟨#[]⟩, .int .i64 0] 54 (0, 0)) = W at *
  generalize w.heap.size + 1 = g4 at *
  generalize hg3 : w.heap.size = g3 at HB3 ⊢
  clear hg3
  have HCL : Hid (∀ W', Kept W W' → (g3 < W'.heap.size ∧ W'.cell? ⟨g3, 1, none⟩ = some (.int .i64 (i : Int)) ∧ W'.cell? ⟨g3, 3, none⟩ = some (.string k)) ∧ mb < W'.heap.size ∧ W'.cell? ⟨mb, 3, none⟩ = some (.slice (some ⟨sb, 0, none⟩) n n) ∧ sb < W'.heap.size ∧ W'.cell? ⟨sb, i * 2 + 1, none⟩ = some (.pointer (some ⟨g, 0, none⟩))) := fun W' k' => by
    obtain ⟨h1, -, h2, -, h3, -⟩ := StB.cells (StB.on HB3.out k')
    obtain ⟨hmb, ⟨-, -, -, c3, -, -⟩, -⟩ := Mi.cells (Mi.on HM.out (Same.trans' K3.out k'))
    obtain ⟨hsb, -, d1, -⟩ := Mi.sess (Mi.on HM.out (Same.trans' K3.out k')) hi'
    rw [← EN.out] at c3
    rw [HPP.out] at d1
    exact ⟨⟨h1, h2, h3⟩, hmb, c3, hsb, d1⟩
  obtain ⟨⟨h1, h2, h3⟩, hmb, c3, hsb, d1⟩ := HCL.out W (Same.refl _ _)
  have HBX : Hid (∀ W', Kept W W' → W'.cell? ⟨g3, 1, none⟩ = some (.int .i64 (i : Int)) ∧ W'.cell? ⟨g3, 3, none⟩ = some (.string k) ∧ W'.cell? ⟨mb, 3, none⟩ = some (.slice (some ⟨sb, 0, none⟩) n n) ∧ W'.cell? ⟨sb, i * 2 + 1, none⟩ = some (.pointer (some ⟨g, 0, none⟩))) := fun W' k' => ⟨(HCL.out W' k').1.2.1, (HCL.out W' k').1.2.2, (HCL.out W' k').2.2.1, (HCL.out W' k').2.2.2.2⟩
  go_cut [5, 6] (fun s5 s6 wx => s5 = .bool B ∧ s6 = .string V ∧ Kept W wx)
  case first =>
    go_region_held3 (fun W' => W'.cell? ⟨g3, 1, none⟩ = some (.int .i64 (i : Int)) ∧ W'.cell? ⟨g3, 3, none⟩ = some (.string k) ∧ W'.cell? ⟨mb, 3, none⟩ = some (.slice (some ⟨sb, 0, none⟩) n n) ∧ W'.cell? ⟨sb, i * 2 + 1, none⟩ = some (.pointer (some ⟨g, 0, none⟩)))
      (exact HBX.out _ (by (repeat (first | exact Same.refl _ _ | apply Same.drew | apply Same.drewN | refine Same.trans' ?_ kq)); done))
      ((go_at_call 49; refine Calls.mono (HSE.out _ (Same.trans' K3.out (by (repeat (first | exact Same.refl _ _ | apply Same.drew | apply Same.drewN)); done))) ?_; rintro r w4 ⟨rfl, kq⟩))
    all_goals
      go_wp2_with fail
      go_meet
      exact ⟨rfl, rfl, (by (repeat (first | exact Same.refl _ _ | apply Same.drew | apply Same.drewN | refine Same.trans' ?_ kq)); done)⟩
  case rest =>
    obtain ⟨rfl, rfl, kz⟩ := hcut
    rename World => Z
    have KZ : Hid (Kept W Z) := kz
    have HOP : Hid (Calls Try.prog 43 #[.pointer (some ⟨mb, 0, none⟩), .int .i64 (i : Int), .agg #[.int .i64 1, .string k, .bool B, .string V]] Z fun e w' => e = .returned (.tuple #[]) ∧ MiP tg Z mb sb vb (operM M i a ⟨1, k, B, V⟩) w') := operate15 (Mi.on HM.out (Same.trans' K3.out kz)) HV.out HAA.out ⟨1, k, B, V⟩
    obtain ⟨⟨h1, h2, h3⟩, -⟩ := HCL.out Z kz
    have HB5 : Hid (AnB Z g4 an0) := (kz.block g4 (lt_of_heap HB4.out) (fun e => e)).trans HB4.out
    have hg4 := lt_of_heap HB5.out
    clear kz HSE HCL HBX
    go_wp2_with fail
    refine Calls.mono HOP.out ?_
    rintro r w5 ⟨rfl, m5⟩
    have M5 : Hid _ := m5
    have HB2 : Hid (AnB w5 g4 an0) := (MiP.box HLT.out m5 hw1 hg4).trans HB5.out
    obtain ⟨⟨z0, z1, z2⟩, hl2, q0, q1, q2⟩ := AnB.cells HB2.out
    clear m5
    go_wp2_with fail
    refine bodyPost_ret (results_c (a := 4) (t := 54) rfl rfl (loadVar_an (a := ⟨B, V, 0⟩) (AnB.put HB2.out ⟨B, V, 0⟩))) rfl ?_
    exact ⟨rfl, MiP.ret HLT.out (Kept.to (Same.trans' K3.out KZ.out) _) M5.out hw1 hg4 _ _ _⟩
end Go.Proofs.Ytmghmacgljihcaa
