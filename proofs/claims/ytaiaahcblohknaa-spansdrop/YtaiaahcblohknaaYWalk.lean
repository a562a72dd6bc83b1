/- What is proved: walk yields the spans of a tree that overlap, in their order, until no more is wanted; for every loop body that leaves the forest and the nodes alone. -/
import Derived.Test.YtaiaahcblohknaaYSto
import Derived.RangeFuncNested
import Derived.RangeFuncBound
import Derived.RangeFuncCalls
import Derived.RangeFuncLeaves
import Derived.RangeFuncKeeps
import Derived.Shelf.Abstract
import Derived.OwnWalkIn
import Derived.TacticsInMore
import Derived.LoopNIn
import Derived.LoopIn
namespace Go.Proofs.Ytaiaahcblohknaa
open Go.RowKit Go.Shelf

attribute [local go_sem] Oper.semAt_some

theorem room_of_none {F : Fence} (hd : F.depth = none) (k : Nat) : F.room k := fun d h => by rw [hd] at h; cases h
theorem round_anyDepth {F : Fence} (hd : F.depth = none) {m m' : Nat} {P : Program} {l : Nat} {f : FuncId} {tmps : Array Value} {assign body : Code} {w : World} {R : Ending → World → Prop}
    (h : RoundIn F m P l f tmps assign body w R) : RoundIn F m' P l f tmps assign body w R := ⟨h.1, fun c cs _ => h.2 c cs (room_of_none hd _)⟩
theorem yield_anyDepth {F : Fence} (hd : F.depth = none) {m : Nat} (m' : Nat) {P : Program} {l : Nat} {args : Array Value} {W : World} {R : Ending → World → Prop} (h : YieldAt F m P l args W R) : YieldAt F m' P l args W R := by
  obtain ⟨fn, tmps, assign, body, hy, hR⟩ := h
  exact ⟨fn, tmps, assign, body, hy, round_anyDepth hd hR⟩
/-- What a round keeps: all that lay below n₀, and every block of nodes. -/
structure KpN (n₀ : Nat) (W W' : World) : Prop where
  below : Below n₀ W W'
  nodes : ∀ (k : Nat) (cur : Array Value), W.heap[k]? = some (Obj.cells cur 74 (0, 0)) → W'.heap[k]? = W.heap[k]?
theorem KpN.trans {n₀ : Nat} {A B C : World} (h : KpN n₀ A B) (k : KpN n₀ B C) : KpN n₀ A C :=
  ⟨h.below.trans k.below, fun i cur hi => by have h1 := h.nodes i cur hi; exact (k.nodes i cur (h1.trans hi)).trans h1⟩
theorem KpN.refl (n₀ : Nat) (W : World) : KpN n₀ W W := ⟨Below.refl _ _, fun _ _ _ => rfl⟩
theorem KpN.alloc {n₀ : Nat} {A W : World} (h : KpN n₀ A W) (hn : n₀ ≤ A.heap.size) (o : Obj) : KpN n₀ A (W.alloc o) :=
  ⟨h.below.alloc (Nat.le_trans hn h.below.size) o, fun k cur hk => by
    have h1 := h.nodes k cur hk
    rw [← h1]
    exact heap_old W o (lt_of_heap (h1.trans hk))⟩
theorem KpN.drew {n₀ : Nat} {A W : World} (h : KpN n₀ A W) : KpN n₀ A W.drew := ⟨h.below.drew, h.nodes⟩
theorem KpN.of_kept {n₀ : Nat} {A W : World} (hn : n₀ ≤ A.heap.size) (h : Kept A W) : KpN n₀ A W := ⟨h.below hn (fun _ x => x.elim), fun k _ hk => h.block k (lt_of_heap hk) (fun x => x)⟩
theorem Ar.kpn {w w' : World} {fb nb cap fr : Nat} {mv : Value} {c e : Int} {N : List Nd} (h : Ar w fb nb cap fr mv c e N) {n₀ : Nat} (k : KpN n₀ w w') (h1 : fb < n₀) (h2 : nb < n₀) : Ar w' fb nb cap fr mv c e N := by
  refine ⟨(k.below.block fb h1).trans h.obj, ?_⟩
  obtain ⟨cur, hg, r⟩ := h.nodes
  exact ⟨cur, (k.below.block nb h2).trans hg, r⟩
/-- What walk answers. -/
def WalkP (n₀ : Nat) (J Jx : List Sp → World → Prop) (pre : List Sp) (Lf : List Sp) (W : World) (e : Ending) (W' : World) : Prop :=
  (e = .returned (.bool true) ∧ J (pre ++ Lf) W' ∧ KpN n₀ W W') ∨ (e = .returned (.bool false) ∧ ∃ q, q <+: Lf ∧ Jx (pre ++ q) W')
set_option maxRecDepth 100000 in
set_option maxHeartbeats 3200000 in
theorem walk14 (fb nb cap fr : Nat) (mv : Value) (c e : Int) (N : List Nd) (fm tl : Int) (l n₀ Nn : Nat) (J Jx : List Sp → World → Prop) (hJ : ∀ pre W o, J pre W → J pre (W.alloc o)) (hfb : fb < n₀) (hnb : nb < n₀) (h0 : N[0]? = some nd0)
    (hY : ∀ m pre x W, J pre W → pre.length < Nn → YieldAt Fence.wide m Try.prog l #[spV x] W fun e W' => (e = .returned (.bool true) ∧ J (pre ++ [x]) W' ∧ KpN n₀ W W') ∨ (e = .returned (.bool false) ∧ Jx (pre ++ [x]) W')) (T : PT) :
    ∀ (n : Nat) (pre : List Sp) (W : World), Ar W fb nb cap fr mv c e N → Lay N T → Srt T.tr.list → J pre W → n₀ ≤ W.heap.size → pre.length + (T.tr.list.filter (ovl fm tl)).length ≤ Nn →
      CallsIn Fence.wide n Try.prog 38 #[.pointer (some ⟨fb, 0, none⟩), .int .i64 (T.root : Nat), .int .i64 fm, .int .i64 tl, .func (.yield l) #[] #[]] W (WalkP n₀ J Jx pre (T.tr.list.filter (ovl fm tl)) W) := by
  have hdd : ∀ k : Nat, (Fence.wide.depth.isSome = true → 1 ≤ k) := fun k h => by cases h
  induction T with
  | nil =>
    intro n pre W h _ _ hJ0 hn _
    obtain ⟨⟨f0, -⟩, -⟩ := h.cells
    obtain ⟨⟨b0, b1, b2, b3, b4, b5, b6, b7⟩, l0⟩ := h.node h0
    have l1 : ((0 : Nat) : Int) < (N.length : Int) := by omega
    have e0 : (nd0.s.f = 0 ∧ nd0.s.t = 0 ∧ nd0.s.i = 0) ∧ nd0.l = 0 ∧ nd0.r = 0 ∧ nd0.h = 0 ∧ nd0.fi = 9223372036854775807 ∧ nd0.la = -9223372036854775808 := ⟨⟨rfl, rfl, rfl⟩, rfl, rfl, rfl, rfl, rfl⟩
    have HE : Hid (∀ o, WalkP n₀ J Jx pre [] W (.returned (.bool true)) (W.alloc o)) := fun o => .inl ⟨rfl, by rw [List.append_nil]; exact hJ _ _ _ hJ0, (KpN.refl _ _).alloc hn o⟩
    clear h hJ0
    show CallsIn Fence.wide n Try.prog 38 #[.pointer (some ⟨fb, 0, none⟩), .int .i64 ((0 : Nat) : Int), .int .i64 fm, .int .i64 tl, .func (.yield l) #[] #[]] W (WalkP n₀ J Jx pre [] W)
    refine callsIn_of_wp Try.func38 rfl trivial ?_ rfl
    simp only [Try.ntmps38, List.size_toArray, List.length_cons, List.length_nil, Nat.reduceAdd, Nat.reduceSub, Array.replicate_succ, Array.replicate_zero, List.push_toArray, List.append_toArray, List.nil_append, List.cons_append]
    gi_wp2
    go_ret
    exact HE.out _
  | node p L s R ihl ihr =>
    intro n pre W h hT hS hJ0 hn hN
    have sp := Tr.srt_parts (show Srt (Tr.node L.tr s R.tr).list from hS)
    have hp := hT.2.1
    obtain ⟨⟨f0, -⟩, -⟩ := h.cells
    obtain ⟨⟨b0, b1, b2, b3, b4, b5, b6, b7⟩, lp⟩ := h.node hp
    have l1 : (p : Int) < (N.length : Int) := by omega
    have p0 : ¬ ((p : Int) = 0) := by have := hT.1; omega
    have HW1 : Hid (KpN n₀ W (W.alloc (ndO (ndOf L s R)))) := (KpN.refl _ _).alloc hn _
    have HBX : Hid (∀ W2, KpN n₀ (W.alloc (ndO (ndOf L s R))) W2 → W2.cell? ⟨W.heap.size, 0, none⟩ = some (.int .i64 s.f) ∧ W2.cell? ⟨W.heap.size, 1, none⟩ = some (.int .i64 s.t) ∧ W2.cell? ⟨W.heap.size, 2, none⟩ = some (.int .i64 s.i) ∧ W2.cell? ⟨W.heap.size, 4, none⟩ = some (.int .i64 (R.root : Nat)) ∧ W.heap.size < W2.heap.size ∧ Ar W2 fb nb cap fr mv c e N ∧ n₀ ≤ W2.heap.size) := fun W2 k2 => by
      have hb := (k2.nodes _ _ (heap_new W (ndO (ndOf L s R)))).trans (heap_new W (ndO (ndOf L s R)))
      obtain ⟨c0, c1, c2, -, c4, -⟩ := nd_box hb
      exact ⟨c0, c1, c2, c4, lt_of_heap hb, (h.kpn HW1.out hfb hnb).kpn k2 hfb hnb, Nat.le_trans (Nat.le_trans hn HW1.out.below.size) k2.below.size⟩
    have hfl : (PT.node p L s R).tr.list.filter (ovl fm tl) = L.tr.list.filter (ovl fm tl) ++ ((if ovl fm tl s = true then [s] else []) ++ R.tr.list.filter (ovl fm tl)) := by
      show (L.tr.list ++ s :: R.tr.list).filter (ovl fm tl) = _
      rw [List.filter_append, List.filter_cons]
      split <;> simp
    have hsv : (ndOf L s R).s = s := rfl
    have hrv : (ndOf L s R).r = R.root := rfl
    have hlv : (ndOf L s R).l = L.root := rfl
    have hmv : (ndOf L s R).la = (Tr.node L.tr s R.tr).mx := rfl
    show CallsIn Fence.wide n Try.prog 38 #[.pointer (some ⟨fb, 0, none⟩), .int .i64 (p : Int), .int .i64 fm, .int .i64 tl, .func (.yield l) #[] #[]] W (WalkP n₀ J Jx pre _ W)
    by_cases hmx : (Tr.node L.tr s R.tr).mx ≤ fm
    · have hnil : (PT.node p L s R).tr.list.filter (ovl fm tl) = [] := ovl_ends fun x hx => Int.le_trans (Tr.le_mx _ x hx) hmx
      rw [hnil]
      have HE : Hid (WalkP n₀ J Jx pre [] W (.returned (.bool true)) (W.alloc (ndO (ndOf L s R)))) := .inl ⟨rfl, by rw [List.append_nil]; exact hJ _ _ _ hJ0, HW1.out⟩
      rw [← hmv] at hmx
      clear h hT hS hJ0 hN sp hp HBX hfl hnil ihl ihr hY hsv hrv hlv hmv
      refine callsIn_of_wp Try.func38 rfl trivial ?_ rfl
      simp only [Try.ntmps38, List.size_toArray, List.length_cons, List.length_nil, Nat.reduceAdd, Nat.reduceSub, Array.replicate_succ, Array.replicate_zero, List.push_toArray, List.append_toArray, List.nil_append, List.cons_append]
      gi_wp2
      go_ret
      exact HE.out
    · rw [hfl] at hN ⊢
      simp only [List.length_append] at hN
      have i1 := (ihl (n - 1) pre (W.alloc (ndO (ndOf L s R))) (h.kpn HW1.out hfb hnb) hT.2.2.1 sp.1 (hJ _ _ _ hJ0) (Nat.le_trans hn HW1.out.below.size) (by omega)).mono (R' := fun e W2 =>
        (e = .returned (.bool true) ∧ (W2.cell? ⟨W.heap.size, 0, none⟩ = some (.int .i64 s.f) ∧ W2.cell? ⟨W.heap.size, 1, none⟩ = some (.int .i64 s.t) ∧ W2.cell? ⟨W.heap.size, 2, none⟩ = some (.int .i64 s.i) ∧ W2.cell? ⟨W.heap.size, 4, none⟩ = some (.int .i64 (R.root : Nat))) ∧ Hid (J (pre ++ L.tr.list.filter (ovl fm tl)) W2 ∧ KpN n₀ (W.alloc (ndO (ndOf L s R))) W2)) ∨
        (e = .returned (.bool false) ∧ Hid (∃ q, q <+: L.tr.list.filter (ovl fm tl) ∧ Jx (pre ++ q) W2)))
        (fun e W2 h9 => h9.elim (fun ⟨he, hj, hk⟩ => .inl ⟨he, ⟨(HBX.out W2 hk).1, (HBX.out W2 hk).2.1, (HBX.out W2 hk).2.2.1, (HBX.out W2 hk).2.2.2.1⟩, hj, hk⟩) (fun ⟨he, hx⟩ => .inr ⟨he, hx⟩))
      have HF1 : Hid (∀ Lr W2, (∃ q, q <+: L.tr.list.filter (ovl fm tl) ∧ Jx (pre ++ q) W2) → WalkP n₀ J Jx pre (L.tr.list.filter (ovl fm tl) ++ Lr) W (.returned (.bool false)) W2) := fun Lr W2 ⟨q, hq, hx⟩ => .inr ⟨rfl, q, hq.trans (List.prefix_append _ _), hx⟩
      have hmx' : ¬ (ndOf L s R).la ≤ fm := hmx
      have i2 : CallsIn Fence.wide (n - 1) Try.prog 38 #[.pointer (some ⟨fb, 0, none⟩), .int .i64 ((ndOf L s R).l : Nat), .int .i64 fm, .int .i64 tl, .func (.yield l) #[] #[]] (W.alloc (ndO (ndOf L s R))) _ := i1
      clear i1
      rename CallsIn _ _ _ _ _ _ _ => i1
      by_cases hfr : tl ≤ s.f
      · have hno : ovl fm tl s = false := by simp [ovl]; omega
        rw [hno, if_neg (by decide), List.nil_append, ovl_begins sp.2.2.2 hfr, List.append_nil]
        have HT1 : Hid (∀ W2, J (pre ++ L.tr.list.filter (ovl fm tl)) W2 ∧ KpN n₀ (W.alloc (ndO (ndOf L s R))) W2 → WalkP n₀ J Jx pre (L.tr.list.filter (ovl fm tl)) W (.returned (.bool true)) W2) := fun W2 ⟨hj, hk⟩ => .inl ⟨rfl, hj, HW1.out.trans hk⟩
        have HF2 := HF1.out []
        rw [List.append_nil] at HF2
        have HF3 : Hid _ := HF2
        have HF3 : Hid (∀ W2, (∃ q, q <+: L.tr.list.filter (ovl fm tl) ∧ Jx (pre ++ q) W2) → WalkP n₀ J Jx pre (L.tr.list.filter (ovl fm tl)) W (.returned (.bool false)) W2) := HF2
        clear h hT hS hJ0 hN sp hp HBX hfl ihl ihr hY hmx hno HF2 HF1 hsv hrv hlv hmv
        generalize L.tr.list.filter (ovl fm tl) = LF at *
        generalize ndOf L s R = m at *
        refine callsIn_of_wp Try.func38 rfl trivial ?_ rfl
        simp only [Try.ntmps38, List.size_toArray, List.length_cons, List.length_nil, Nat.reduceAdd, Nat.reduceSub, Array.replicate_succ, Array.replicate_zero, List.push_toArray, List.append_toArray, List.nil_append, List.cons_append]
        gi_wp2_with ((try refine ⟨trivial, ?_⟩); (try refine ⟨hdd _, ?_⟩); gi_at_call 38; refine i1.mono ?_; clear i1; rintro e W2 (⟨rfl, ⟨c0, c1, c2, c4⟩, HX⟩ | ⟨rfl, HX⟩))
        · go_ret
          exact HT1.out _ HX.out
        · go_ret
          exact HF3.out _ HX.out
      · have HR0 : Hid (∀ W3 pre', J pre' W3 → KpN n₀ (W.alloc (ndO (ndOf L s R))) W3 → pre'.length + (R.tr.list.filter (ovl fm tl)).length ≤ Nn → CallsIn Fence.wide (n - 1) Try.prog 38 #[.pointer (some ⟨fb, 0, none⟩), .int .i64 (R.root : Nat), .int .i64 fm, .int .i64 tl, .func (.yield l) #[] #[]] W3 (WalkP n₀ J Jx pre' (R.tr.list.filter (ovl fm tl)) W3)) := fun W3 pre' hj hk hl => ihr (n - 1) pre' W3 (HBX.out W3 hk).2.2.2.2.2.1 hT.2.2.2 sp.2.1 hj (HBX.out W3 hk).2.2.2.2.2.2 hl
        by_cases hto : fm < s.t
        · have hyes : ovl fm tl s = true := by simp [ovl]; omega
          rw [hyes, if_pos rfl] at hN ⊢
          simp only [List.length_singleton] at hN
          have HY2 : Hid (∀ W2, J (pre ++ L.tr.list.filter (ovl fm tl)) W2 ∧ KpN n₀ (W.alloc (ndO (ndOf L s R))) W2 → YieldAt Fence.wide (n - 1) Try.prog l #[.agg #[.int .i64 s.f, .int .i64 s.t, .int .i64 s.i]] W2 fun e W3 => (e = .returned (.bool true) ∧ W3.cell? ⟨W.heap.size, 4, none⟩ = some (.int .i64 (R.root : Nat)) ∧ Hid (J (pre ++ L.tr.list.filter (ovl fm tl) ++ [s]) W3 ∧ KpN n₀ (W.alloc (ndO (ndOf L s R))) W3)) ∨ (e = .returned (.bool false) ∧ Hid (Jx (pre ++ L.tr.list.filter (ovl fm tl) ++ [s]) W3))) := fun W2 ⟨hj, hk⟩ =>
            YieldAt.mono (hY (n - 1) _ s W2 hj (by rw [List.length_append]; omega)) fun e W3 h9 => h9.elim (fun ⟨he, hj3, hk3⟩ => .inl ⟨he, (HBX.out W3 (hk.trans hk3)).2.2.2.1, hj3, hk.trans hk3⟩) (fun ⟨he, hx⟩ => .inr ⟨he, hx⟩)
          have HR3 : Hid (∀ W3, J (pre ++ L.tr.list.filter (ovl fm tl) ++ [s]) W3 ∧ KpN n₀ (W.alloc (ndO (ndOf L s R))) W3 → CallsIn Fence.wide (n - 1) Try.prog 38 #[.pointer (some ⟨fb, 0, none⟩), .int .i64 (R.root : Nat), .int .i64 fm, .int .i64 tl, .func (.yield l) #[] #[]] W3 (fun e W4 => (∃ b, e = .returned (.bool b)) ∧ WalkP n₀ J Jx pre (L.tr.list.filter (ovl fm tl) ++ ([s] ++ R.tr.list.filter (ovl fm tl))) W e W4)) := fun W3 ⟨hj, hk⟩ =>
            (HR0.out W3 _ hj hk (by simp only [List.length_append, List.length_singleton]; omega)).mono fun e W4 h9 => h9.elim (fun ⟨he, hj4, hk4⟩ => ⟨⟨true, he⟩, .inl ⟨he, by simpa using hj4, (HW1.out.trans hk).trans hk4⟩⟩) (fun ⟨he, q, hq, hx⟩ => ⟨⟨false, he⟩, .inr ⟨he, L.tr.list.filter (ovl fm tl) ++ ([s] ++ q), by
              obtain ⟨r, hr⟩ := hq
              exact ⟨r, by simp [← hr]⟩, by simpa using hx⟩⟩)
          have HF4 : Hid (∀ W3, Jx (pre ++ L.tr.list.filter (ovl fm tl) ++ [s]) W3 → WalkP n₀ J Jx pre (L.tr.list.filter (ovl fm tl) ++ ([s] ++ R.tr.list.filter (ovl fm tl))) W (.returned (.bool false)) W3) := fun W3 hx => .inr ⟨rfl, L.tr.list.filter (ovl fm tl) ++ [s], ⟨R.tr.list.filter (ovl fm tl), by simp⟩, by simpa using hx⟩
          have HF3 : Hid (∀ W2, (∃ q, q <+: L.tr.list.filter (ovl fm tl) ∧ Jx (pre ++ q) W2) → WalkP n₀ J Jx pre (L.tr.list.filter (ovl fm tl) ++ ([s] ++ R.tr.list.filter (ovl fm tl))) W (.returned (.bool false)) W2) := HF1.out _
          clear h hT hS hJ0 hN sp hp HBX hfl ihl ihr hY hmx hyes HF1 HR0 hsv hrv hlv hmv
          generalize L.tr.list.filter (ovl fm tl) = LF at *
          generalize R.tr.list.filter (ovl fm tl) = RF at *
          generalize ndOf L s R = m at *
          generalize R.root = rr at *
          obtain ⟨sf, st, si⟩ := s
          simp only at hfr hto
          refine callsIn_of_wp Try.func38 rfl trivial ?_ rfl
          simp only [Try.ntmps38, List.size_toArray, List.length_cons, List.length_nil, Nat.reduceAdd, Nat.reduceSub, Array.replicate_succ, Array.replicate_zero, List.push_toArray, List.append_toArray, List.nil_append, List.cons_append]
          gi_wp2_with (first
            | ((try refine ⟨trivial, ?_⟩); (try refine ⟨hdd _, ?_⟩); gi_at_call 38; refine i1.mono ?_; clear i1; rintro e W2 (⟨rfl, ⟨c0, c1, c2, c4⟩, HX⟩ | ⟨rfl, HX⟩); (try obtain ⟨fn, tmps, assign, body, hy, hR⟩ := HY2.out _ HX.out))
            | ((try refine ⟨trivial, ?_⟩); (try refine ⟨hdd _, ?_⟩); refine hR.mono ?_; clear hR; rintro e W3 (⟨rfl, c4', HX3⟩ | ⟨rfl, HX3⟩); (try have HR4 := HR3.out _ HX3.out))
            | ((try refine ⟨trivial, ?_⟩); (try refine ⟨hdd _, ?_⟩); gi_at_call 38; refine HR4.mono ?_; clear HR4; rintro e W4 ⟨⟨b, rfl⟩, HW4⟩; have HW5 : Hid (WalkP n₀ J Jx pre _ W _ W4) := HW4; clear HW4))
          · go_ret
            exact HW5.out
          · go_ret
            exact HF4.out _ HX3.out
          · go_ret
            exact HF3.out _ HX.out
        · have hno : ovl fm tl s = false := by simp [ovl]; omega
          rw [hno, if_neg (by decide)] at hN ⊢
          rw [List.nil_append]
          have HR3 : Hid (∀ W3, J (pre ++ L.tr.list.filter (ovl fm tl)) W3 ∧ KpN n₀ (W.alloc (ndO (ndOf L s R))) W3 → CallsIn Fence.wide (n - 1) Try.prog 38 #[.pointer (some ⟨fb, 0, none⟩), .int .i64 (R.root : Nat), .int .i64 fm, .int .i64 tl, .func (.yield l) #[] #[]] W3 (fun e W4 => (∃ b, e = .returned (.bool b)) ∧ WalkP n₀ J Jx pre (L.tr.list.filter (ovl fm tl) ++ R.tr.list.filter (ovl fm tl)) W e W4)) := fun W3 ⟨hj, hk⟩ =>
            (HR0.out W3 _ hj hk (by simp only [List.length_append, List.length_nil] at hN ⊢; omega)).mono fun e W4 h9 => h9.elim (fun ⟨he, hj4, hk4⟩ => ⟨⟨true, he⟩, .inl ⟨he, by simpa using hj4, (HW1.out.trans hk).trans hk4⟩⟩) (fun ⟨he, q, hq, hx⟩ => ⟨⟨false, he⟩, .inr ⟨he, L.tr.list.filter (ovl fm tl) ++ q, by
              obtain ⟨r, hr⟩ := hq
              exact ⟨r, by simp [← hr]⟩, by simpa using hx⟩⟩)
          have HF3 : Hid (∀ W2, (∃ q, q <+: L.tr.list.filter (ovl fm tl) ∧ Jx (pre ++ q) W2) → WalkP n₀ J Jx pre (L.tr.list.filter (ovl fm tl) ++ R.tr.list.filter (ovl fm tl)) W (.returned (.bool false)) W2) := HF1.out _
          clear h hT hS hJ0 hN sp hp HBX hfl ihl ihr hY hmx hno HF1 HR0 hsv hrv hlv hmv
          generalize L.tr.list.filter (ovl fm tl) = LF at *
          generalize R.tr.list.filter (ovl fm tl) = RF at *
          generalize ndOf L s R = m at *
          generalize R.root = rr at *
          obtain ⟨sf, st, si⟩ := s
          simp only at hfr hto
          refine callsIn_of_wp Try.func38 rfl trivial ?_ rfl
          simp only [Try.ntmps38, List.size_toArray, List.length_cons, List.length_nil, Nat.reduceAdd, Nat.reduceSub, Array.replicate_succ, Array.replicate_zero, List.push_toArray, List.append_toArray, List.nil_append, List.cons_append]
          gi_wp2_with (first
            | ((try refine ⟨trivial, ?_⟩); (try refine ⟨hdd _, ?_⟩); gi_at_call 38; refine i1.mono ?_; clear i1; rintro e W2 (⟨rfl, ⟨c0, c1, c2, c4⟩, HX⟩ | ⟨rfl, HX⟩); (try have HR4 := HR3.out _ HX.out))
            | ((try refine ⟨trivial, ?_⟩); (try refine ⟨hdd _, ?_⟩); gi_at_call 38; refine HR4.mono ?_; clear HR4; rintro e W4 ⟨⟨b, rfl⟩, HW4⟩; have HW5 : Hid (WalkP n₀ J Jx pre _ W _ W4) := HW4; clear HW4))
          · refine ⟨fun _ h => (by cases h), ?_⟩
            gi_wp2_with ((try refine ⟨trivial, ?_⟩); (try refine ⟨hdd _, ?_⟩); gi_at_call 38; refine HR4.mono ?_; clear HR4; rintro e W4 ⟨⟨b, rfl⟩, HW4⟩; have HW5 : Hid (WalkP n₀ J Jx pre _ W _ W4) := HW4; clear HW4)
            go_ret
            exact HW5.out
          · go_ret
            exact HF3.out _ HX.out
end Go.Proofs.Ytaiaahcblohknaa
