/- What is proved: the document's SameList answers true of two lists of transactions in memory that are alike; no condition. -/
import Derived.Test.YtmghmacgljihcaaKLog
import Derived.Deep.CutRange
import Derived.Deep.RegionWith
namespace Go.Proofs.Ytmghmacgljihcaa
open Go.RowKit

/-- The transactions L lie in w from address a on. -/
def TxnsAt (w : World) (a : Option Addr) (L : List TxM) : Prop :=
  ∀ i t, L[i]? = some t → ∃ b off ua uc, a = some ⟨b, off, none⟩ ∧ b < w.heap.size ∧ w.cell? ⟨b, off + i * 8, none⟩ = some (.int .i64 t.f0) ∧ w.cell? ⟨b, off + i * 8 + 1, none⟩ = some (.int .i64 t.f1) ∧ w.cell? ⟨b, off + i * 8 + 2, none⟩ = some (.int .i64 t.f2) ∧ w.cell? ⟨b, off + i * 8 + 3, none⟩ = some (.int .i64 t.f3) ∧ w.cell? ⟨b, off + i * 8 + 4, none⟩ = some (.int .i64 t.f4) ∧ w.cell? ⟨b, off + i * 8 + 5, none⟩ = some (.int .i64 t.f5) ∧ w.cell? ⟨b, off + i * 8 + 6, none⟩ = some (.int .i64 t.f6) ∧ w.cell? ⟨b, off + i * 8 + 7, none⟩ = some (.slice ua t.ops.length uc) ∧ OpsAt w ua t.ops
theorem TxnsAt.on {w w' : World} {a : Option Addr} {L : List TxM} (h : TxnsAt w a L) (k : Kept w w') : TxnsAt w' a L := fun i t ht => by
  obtain ⟨b, off, ua, uc, rfl, hb, c0, c1, c2, c3, c4, c5, c6, c7, ho⟩ := h i t ht
  have e : ∀ o, w'.cell? ⟨b, o, none⟩ = w.cell? ⟨b, o, none⟩ := fun o => k.cell (p := ⟨b, o, none⟩) hb (fun e => e)
  exact ⟨b, off, ua, uc, rfl, Nat.lt_of_lt_of_le hb k.size, (e _).trans c0, (e _).trans c1, (e _).trans c2, (e _).trans c3, (e _).trans c4, (e _).trans c5, (e _).trans c6, (e _).trans c7, ho.on k⟩
/-- A beginning of them. -/
theorem TxnsAt.head {w : World} {a : Option Addr} {L r : List TxM} (h : TxnsAt w a (L ++ r)) : TxnsAt w a L := fun i t ht => h i t (by rw [List.getElem?_append_left (List.getElem?_eq_some_iff.1 ht).1]; exact ht)
theorem OwnT.txns {base base' : Nat} {w : World} {a : Option Addr} {n cap : Nat} {L : List (TxM × Value)} (h : OwnT base w (.slice a n cap) L) (ho : ∀ x ∈ L, OwnO base' w x.2 x.1.ops) : TxnsAt w a (L.map (·.1)) := fun i t ht => by
  rw [List.getElem?_map] at ht
  obtain ⟨⟨t', u⟩, hx, rfl⟩ := Option.map_eq_some_iff.1 ht
  obtain ⟨ua, uc, eu, hops, -⟩ := OwnO.ops (ho _ (List.mem_of_getElem? hx))
  simp only at eu hops
  subst eu
  obtain ⟨g, rfl, -, hg, c0⟩ := row_cell h (txc_get hx 0 (by omega))
  have e : ∀ {j : Nat} {v : Value}, (txc L)[j]? = some v → w.cell? ⟨g, 0 + j, none⟩ = some v := fun hu => by
    obtain ⟨b', eb, -, -, c⟩ := row_cell h hu
    cases eb
    rw [Nat.zero_add]
    exact c
  exact ⟨g, 0, ua, uc, rfl, hg, e (txc_get hx 0 (by omega)), e (txc_get hx 1 (by omega)), e (txc_get hx 2 (by omega)), e (txc_get hx 3 (by omega)), e (txc_get hx 4 (by omega)), e (txc_get hx 5 (by omega)), e (txc_get hx 6 (by omega)), e (txc_get hx 7 (by omega)), hops⟩
theorem op_alike (o : OpM) (w : World) : (binOp .neq 84 (.agg #[.int .i64 o.kind, .string o.key, .bool o.found, .string o.value]) (.agg #[.int .i64 o.kind, .string o.key, .bool o.found, .string o.value])).run Try.prog w = .ok (.bool false) w := by
  obtain ⟨kind, key, found, value⟩ := o
  go_simp
set_option maxRecDepth 100000 in
set_option maxHeartbeats 3200000 in
theorem sameT15 (w : World) (t : TxM) (a b : Option Addr) (c d : Nat) (oa : OpsAt w a t.ops) (ob : OpsAt w b t.ops) (hn : t.ops.length ≤ 9223372036854775807) : Calls Try.prog 27 #[.agg #[.int .i64 t.f0, .int .i64 t.f1, .int .i64 t.f2, .int .i64 t.f3, .int .i64 t.f4, .int .i64 t.f5, .int .i64 t.f6, .slice a t.ops.length c], .agg #[.int .i64 t.f0, .int .i64 t.f1, .int .i64 t.f2, .int .i64 t.f3, .int .i64 t.f4, .int .i64 t.f5, .int .i64 t.f6, .slice b t.ops.length d]] w fun e w' => e = .returned (.bool true) ∧ Kept w w' := by
  obtain ⟨n, en⟩ : ∃ n, n = t.ops.length := ⟨_, rfl⟩
  rw [← en] at hn ⊢
  have EN : Hid _ := en
  have OA : Hid _ := oa
  have OB : Hid _ := ob
  have HQ : Hid (∀ o w, _) := fun o w => op_alike o w
  clear oa ob en
  go_enter Try.func27, Try.ntmps27
  go_wp2_with fail
  go_loopw [5] (fun i wr => ∃ j : Nat, i = .int .i64 j ∧ j ≤ n ∧ Kept ((w.alloc (.cells #[.int .i64 t.f0, .int .i64 t.f1, .int .i64 t.f2, .int .i64 t.f3, .int .i64 t.f4, .int .i64 t.f5, .int .i64 t.f6, .slice a n c] 51 (0, 0))).alloc (.cells #[.int .i64 t.f0, .int .i64 t.f1, .int .i64 t.f2, .int .i64 t.f3, .int .i64 t.f4, .int .i64 t.f5, .int .i64 t.f6, .slice b n d] 51 (0, 0))) wr) (fun i _ => n - (intOf i).toNat)
  case atStart => exact ⟨0, rfl, Nat.zero_le _, Same.refl _ _⟩
  case round =>
    obtain ⟨j, rfl, hj, kk⟩ := hrel
    have b1 : wr.heap[w.heap.size]? = some (.cells #[.int .i64 t.f0, .int .i64 t.f1, .int .i64 t.f2, .int .i64 t.f3, .int .i64 t.f4, .int .i64 t.f5, .int .i64 t.f6, .slice a n c] 51 (0, 0)) := (kk.block w.heap.size (by simp only [World.size_alloc]; omega) (fun e => e)).trans ((heap_old _ _ (by simp only [World.size_alloc]; omega)).trans (heap_new w _))
    have b2 : wr.heap[w.heap.size + 1]? = some (.cells #[.int .i64 t.f0, .int .i64 t.f1, .int .i64 t.f2, .int .i64 t.f3, .int .i64 t.f4, .int .i64 t.f5, .int .i64 t.f6, .slice b n d] 51 (0, 0)) := (kk.block (w.heap.size + 1) (by simp only [World.size_alloc]; omega) (fun e => e)).trans (by
      have h9 := heap_new (w.alloc (.cells #[.int .i64 t.f0, .int .i64 t.f1, .int .i64 t.f2, .int .i64 t.f3, .int .i64 t.f4, .int .i64 t.f5, .int .i64 t.f6, .slice a n c] 51 (0, 0))) (.cells #[.int .i64 t.f0, .int .i64 t.f1, .int .i64 t.f2, .int .i64 t.f3, .int .i64 t.f4, .int .i64 t.f5, .int .i64 t.f6, .slice b n d] 51 (0, 0))
      rw [World.size_alloc] at h9
      exact h9)
    have c7 : wr.cell? ⟨w.heap.size, 7, none⟩ = some (.slice a n c) := (cell_of b1 7).trans rfl
    have d7 : wr.cell? ⟨w.heap.size + 1, 7, none⟩ = some (.slice b n d) := (cell_of b2 7).trans rfl
    have hl1 := lt_of_heap b1
    have hl2 := lt_of_heap b2
    have KK : Hid _ := kk
    have KW : Hid (Kept w wr) := (((Same.refl _ w).alloc _).alloc _).trans' kk
    clear kk b1 b2
    by_cases hlt : j < n
    · have e1 : decide ((j : Int) < (n : Int)) = true := decide_eq_true (by omega)
      have hlt2 : (j : Int) < (n : Int) := by omega
      obtain ⟨o, he⟩ : ∃ o, t.ops[j]? = some o := ⟨_, List.getElem?_eq_getElem (by rw [← EN.out]; exact hlt)⟩
      obtain ⟨x, ox, rfl, hx, q0, q1, q2, q3⟩ := (OpsAt.on OA.out KW.out) j o he
      obtain ⟨y, oy, rfl, hy, r0, r1, r2, r3⟩ := (OpsAt.on OB.out KW.out) j o he
      have hq := HQ.out o
      have hj1 : (j : Int) + 1 ≤ 9223372036854775807 := by omega
      clear he
      go_wp2_with fail
      go_quiet (fail)
      go_wp2_with fail
      go_roundw
      case rel => exact ⟨j + 1, by congr 1, hlt, KK.out.drewN _⟩
      case measure => simp only [intOf]; omega
    · obtain rfl : j = n := by omega
      have e1 : decide ((j : Int) < (j : Int)) = false := decide_eq_false (by omega)
      go_wp2_with fail
      go_ret
      exact ⟨rfl, KW.out⟩
set_option maxRecDepth 100000 in
set_option maxHeartbeats 1600000 in
theorem sameL15 (w : World) (oa ob : Option Addr) (ca cb n : Nat) (L : List TxM) (ha : TxnsAt w oa L) (hb : TxnsAt w ob L) (en : n = L.length) (hn : n ≤ 140737488355328) (hops : ∀ t ∈ L, t.ops.length ≤ 9223372036854775807) :
    Calls Try.prog 13 #[.slice oa n ca, .slice ob n cb] w fun e w' => e = .returned (.bool true) ∧ Kept w w' := by
  have EN : Hid _ := en
  have HA : Hid _ := ha
  have HB : Hid _ := hb
  have HOP : Hid _ := hops
  have hni : (n : Int) ≤ 140737488355328 := by omega
  clear ha hb hops en
  go_enter Try.func13, Try.ntmps13
  go_wp2_with fail
  go_loopw [5] (fun i W => ∃ k : Nat, i = .int .i64 k ∧ k ≤ n ∧ Kept w W) (fun i _ => n - (intOf i).toNat)
  case atStart => exact ⟨0, rfl, Nat.zero_le _, Same.refl _ _⟩
  case round =>
    obtain ⟨k, rfl, hk, hkw⟩ := hrel
    have KW : Hid _ := hkw
    clear hkw
    by_cases hkn : k < n
    · have d1 : decide ((k : Int) < (n : Int)) = true := decide_eq_true (by omega)
      have hkn2 : (k : Int) < (n : Int) := by omega
      obtain ⟨t, ht⟩ : ∃ r, L[k]? = some r := ⟨_, List.getElem?_eq_getElem (by rw [← EN.out]; exact hkn)⟩
      obtain ⟨b1, off1, ua, uc, rfl, hb1, x0, x1, x2, x3, x4, x5, x6, x7, xo⟩ := (TxnsAt.on HA.out KW.out) k t ht
      obtain ⟨b2, off2, va, vc, rfl, hb2, y0, y1, y2, y3, y4, y5, y6, y7, yo⟩ := (TxnsAt.on HB.out KW.out) k t ht
      have HS : Hid (∀ W, Kept wr W → _) := fun W (kk : Kept wr W) => sameT15 W t ua va uc vc (xo.on kk) (yo.on kk) (HOP.out _ (List.mem_of_getElem? ht))
      clear ht xo yo hk
      go_wp2_with fail
      go_cut [6] from 12 to 28 (fun s6 wx => s6 = .bool true ∧ Kept wr wx)
      case first =>
        go_region_with (go_at_call 27; refine Calls.mono (HS.out _ (by (repeat (first | exact Same.refl _ _ | apply Same.drew | apply Same.drewN)); done)) ?_; rintro e w2 ⟨rfl, k2⟩)
        all_goals
          go_wp2_with fail
          go_meet
          exact ⟨rfl, by (repeat (first | exact Same.refl _ _ | apply Same.drew | refine Same.trans' ?_ k2)); done⟩
      case rest =>
        obtain ⟨rfl, hkc⟩ := hcut
        have KC : Hid (Kept w wc) := KW.out.trans' hkc
        clear hkc
        go_wp2_with fail
        go_roundw
        case rel => exact ⟨k + 1, by congr 1, hkn, KC.out⟩
        case measure => simp only [intOf]; omega
    · obtain rfl : k = n := by omega
      have d1 : decide ((k : Int) < (k : Int)) = false := decide_eq_false (by omega)
      clear hk hkn
      go_wp2_with fail
      go_ret
      exact ⟨rfl, KW.out⟩
end Go.Proofs.Ytmghmacgljihcaa
