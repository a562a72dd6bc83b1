/- What is proved: Log gives the finished transactions in memory of its own; the machine lies in memory. -/
import Derived.Test.YtmghmacgljihcaaKDo
namespace Go.Proofs.Ytmghmacgljihcaa
open Go.RowKit

theorem txc_one {l : List (TxM × Value)} (h : ∀ x ∈ l, x.2.oneCell' = true) : ∀ v ∈ txc l, v.oneCell' = true := by
  intro v hv
  obtain ⟨x, hx, hf⟩ := List.mem_flatMap.1 hv
  simp only [List.mem_cons, List.not_mem_nil, or_false] at hf
  rcases hf with rfl | rfl | rfl | rfl | rfl | rfl | rfl | rfl <;> first | rfl | exact h x hx
theorem own_one {w : World} {b : Nat} {v : Value} {l : List OpM} (h : OwnO b w v l) : v.oneCell' = true := by
  obtain ⟨a, c, rfl, -⟩ := OwnO.ops h
  rfl
theorem cells_of_row {w : World} {base : Nat} {e : TypeId} {n m : Nat} {ad : Addr} {m' cap : Nat} {l : List Value} (h : w.ownsRow base e n (.slice (some ad) m' cap) m l) : ∀ j u, l[j]? = some u → w.cell? (ad.add j) = some u := fun j u hu => by
  obtain ⟨b, eb, -, -, hc⟩ := row_cell h hu
  cases eb
  rw [add_at, Nat.zero_add]
  exact hc
set_option maxRecDepth 100000 in
set_option maxHeartbeats 800000 in
theorem cloneO15 {w : World} {v : Value} {l : List OpM} (h : OwnO 0 w v l) (hn : l.length ≤ 4096) : Calls Try.prog 29 #[v] w fun e w' => ∃ v', e = .returned v' ∧ OwnO w.heap.size w' v' l ∧ Kept w w' := by
  have q : ∀ (w : World) (a : Option Addr) (n c n' c' : Nat), (binOp .eql 49 (.slice a n c) (.slice none n' c')).run Try.prog w = .ok (.bool a.isNone) w := fun w a n c n' c' => Lib.run_eql_slice_nil w _ _ a n c n' c' Try.underlying49
  obtain ⟨a, cap, rfl, -, -, hnil⟩ := OwnO.ops h
  cases a with
  | none =>
    obtain ⟨h0, rfl⟩ := hnil rfl
    obtain rfl : l = [] := List.eq_nil_of_length_eq_zero h0
    clear h hnil h0 hn
    simp only [List.length_nil]
    go_enter Try.func29, Try.ntmps29
    go_wp2_with fail
    go_ret
    exact ⟨_, rfl, OwnO.nil _ _, Same.refl _ _⟩
  | some ad =>
    have HR : Hid (∀ ty, ∃ v' w', (Builtin.append_ #[49, 49] ty #[.slice (some ⟨w.heap.size, 0, none⟩) 0 0, .slice (some ad) l.length cap]).run Try.prog (w.alloc (.cells #[] 84)) = .ok v' w' ∧ OwnO w.heap.size w' v' l ∧ Kept w w') := fun ty => by
      have k0 : Kept w (w.alloc (.cells #[] 84 (0, 0))) := (Same.refl _ w).alloc _
      obtain ⟨v', w', hr, r1, r2, -, -⟩ := app_wide (P := Try.prog) (t := 49) (ty := ty) (c := cap) (m := l.length) (w := w.alloc (.cells #[] 84 (0, 0))) (base := w.heap.size) Try.underlying49 Try.infoOp rfl (by decide) (World.ownsRow_made w #[] 0 (Nat.le_refl _) (Nat.zero_le _) (by simp)) (length_opc l) (cells_of_row (h.on k0)) (opc_one _) (by unfold maxLen; omega) (by omega) (by rw [World.size_alloc]; omega)
      rw [List.nil_append, Nat.zero_add] at r1
      refine ⟨v', w', hr, r1, ((Kept.to k0 _).trans' r2).mono fun k hk e => ?_⟩
      simp only [Value.ownBlock, Option.some.injEq] at e
      omega
    clear h hnil hn
    generalize l.length = n at HR ⊢
    go_enter Try.func29, Try.ntmps29
    go_wp2_with (at_builtin; refine wpList_app rfl (.tmp 5) (.tmp 6) 49 rfl _ _ rfl rfl _ HR.out ?_; intro v' w1 hR)
    go_ret
    exact ⟨v', rfl, hR⟩
set_option maxRecDepth 100000 in
set_option maxHeartbeats 800000 in
theorem cloneT15 {w : World} {v : Value} {l : List (TxM × Value)} (h : OwnT 0 w v l) (h1 : ∀ x ∈ l, x.2.oneCell' = true) (hn : l.length ≤ 4096) : Calls Try.prog 28 #[v] w fun e w' => ∃ v', e = .returned v' ∧ OwnT w.heap.size w' v' l ∧ Kept w w' := by
  have q : ∀ (w : World) (a : Option Addr) (n c n' c' : Nat), (binOp .eql 39 (.slice a n c) (.slice none n' c')).run Try.prog w = .ok (.bool a.isNone) w := fun w a n c n' c' => Lib.run_eql_slice_nil w _ _ a n c n' c' Try.underlying39
  obtain ⟨a, cap, rfl, -, hnil, -⟩ := row_shape h
  cases a with
  | none =>
    obtain ⟨h0, rfl⟩ := hnil rfl
    obtain rfl : l = [] := List.eq_nil_of_length_eq_zero h0
    clear h hnil h0 hn
    simp only [List.length_nil]
    go_enter Try.func28, Try.ntmps28
    go_wp2_with fail
    go_ret
    exact ⟨_, rfl, OwnT.nil _ _, Same.refl _ _⟩
  | some ad =>
    have HR : Hid (∀ ty, ∃ v' w', (Builtin.append_ #[39, 39] ty #[.slice (some ⟨w.heap.size, 0, none⟩) 0 0, .slice (some ad) l.length cap]).run Try.prog (w.alloc (.cells #[] 51)) = .ok v' w' ∧ OwnT w.heap.size w' v' l ∧ Kept w w') := fun ty => by
      have k0 : Kept w (w.alloc (.cells #[] 51 (0, 0))) := (Same.refl _ w).alloc _
      obtain ⟨v', w', hr, r1, r2, -, -⟩ := app_wide (P := Try.prog) (t := 39) (ty := ty) (c := cap) (m := l.length) (w := w.alloc (.cells #[] 51 (0, 0))) (base := w.heap.size) Try.underlying39 Try.infoTxn rfl (by decide) (World.ownsRow_made w #[] 0 (Nat.le_refl _) (Nat.zero_le _) (by simp)) (length_txc l) (cells_of_row (row_kept h k0 fun _ _ e => e)) (txc_one h1) (by unfold maxLen; omega) (by omega) (by rw [World.size_alloc]; omega)
      rw [List.nil_append, Nat.zero_add] at r1
      refine ⟨v', w', hr, r1, ((Kept.to k0 _).trans' r2).mono fun k hk e => ?_⟩
      simp only [Value.ownBlock, Option.some.injEq] at e
      omega
    clear h hnil hn h1
    generalize l.length = n at HR ⊢
    go_enter Try.func28, Try.ntmps28
    go_wp2_with (at_builtin; refine wpList_app rfl (.tmp 5) (.tmp 6) 39 rfl _ _ rfl rfl _ HR.out ?_; intro v' w1 hR)
    go_ret
    exact ⟨v', rfl, hR⟩
theorem txc_get {l : List (TxM × Value)} {i : Nat} {x : TxM × Value} (h : l[i]? = some x) (j : Nat) (hj : j < 8) : (txc l)[i * 8 + j]? = [Value.int .i64 x.1.f0, .int .i64 x.1.f1, .int .i64 x.1.f2, .int .i64 x.1.f3, .int .i64 x.1.f4, .int .i64 x.1.f5, .int .i64 x.1.f6, x.2][j]? := by
  induction l generalizing i with
  | nil => simp at h
  | cons a r ih =>
    have e : txc (a :: r) = [Value.int .i64 a.1.f0, .int .i64 a.1.f1, .int .i64 a.1.f2, .int .i64 a.1.f3, .int .i64 a.1.f4, .int .i64 a.1.f5, .int .i64 a.1.f6, a.2] ++ txc r := rfl
    cases i with
    | zero =>
      simp only [List.getElem?_cons_zero, Option.some.injEq] at h
      subst h
      rw [e, List.getElem?_append_left (by simp; omega)]
      simp
    | succ i =>
      simp only [List.getElem?_cons_succ] at h
      rw [e, List.getElem?_append_right (by simp; omega), ← ih h]
      congr 1
      simp; omega
theorem txc_set (l : List (TxM × Value)) (i : Nat) (t : TxM) (o v : Value) (h : l[i]? = some (t, o)) : (txc l).set (i * 8 + 7) v = txc (l.set i (t, v)) := by
  induction l generalizing i with
  | nil => simp at h
  | cons a r ih =>
    cases i with
    | zero =>
      simp only [List.getElem?_cons_zero, Option.some.injEq] at h
      subst h
      simp [txc]
    | succ i =>
      have := ih i (by simpa using h)
      rw [List.set_cons_succ]
      have e : ∀ (a : TxM × Value) r, txc (a :: r) = [Value.int .i64 a.1.f0, .int .i64 a.1.f1, .int .i64 a.1.f2, .int .i64 a.1.f3, .int .i64 a.1.f4, .int .i64 a.1.f5, .int .i64 a.1.f6, a.2] ++ txc r := fun _ _ => rfl
      rw [e, e, ← this, show (i + 1) * 8 + 7 = (i * 8 + 7) + 1 + 1 + 1 + 1 + 1 + 1 + 1 + 1 by omega]
      rfl
theorem OwnT.put {base : Nat} {w : World} {v : Value} {l : List (TxM × Value)} (h : OwnT base w v l) {g : Nat} (hg : v.ownBlock = some g) {i : Nat} {t : TxM} {o : Value} (hi : l[i]? = some (t, o)) (u : Value) : OwnT base (w.setCell ⟨g, i * 8 + 7, none⟩ u) v (l.set i (t, u)) := by
  have hil := (List.getElem?_eq_some_iff.1 hi).1
  rcases h.2 with ⟨rfl, h0⟩ | ⟨g', cap, cur, rfl, hb, hgg, h1, h2, h3, h4⟩
  · cases hg
  · cases hg
    refine ⟨by rw [length_txc], .inr ⟨g', cap, _, by simp, hb, setCell_at hgg _ _, by simpa using h1, h2, by simpa using h3, ?_⟩⟩
    rw [← txc_set l i t o u hi, ← h4]
    simp only [Array.toList_setIfInBounds, List.length_set]
    rw [List.take_set]
/-- What Log gives. -/
def LogP (w : World) (log : List TxM) (e : Ending) (w' : World) : Prop := ∃ v L, e = .returned v ∧ OwnT w.heap.size w' v L ∧ L.map (·.1) = log ∧ (∀ x ∈ L, OwnO w.heap.size w' x.2 x.1.ops) ∧ Kept w w'
theorem set_fst {l : List (TxM × Value)} {i : Nat} {t : TxM} {o : Value} (h : l[i]? = some (t, o)) (u : Value) : (l.set i (t, u)).map (·.1) = l.map (·.1) := by
  rw [List.map_set]
  apply List.ext_getElem?
  intro j
  rw [List.getElem?_set]
  split
  · rename_i e
    subst e
    rw [List.getElem?_map, h]
    simp [(List.getElem?_eq_some_iff.1 h).1]
  · rfl
set_option maxRecDepth 100000 in
set_option maxHeartbeats 1600000 in
theorem log15 {F : Nat → Prop} {w : World} {mb : Nat} {M : Mm} (h : Mk F w mb M) : Calls Try.prog 14 #[.pointer (some ⟨mb, 0, none⟩)] w (LogP w M.log) := by
  obtain ⟨hv, tg, sb, vb, lv, P, L, hm, -⟩ := h
  have hL : L.length = M.log.length := by have := congrArg List.length hm.ll; simpa using this
  have hn : L.length ≤ 4096 := by
    have h1 := hv.cnt
    have h2 := hv.b1
    omega
  have h16 : ∀ x ∈ L, OwnO 0 w x.2 x.1.ops := fun x hx => (hm.lo x hx).1
  have HCT : Hid _ := cloneT15 hm.lg (fun x hx => own_one (h16 x hx)) hn
  obtain ⟨hmb, ⟨-, -, -, -, -, c5⟩, -⟩ := Mi.cells hm
  obtain ⟨la, lc, elv, -⟩ := row_shape hm.lg
  have HLL : Hid (L.map (·.1) = M.log) := hm.ll
  have HO : Hid (∀ x ∈ L, OwnO 0 w x.2 x.1.ops) := h16
  have HLEN : Hid (∀ x ∈ L, x.1.ops.length ≤ 4096) := fun x hx => by
    have h9 := hv.lg x.1 (by rw [← hm.ll]; exact List.mem_map.2 ⟨x, hx, rfl⟩)
    omega
  subst elv
  clear hv hm h16
  obtain ⟨n, en⟩ : ∃ n, n = L.length := ⟨_, rfl⟩
  rw [← en] at hn HCT c5
  have EN : Hid (n = L.length) := en
  clear en hL
  unfold LogP
  go_enter Try.func14, Try.ntmps14
  go_wp2_with fail
  refine Calls.mono HCT.out ?_
  rintro r w1 ⟨v1, rfl, o1, k1⟩
  obtain ⟨va, vc, rfl, -⟩ := row_shape o1
  rw [← EN.out] at o1 ⊢
  have O1 : Hid (OwnT w.heap.size w1 (.slice va n vc) L) := o1
  have K1 : Hid (Kept w w1) := k1
  clear o1 k1 HCT
  go_wp2_with fail
  go_loopw [12] (fun i wr => ∃ (j : Nat) (L' : List (TxM × Value)), j ≤ n ∧ i = .int .i64 (j : Int) ∧ OwnT w.heap.size wr (.slice va n vc) L' ∧ L'.map (·.1) = M.log ∧ (∀ q x, L'[q]? = some x → (q < j ∧ OwnO w.heap.size wr x.2 x.1.ops) ∨ (j ≤ q ∧ L[q]? = some x)) ∧ Kept w wr) (fun i _ => n - (intOf i).toNat)
  case atStart => exact ⟨0, L, Nat.zero_le _, rfl, O1.out, HLL.out, fun q x hx => .inr ⟨Nat.zero_le _, hx⟩, K1.out⟩
  case round =>
    obtain ⟨j, L', hj, rfl, oj, lj, xj, kj⟩ := hrel
    have OJ : Hid (OwnT w.heap.size wr (.slice va n vc) L') := oj
    have LJ : Hid (L'.map (·.1) = M.log) := lj
    have XJ : Hid (∀ q x, L'[q]? = some x → (q < j ∧ OwnO w.heap.size wr x.2 x.1.ops) ∨ (j ≤ q ∧ L[q]? = some x)) := xj
    have KJ : Hid (Kept w wr) := kj
    have hln : L'.length = n := by
      have h1 := congrArg List.length lj
      rw [← HLL.out] at h1
      rw [EN.out]
      simpa using h1
    have HLN : Hid (L'.length = n) := hln
    clear oj lj xj kj
    by_cases hlt : j < n
    · have c1 : decide ((j : Int) < (n : Int)) = true := by simp only [decide_eq_true_eq]; omega
      have hlt2 : (j : Int) < (n : Int) := by omega
      obtain ⟨⟨t, u⟩, hx⟩ : ∃ x, L'[j]? = some x := ⟨_, List.getElem?_eq_getElem (by omega)⟩
      have hu : OwnO 0 wr u t.ops := by
        rcases XJ.out j (t, u) hx with ⟨-, h9⟩ | ⟨-, h9⟩
        · exact row_lower h9 (Nat.zero_le _)
        · exact OwnO.on (HO.out _ (List.mem_of_getElem? h9)) KJ.out
      have hul : t.ops.length ≤ 4096 := by
        have h8 : t ∈ M.log := by rw [← LJ.out]; exact List.mem_map.2 ⟨(t, u), List.mem_of_getElem? hx, rfl⟩
        rw [← HLL.out] at h8
        obtain ⟨y, hy, rfl⟩ := List.mem_map.1 h8
        exact HLEN.out y hy
      have HCO : Hid _ := cloneO15 hu hul
      obtain ⟨ub, uc, rfl, -⟩ := OwnO.ops hu
      obtain ⟨g, rfl, hgb, hgl, y7⟩ := row_cell OJ.out (txc_get hx 7 (by omega))
      have HX : Hid (L'[j]? = some (t, _)) := hx
      have hfz : ∀ W, Kept wr W → W.frozen? ⟨g, j * 8 + 7, none⟩ = false ∧ g < W.heap.size ∧ W.cell? ⟨g, j * 8 + 7, none⟩ = some (.slice ub t.ops.length uc) := fun W k' => by
        obtain ⟨-, cur, hc⟩ := row_block (row_kept OJ.out k' fun _ _ e => e) (k := g) rfl
        exact ⟨frozen_of hc _, lt_of_heap hc, (k'.cell (p := ⟨g, j * 8 + 7, none⟩) hgl (fun e => e)).trans y7⟩
      have HFZ : Hid _ := hfz
      clear hfz hx hu hul
      generalize t.ops.length = un at *
      go_wp2_with fail
      refine Calls.mono HCO.out ?_
      rintro r w3 ⟨v3, rfl, o3, k3⟩
      obtain ⟨f7, hg3, z7⟩ := HFZ.out w3 k3
      obtain ⟨a3, c3, rfl, -⟩ := OwnO.ops o3
      have O3 : Hid _ := o3
      have K3 : Hid (Kept wr w3) := k3
      clear o3 k3 HFZ
      have HFIN : Hid (∀ u3, OwnO wr.heap.size w3 u3 t.ops → OwnT w.heap.size (w3.setCell ⟨g, j * 8 + 7, none⟩ u3) (.slice (some ⟨g, 0, none⟩) n vc) (L'.set j (t, u3)) ∧ (L'.set j (t, u3)).map (·.1) = M.log ∧ (∀ q x, (L'.set j (t, u3))[q]? = some x → (q < j + 1 ∧ OwnO w.heap.size (w3.setCell ⟨g, j * 8 + 7, none⟩ u3) x.2 x.1.ops) ∨ (j + 1 ≤ q ∧ L[q]? = some x)) ∧ Kept w (w3.setCell ⟨g, j * 8 + 7, none⟩ u3)) := fun u3 o3 => by
        have hT : OwnT w.heap.size w3 (.slice (some ⟨g, 0, none⟩) n vc) L' := row_kept OJ.out K3.out fun _ _ e => e
        have hset : Same (fun b => b = g) w3 (w3.setCell ⟨g, j * 8 + 7, none⟩ u3) := Same.setCell (S := fun b => b = g) (Same.refl _ w3) ⟨g, j * 8 + 7, none⟩ (.inr rfl) u3
        obtain ⟨-, gcur, gc⟩ := row_block hT (k := g) rfl
        have hop : ∀ {b v l}, OwnO b w3 v l → OwnO b (w3.setCell ⟨g, j * 8 + 7, none⟩ u3) v l := fun ho => row_kept ho hset fun b hb e => by
          subst e
          obtain ⟨-, cur, hc⟩ := row_block ho hb
          exact types_ne hc gc (by decide)
        refine ⟨OwnT.put hT rfl HX.out u3, (set_fst HX.out u3).trans LJ.out, fun q x hq => ?_, Same.setCell (Same.trans' KJ.out K3.out) ⟨g, j * 8 + 7, none⟩ (.inl hgb) u3⟩
        rw [List.getElem?_set] at hq
        split at hq
        · rename_i e
          subst e
          split at hq
          · cases hq
            exact .inl ⟨by omega, hop (row_lower o3 (Same.size KJ.out))⟩
          · cases hq
        · rename_i e
          rcases XJ.out q x hq with ⟨h1, h2⟩ | ⟨h1, h2⟩
          · exact .inl ⟨by omega, hop (OwnO.on h2 K3.out)⟩
          · exact .inr ⟨by omega, h2⟩
      have O3' := O3.out
      obtain ⟨p1, p2, p3, p4⟩ := HFIN.out _ O3'
      have P1 : Hid _ := p1
      have P2 : Hid _ := p2
      have P3 : Hid _ := p3
      have P4 : Hid _ := p4
      clear p1 p2 p3 p4 O3' HFIN
      go_wp2_with fail
      go_roundw
      case rel => exact ⟨j + 1, _, by omega, by first | rfl | simp, P1.out, P2.out, P3.out, P4.out⟩
      case measure => simp only [intOf]; omega
    · have c1 : decide ((j : Int) < (n : Int)) = false := by simp only [decide_eq_false_iff_not]; omega
      obtain rfl : j = n := by omega
      go_wp2_with fail
      go_ret
      refine ⟨_, L', rfl, OJ.out, LJ.out, fun x hx => ?_, KJ.out⟩
      obtain ⟨q, hq⟩ := List.getElem?_of_mem hx
      rcases XJ.out q x hq with ⟨-, h9⟩ | ⟨h9, -⟩
      · exact h9
      · have h8 := (List.getElem?_eq_some_iff.1 hq).1
        have h7 := HLN.out
        omega
end Go.Proofs.Ytmghmacgljihcaa
