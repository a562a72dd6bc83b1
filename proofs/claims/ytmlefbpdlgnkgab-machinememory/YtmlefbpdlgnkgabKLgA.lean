/- What is proved: Log gives the finished transactions in memory of its own, the operations of each in a block of their own; the machine lies in memory. -/
import Derived.Test.YtmlefbpdlgnkgabKLog
namespace Go.Proofs.Ytmlefbpdlgnkgab
open Go.RowKit

/-- No two of the first j transactions hold their operations in one block. -/
def Dst (L : List (TxM × Value)) (j : Nat) : Prop := ∀ (p q : Nat) (x y : TxM × Value) (b : Nat), p < q → q < j → L[p]? = some x → L[q]? = some y → x.2.ownBlock = some b → y.2.ownBlock ≠ some b
/-- What Log gives. -/
def LogA (w : World) (log : List TxM) (e : Ending) (w' : World) : Prop := ∃ v L, e = .returned v ∧ OwnT w.heap.size w' v L ∧ L.map (·.1) = log ∧ (∀ x ∈ L, OwnO w.heap.size w' x.2 x.1.ops) ∧ (∀ (p q : Nat) (x y : TxM × Value) (b : Nat), p < q → L[p]? = some x → L[q]? = some y → x.2.ownBlock = some b → y.2.ownBlock ≠ some b) ∧ Kept w w'
set_option maxRecDepth 100000 in
set_option maxHeartbeats 1600000 in
theorem log15A {F : Nat → Prop} {w : World} {mb : Nat} {M : Mm} (h : Mk F w mb M) : Calls Try.prog 11 #[.pointer (some ⟨mb, 0, none⟩)] w (LogA w M.log) := by
  obtain ⟨hv, tg, sb, vb, lv, P, L, hm, -⟩ := h
  have hL : L.length = M.log.length := by have := congrArg List.length hm.ll; simpa using this
  have hn : L.length ≤ 4096 := by
    have h1 := hv.cnt
    have h2 := hv.b1
    omega
  have h16 : ∀ x ∈ L, OwnO 0 w x.2 x.1.ops := fun x hx => (hm.lo x hx).1
  have HCT : Hid _ := cloneT15 hm.lg (fun x hx => own_one (h16 x hx)) hn
  obtain ⟨hmb, ⟨-, -, -, -, -, c5⟩, -⟩ := Mi.cells hm
  obtain ⟨la, lc, elv, -⟩ := row_shape hm.lg
  have HLL : Hid (L.map (·.1) = M.log) := hm.ll
  have HO : Hid (∀ x ∈ L, OwnO 0 w x.2 x.1.ops) := h16
  have HLEN : Hid (∀ x ∈ L, x.1.ops.length ≤ 4096) := fun x hx => by
    have h9 := hv.lg x.1 (by rw [← hm.ll]; exact List.mem_map.2 ⟨x, hx, rfl⟩)
    omega
  subst elv
  clear hv hm h16
  obtain ⟨n, en⟩ : ∃ n, n = L.length := ⟨_, rfl⟩
  rw [← en] at hn HCT c5
  have EN : Hid (n = L.length) := en
  clear en hL
  unfold LogA
  go_enter Try.func11, Try.ntmps11
  go_wp2_with fail
  refine Calls.mono HCT.out ?_
  rintro r w1 ⟨v1, rfl, o1, k1⟩
  obtain ⟨va, vc, rfl, -⟩ := row_shape o1
  rw [← EN.out] at o1 ⊢
  have O1 : Hid (OwnT w.heap.size w1 (.slice va n vc) L) := o1
  have K1 : Hid (Kept w w1) := k1
  clear o1 k1 HCT
  go_wp2_with fail
  go_loopw [12] (fun i wr => ∃ (j : Nat) (L' : List (TxM × Value)), j ≤ n ∧ i = .int .i64 (j : Int) ∧ OwnT w.heap.size wr (.slice va n vc) L' ∧ L'.map (·.1) = M.log ∧ (∀ q x, L'[q]? = some x → (q < j ∧ OwnO w.heap.size wr x.2 x.1.ops) ∨ (j ≤ q ∧ L[q]? = some x)) ∧ Dst L' j ∧ Kept w wr) (fun i _ => n - (intOf i).toNat)
  case atStart => exact ⟨0, L, Nat.zero_le _, rfl, O1.out, HLL.out, fun q x hx => .inr ⟨Nat.zero_le _, hx⟩, fun _ q _ _ _ _ h => by omega, K1.out⟩
  case round =>
    obtain ⟨j, L', hj, rfl, oj, lj, xj, dj, kj⟩ := hrel
    have DJ : Hid (Dst L' j) := dj
    have OJ : Hid (OwnT w.heap.size wr (.slice va n vc) L') := oj
    have LJ : Hid (L'.map (·.1) = M.log) := lj
    have XJ : Hid (∀ q x, L'[q]? = some x → (q < j ∧ OwnO w.heap.size wr x.2 x.1.ops) ∨ (j ≤ q ∧ L[q]? = some x)) := xj
    have KJ : Hid (Kept w wr) := kj
    have hln : L'.length = n := by
      have h1 := congrArg List.length lj
      rw [← HLL.out] at h1
      rw [EN.out]
      simpa using h1
    have HLN : Hid (L'.length = n) := hln
    clear oj lj xj dj kj
    by_cases hlt : j < n
    · have c1 : decide ((j : Int) < (n : Int)) = true := by simp only [decide_eq_true_eq]; omega
      have hlt2 : (j : Int) < (n : Int) := by omega
      obtain ⟨⟨t, u⟩, hx⟩ : ∃ x, L'[j]? = some x := ⟨_, List.getElem?_eq_getElem (by omega)⟩
      have hu : OwnO 0 wr u t.ops := by
        rcases XJ.out j (t, u) hx with ⟨-, h9⟩ | ⟨-, h9⟩
        · exact row_lower h9 (Nat.zero_le _)
        · exact OwnO.on (HO.out _ (List.mem_of_getElem? h9)) KJ.out
      have hul : t.ops.length ≤ 4096 := by
        have h8 : t ∈ M.log := by rw [← LJ.out]; exact List.mem_map.2 ⟨(t, u), List.mem_of_getElem? hx, rfl⟩
        rw [← HLL.out] at h8
        obtain ⟨y, hy, rfl⟩ := List.mem_map.1 h8
        exact HLEN.out y hy
      have HCO : Hid _ := cloneO15 hu hul
      obtain ⟨ub, uc, rfl, -⟩ := OwnO.ops hu
      obtain ⟨g, rfl, hgb, hgl, y7⟩ := row_cell OJ.out (txc_get hx 7 (by omega))
      have HX : Hid (L'[j]? = some (t, _)) := hx
      have hfz : ∀ W, Kept wr W → W.frozen? ⟨g, j * 8 + 7, none⟩ = false ∧ g < W.heap.size ∧ W.cell? ⟨g, j * 8 + 7, none⟩ = some (.slice ub t.ops.length uc) := fun W k' => by
        obtain ⟨-, cur, hc⟩ := row_block (row_kept OJ.out k' fun _ _ e => e) (k := g) rfl
        exact ⟨frozen_of hc _, lt_of_heap hc, (k'.cell (p := ⟨g, j * 8 + 7, none⟩) hgl (fun e => e)).trans y7⟩
      have HFZ : Hid _ := hfz
      clear hfz hx hu hul
      generalize t.ops.length = un at *
      go_wp2_with fail
      refine Calls.mono HCO.out ?_
      rintro r w3 ⟨v3, rfl, o3, k3⟩
      obtain ⟨f7, hg3, z7⟩ := HFZ.out w3 k3
      obtain ⟨a3, c3, rfl, -⟩ := OwnO.ops o3
      have O3 : Hid _ := o3
      have K3 : Hid (Kept wr w3) := k3
      clear o3 k3 HFZ
      have HFIN : Hid (∀ u3, OwnO wr.heap.size w3 u3 t.ops → OwnT w.heap.size (w3.setCell ⟨g, j * 8 + 7, none⟩ u3) (.slice (some ⟨g, 0, none⟩) n vc) (L'.set j (t, u3)) ∧ (L'.set j (t, u3)).map (·.1) = M.log ∧ (∀ q x, (L'.set j (t, u3))[q]? = some x → (q < j + 1 ∧ OwnO w.heap.size (w3.setCell ⟨g, j * 8 + 7, none⟩ u3) x.2 x.1.ops) ∨ (j + 1 ≤ q ∧ L[q]? = some x)) ∧ Dst (L'.set j (t, u3)) (j + 1) ∧ Kept w (w3.setCell ⟨g, j * 8 + 7, none⟩ u3)) := fun u3 o3 => by
        have hT : OwnT w.heap.size w3 (.slice (some ⟨g, 0, none⟩) n vc) L' := row_kept OJ.out K3.out fun _ _ e => e
        have hset : Same (fun b => b = g) w3 (w3.setCell ⟨g, j * 8 + 7, none⟩ u3) := Same.setCell (S := fun b => b = g) (Same.refl _ w3) ⟨g, j * 8 + 7, none⟩ (.inr rfl) u3
        obtain ⟨-, gcur, gc⟩ := row_block hT (k := g) rfl
        have hop : ∀ {b v l}, OwnO b w3 v l → OwnO b (w3.setCell ⟨g, j * 8 + 7, none⟩ u3) v l := fun ho => row_kept ho hset fun b hb e => by
          subst e
          obtain ⟨-, cur, hc⟩ := row_block ho hb
          exact types_ne hc gc (by decide)
        refine ⟨OwnT.put hT rfl HX.out u3, (set_fst HX.out u3).trans LJ.out, fun q x hq => ?_, fun p q x y b hpq hqj hp hq hb => ?_, Same.setCell (Same.trans' KJ.out K3.out) ⟨g, j * 8 + 7, none⟩ (.inl hgb) u3⟩
        rw [List.getElem?_set] at hq
        split at hq
        · rename_i e
          subst e
          split at hq
          · cases hq
            exact .inl ⟨by omega, hop (row_lower o3 (Same.size KJ.out))⟩
          · cases hq
        · rename_i e
          rcases XJ.out q x hq with ⟨h1, h2⟩ | ⟨h1, h2⟩
          · exact .inl ⟨by omega, hop (OwnO.on h2 K3.out)⟩
          · exact .inr ⟨by omega, h2⟩
        · rw [List.getElem?_set, if_neg (by omega)] at hp
          rw [List.getElem?_set] at hq
          split at hq
          · split at hq
            · cases hq
              rcases XJ.out p x hp with ⟨-, h2⟩ | ⟨h1, -⟩
              · obtain ⟨-, cur, hc⟩ := row_block h2 hb
                have h5 := lt_of_heap hc
                intro hb'
                obtain ⟨h6, -⟩ := row_block o3 hb'
                omega
              · omega
            · cases hq
          · exact DJ.out p q x y b hpq (by omega) hp hq hb
      have O3' := O3.out
      obtain ⟨p1, p2, p3, p5, p4⟩ := HFIN.out _ O3'
      have P5 : Hid _ := p5
      have P1 : Hid _ := p1
      have P2 : Hid _ := p2
      have P3 : Hid _ := p3
      have P4 : Hid _ := p4
      clear p1 p2 p3 p4 p5 O3' HFIN
      go_wp2_with fail
      go_roundw
      case rel => exact ⟨j + 1, _, by omega, by first | rfl | simp, P1.out, P2.out, P3.out, P5.out, P4.out⟩
      case measure => simp only [intOf]; omega
    · have c1 : decide ((j : Int) < (n : Int)) = false := by simp only [decide_eq_false_iff_not]; omega
      obtain rfl : j = n := by omega
      go_wp2_with fail
      go_ret
      refine ⟨_, L', rfl, OJ.out, LJ.out, fun x hx => ?_, fun p q x y b hpq hp hq hb => DJ.out p q x y b hpq (by have h8 := (List.getElem?_eq_some_iff.1 hq).1; have h7 := HLN.out; omega) hp hq hb, KJ.out⟩
      obtain ⟨q, hq⟩ := List.getElem?_of_mem hx
      rcases XJ.out q x hq with ⟨-, h9⟩ | ⟨h9, -⟩
      · exact h9
      · have h8 := (List.getElem?_eq_some_iff.1 hq).1
        have h7 := HLN.out
        omega
end Go.Proofs.Ytmlefbpdlgnkgab
