/- What is proved: List gives the first violations, sorted, in a list of its own; the top lies in memory. -/
import Derived.Test.YtnfkjblhnpnaeaaVList
import Derived.Laws.MakeOwn
namespace Go.Proofs.Ytnfkjblhnpnaeaa
open Go.RowKit

theorem vrow_at {w : World} {g : Nat} {x : Vl} (h : w.heap[g]? = some (vlO x)) : At vl1 12 w (some ⟨g, 0, none⟩) [x] := fun j y hy => by
  match j, hy with
  | 0, hy =>
    simp at hy
    subst hy
    refine ⟨g, 0, rfl, lt_of_heap h, fun c v hv => ?_⟩
    rw [cell_of h, Nat.zero_mul, Nat.add_zero, Nat.zero_add]
    simpa using hv
  | j + 1, hy => simp at hy
/-- One violation more behind a list of one's own. -/
theorem app_v {base : Nat} {w : World} {v : Value} {l : List Vl} (x : Vl) (h : OwnV base w v l) {g : Nat} (hg : w.heap[g]? = some (vlO x)) (hb : l.length + 1 ≤ 1500000000000) (hbase : base ≤ w.heap.size) (ty : TypeId) :
    ∃ v' w', (Builtin.append_ #[28, 28] ty #[v, .slice (some ⟨g, 0, none⟩) 1 1]).run Try.prog w = .ok v' w' ∧ (OwnV base w' v' (l ++ [x]) ∧ Same (fun k => v.ownBlock = some k) w w' ∧ ∀ k, v'.ownBlock = some k → v.ownBlock = some k ∨ w.heap.size ≤ k) :=
  Own.app (ys := [x]) ekV Try.underlying28 Try.infoViol rfl h (vrow_at hg) (by simp) (by show (l.length + 1 + (l.length + 1) / 4 + 192) * 120 ≤ _; omega) (by show l.length + 1 ≤ _; unfold maxLen; omega) hbase
theorem make_vs (w : World) (n : Nat) (hn : n ≤ 1500000000000) : (Instr.makeSlice 28 (.int .i64 0) (.int .i64 (n : Int))).run Try.prog w = .ok (.slice (some ⟨w.heap.size, 0, none⟩) 0 n) (w.alloc (.cells (madeCells (Value.agg #[.int .i64 0, .int .i64 0, .int .i64 0, .int .i64 0, .int .i64 0, .string .empty, .bool false, .string .empty, .bool false, .string .empty, .int .i64 0, .int .i64 0]).cells (n * 12)) 30)) := by
  obtain ⟨i0, hi0, hz0, hz1, hz2⟩ := info_parts Try.infoViol
  have hr := run_make (P := Try.prog) w 28 30 i0 _ Try.underlying28 hi0 hz0 .i64 .i64 0 (n : Int) (by omega) (by omega) (by rw [hz2]; omega) (by omega)
  simp only [Int.toNat_natCast, Int.toNat_zero, hz1] at hr
  exact hr
theorem own_madeV {base : Nat} {w : World} (hb : base ≤ w.heap.size) (n : Nat) (hn : n ≤ 1500000000000) (z : Array Value) : OwnV base (w.alloc (.cells (madeCells z (n * 12)) 30)) (.slice (some ⟨w.heap.size, 0, none⟩) 0 n) [] :=
  World.ownsRow_made w _ n hb (by unfold maxLen; omega) (by simp [madeCells])
theorem ownV_ne {base base' : Nat} {w : World} {v u : Value} {l : List Vl} {L : List Nb} (h : OwnV base w v l) (h' : OwnN base' w u L) {b : Nat} (hb : u.ownBlock = some b) : ¬ v.ownBlock = some b := fun e => by
  obtain ⟨-, c1, h1⟩ := h.block e
  obtain ⟨-, c2, h2⟩ := h'.block hb
  rw [h1] at h2
  cases h2
set_option maxRecDepth 100000 in
set_option maxHeartbeats 3200000 in
theorem list18 {base : Nat} {w : World} {tb lim : Nat} {vs : List Vl} {v : Value} {L : List Nb} (h : Tp base w tb lim vs v L) :
    Calls Try.prog 14 #[.pointer (some ⟨tb, 0, none⟩)] w fun e w' => ∃ u, e = .returned u ∧ OwnV w.heap.size w' u ((srt ltV vs).take lim) ∧ Kept w w' := by
  obtain ⟨a, cap, ev, -, -, -⟩ := h.own.shape
  subst ev
  have hlen : L.length ≤ 10000 := by have := h.hd.len; have := h.lim; omega
  have htb := lt_of_heap h.obj
  have c2 : w.cell? ⟨tb, 2, none⟩ = some (.slice a L.length cap) := (cell_of h.obj 2).trans rfl
  have HT : Hid (Tp base w tb lim vs (.slice a L.length cap) L) := h
  have hmk := fun W : World => make_vs W L.length (by omega)
  have HMO : Hid _ := own_madeV (base := w.heap.size) (w := w) (Nat.le_refl _) L.length (by omega) (Value.agg #[.int .i64 0, .int .i64 0, .int .i64 0, .int .i64 0, .int .i64 0, .string .empty, .bool false, .string .empty, .bool false, .string .empty, .int .i64 0, .int .i64 0]).cells
  have HMK : Hid (Kept w (w.alloc (.cells (madeCells (Value.agg #[.int .i64 0, .int .i64 0, .int .i64 0, .int .i64 0, .int .i64 0, .string .empty, .bool false, .string .empty, .bool false, .string .empty, .int .i64 0, .int .i64 0]).cells (L.length * 12)) 30))) := (Same.refl _ w).alloc _
  have HV : Hid (∀ W, _) := fun W => values18 a L.length cap W
  have HLD : Hid (L.length ≤ 10000 ∧ Dis L) := ⟨hlen, h.hd.dis⟩
  have hc2n : ∀ o : Obj, (w.alloc o).cell? ⟨tb, 2, none⟩ = some (.slice a L.length cap) := fun o => (((Same.refl (fun _ => False) w).alloc o).cell (p := ⟨tb, 2, none⟩) htb (fun e => e)).trans c2
  generalize (Value.agg #[.int .i64 0, .int .i64 0, .int .i64 0, .int .i64 0, .int .i64 0, .string .empty, .bool false, .string .empty, .bool false, .string .empty, .int .i64 0, .int .i64 0]).cells = zc at hmk HMO HMK
  have EL : Hid ((srt ltN L).map (·.v) = (srt ltV vs).take lim) := h.hd.told
  clear h
  go_enter Try.func14, Try.ntmps14
  go_wp2_with fail
  refine Calls.mono (HV.out _) ?_
  rintro r w2 ⟨rfl, rfl⟩
  generalize hW1 : w.alloc (.cells (madeCells zc (L.length * 12)) 30) = W1 at *
  have K1 : Hid (Kept w W1) := HMK.out
  have HG0 : Hid (w.heap.size ≤ W1.heap.size) := Same.size HMK.out
  have HS : Hid _ := sortedF18 (w0 := W1) (w := W1.alloc (.cells #[.slice a L.length cap] 50)) (base := base) (Bs := W1.heap.size) (cap := cap) (a := a) (xs := L) (HT.out.own.on K1.out) HLD.out.2 (by have := HLD.out.1; omega) (Nat.le_refl _) ((Same.refl _ W1).alloc _) (by simp) ((cell_of (heap_new W1 (.cells #[.slice a L.length cap] 50)) 0).trans rfl)
  have K2 : Hid (Kept W1 (W1.alloc (.cells #[.slice a L.length cap] 50))) := (Same.refl _ W1).alloc _
  clear hW1 hmk HMK hc2n
  generalize W1.alloc (.cells #[.slice a L.length cap] 50) = W2 at HS K2 ⊢
  go_wp2_with fail
  refine Calls.mono HS.out ?_
  rintro r w3 ⟨u2, rfl, o3, k3⟩
  have K3 : Hid (Kept w w3) := (K1.out.trans' K2.out).trans' k3
  have HMO3 : Hid (OwnV w.heap.size w3 (.slice (some ⟨w.heap.size, 0, none⟩) 0 L.length) []) := Own.on (Own.on (enc := vl1) (k := 12) (T := 30) (l := []) HMO.out K2.out) k3
  obtain ⟨M, eM⟩ : ∃ M, M = srt ltN L := ⟨_, rfl⟩
  rw [← eM] at o3
  have hML : M.length = L.length := by rw [eM, srt_len]
  have HM : Hid (M = srt ltN L) := eM
  obtain ⟨a2, c2', ev2, -, -, hav2⟩ := o3.shape
  subst ev2
  have HAV : Hid (∀ ad, a2 = some ad → ∃ g, ad = ⟨g, 0, none⟩) := fun ad e => by obtain ⟨g, h1, -, -⟩ := hav2 ad e; exact ⟨g, h1⟩
  have HO3 : Hid (OwnN w.heap.size w3 (.slice a2 M.length c2') M) := o3.base (Nat.le_trans HG0.out (Same.size K2.out))
  obtain ⟨n, en⟩ : ∃ n, n = M.length := ⟨_, rfl⟩
  have HN : Hid (n = M.length) := en
  rw [← en] at HO3 ⊢
  have hn1 : n ≤ 10000 := by rw [en, hML]; exact HLD.out.1
  clear o3 k3 hav2 eM hML en HS HV HMO HLD HT K1 K2 c2 htb hlen
  go_wp2_with fail
  go_loopw [19, 3] (fun i u wr => ∃ j : Nat, i = .int .i64 (j : Int) ∧ j ≤ n ∧ OwnV w.heap.size wr u ((M.take j).map (·.v)) ∧ OwnN w.heap.size wr (.slice a2 n c2') M ∧ Kept w wr) (fun i _ _ => n - (intOf i).toNat)
  case atStart => exact ⟨0, rfl, Nat.zero_le _, HMO3.out, HO3.out, K3.out⟩
  case round =>
    obtain ⟨j, rfl, hj, ho, hoN, hk⟩ := hrel
    rename World => WL
    have HO : Hid (OwnV w.heap.size WL _ ((M.take j).map (·.v))) := ho
    have HON : Hid (OwnN w.heap.size WL (.slice a2 n c2') M) := hoN
    have HK : Hid (Kept w WL) := hk
    by_cases hjn : j < n
    · have hm2 : (j : Int) < (n : Int) := by omega
      have hk3 : (j : Int) ≤ 20000 := by omega
      obtain ⟨x, hx⟩ : ∃ x, M[j]? = some x := ⟨_, List.getElem?_eq_getElem (by rw [← show n = _ from HN.out]; exact hjn)⟩
      obtain ⟨b, off, e2, hb, -⟩ := (hoN.at ekN) j x hx
      obtain ⟨g, eg⟩ := HAV.out _ e2
      subst e2
      cases eg
      obtain ⟨c0, c1, c2, c3, c4, c5, c6, c7, c8, c9, c10, c11, c12⟩ := At.nb (hoN.at ekN) hx
      have K4 : Hid (Kept WL ((WL.alloc (nbO x)).alloc (vlO x.v))) := ((Same.refl _ WL).alloc _).alloc _
      have hg4 : ((WL.alloc (nbO x)).alloc (vlO x.v)).heap[WL.heap.size + 1]? = some (vlO x.v) := by have := heap_new (WL.alloc (nbO x)) (vlO x.v); rwa [World.size_alloc] at this
      have HAP : Hid (∀ ty, _) := fun ty => app_v x.v (ho.on K4.out) hg4 (by rw [List.length_map, List.length_take]; omega) (Nat.le_trans hk.size (Same.size K4.out)) ty
      have HNX : Hid ((M.take (j + 1)).map (·.v) = (M.take j).map (·.v) ++ [x.v]) := by show _ = _; rw [take_more hx, List.map_append]; rfl
      have HFI : Hid (∀ v' w', OwnV w.heap.size w' v' ((M.take j).map (·.v) ++ [x.v]) → Same (fun k => u3.ownBlock = some k) ((WL.alloc (nbO x)).alloc (vlO x.v)) w' → OwnN w.heap.size w' (.slice (some ⟨b, 0, none⟩) n c2') M ∧ Kept w w') := fun v' w' o s =>
        ⟨(hoN.on K4.out).kept s (fun q hq => ownV_ne (ho.on K4.out) (hoN.on K4.out) hq), (hk.trans' K4.out).trans s fun q hq e => absurd hq (Nat.not_lt.2 ((ho.on K4.out).block e).1)⟩
      obtain ⟨⟨kd, tm, tx, op, wit, key, wa, ex, gg, ob, fr, tt⟩, num⟩ := x
      unfold nbO vlO at HAP HFI
      simp only at c0 c1 c2 c3 c4 c5 c6 c7 c8 c9 c10 c11 c12 HAP HFI HNX
      have hml : M.length = n := HN.out.symm
      clear hx hg4 K4 hml ho hoN hk
      go_wp2_with (at_builtin; refine wpList_app rfl (.tmp 23) (.tmp 26) 28 rfl u3 (.slice (some ⟨WL.heap.size + 1, 0, none⟩) 1 1) rfl rfl _ HAP.out ?_; rintro v5 w5 ⟨o5, s5, -⟩; have Q5 : Hid (OwnV w.heap.size w5 v5 _ ∧ OwnN w.heap.size w5 _ M ∧ Kept w w5) := ⟨o5, HFI.out v5 w5 o5 s5⟩; clear o5 s5)
      go_roundw
      case rel => exact ⟨j + 1, by simp, hjn, by rw [HNX.out]; exact Q5.out.1, Q5.out.2.1, Q5.out.2.2⟩
      case measure => simp only [intOf]; omega
    · obtain rfl : n = j := by omega
      have hm2 : ¬ (n : Int) < (n : Int) := by omega
      clear ho hoN hk
      go_wp2_with fail
      go_ret
      refine ⟨_, rfl, ?_, HK.out⟩
      have := HO.out
      rw [show n = M.length from HN.out, List.take_length, HM.out, EL.out] at this
      exact this
end Go.Proofs.Ytnfkjblhnpnaeaa
