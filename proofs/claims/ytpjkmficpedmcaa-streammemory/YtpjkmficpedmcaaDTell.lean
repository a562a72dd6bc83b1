/- What is proved: what a device tells of itself (Down, Counts, Geometry, Input, Image), WriteScratch at every argument, and 'same' on two equal lists; the device and the lists lie in memory. -/
import Derived.Test.YtpjkmficpedmcaaDApp
namespace Go.Proofs.Ytpjkmficpedmcaa
open Go.RowKit

theorem write_any {w : World} {m : M} {p : Pl} (h : Dv w m p) (b : Int) (a : Option Addr) (cap : Nat) (d : List Int) (ha : BytesAt w a d) (hcap : d.length ≤ cap) (hap : ∀ k, InB a d.length k → k ≠ p.db) (hk : m.k + 1 < 4611686018427387904) :
    Calls Try.prog 31 #[.pointer (some ⟨p.db, 0, none⟩), .int .i64 b, .slice a d.length cap] w fun e w' => e = .returned (.int .i64 (m.write b d).1) ∧ Dv w' (m.write b d).2 p ∧ Same (Own p) w w' := by
  by_cases hd : m.down = true
  · have e : m.write b d = (34, m) := by unfold M.write; exact if_pos hd
    rw [e]
    refine (ws_no h b 34 _ (by decide) (refuse_down h b _ hd)).mono ?_
    rintro e w' ⟨rfl, hw⟩
    subst w'
    exact ⟨rfl, h, Same.refl _ _⟩
  · have hd' : m.down = false := by simpa using hd
    by_cases ho : b < 0 ∨ (m.S : Int) ≤ b
    · have e : m.write b d = (35, m) := by unfold M.write; rw [if_neg hd]; exact if_pos ho
      rw [e]
      refine (ws_no h b 35 _ (by decide) (refuse_out h b _ hd' ho)).mono ?_
      rintro e w' ⟨rfl, hw⟩
      subst w'
      exact ⟨rfl, h, Same.refl _ _⟩
    · by_cases hl : d.length = m.B
      · obtain ⟨n, rfl⟩ := Int.eq_ofNat_of_zero_le (show 0 ≤ b by omega)
        exact ws_yes h n (by omega) a cap d hl ha hcap hap hk hd'
      · have e : m.write b d = (36, m) := by unfold M.write; rw [if_neg hd, if_neg ho]; exact if_pos hl
        rw [e]
        refine (ws_size h b a d.length cap hl (refuse_no h b _ hd' (by omega) (by omega))).mono ?_
        rintro e w' ⟨rfl, hw⟩
        subst w'
        exact ⟨rfl, h, Same.refl _ _⟩

theorem results_c {fn : Func} {a t : Nat} {P : Program} {w : World} {tmps : Array Value} {ad : Addr} {v : Value} (h : fn.results = #[.cell a t]) (ha : tmps.getD a undef = .pointer (some ad)) (hv : (loadVar t ad).run P w = .ok v w) : (results fn tmps).run P w = .ok v w := by
  have ha' : tmps[a]?.getD undef = .pointer (some ad) := by simpa using ha
  simp [results, h, ha', asAddr, hv]
theorem load_counts (w : World) (a b c d : Int) : (loadVar 58 ⟨w.heap.size, 0, none⟩).run Try.prog (w.alloc (.cells #[.int .i64 a, .int .i64 b, .int .i64 c, .int .i64 d] 58)) = .ok (.agg #[.int .i64 a, .int .i64 b, .int .i64 c, .int .i64 d]) (w.alloc (.cells #[.int .i64 a, .int .i64 b, .int .i64 c, .int .i64 d] 58)) := by
  go_simp
theorem load_geo (w : World) (a b : Int) : (loadVar 29 ⟨w.heap.size, 0, none⟩).run Try.prog (w.alloc (.cells #[.int .i64 a, .int .i64 b] 29)) = .ok (.agg #[.int .i64 a, .int .i64 b]) (w.alloc (.cells #[.int .i64 a, .int .i64 b] 29)) := by
  go_simp

set_option maxRecDepth 100000 in
theorem geometry_any {w : World} {m : M} {p : Pl} (h : Dv w m p) : Calls Try.prog 23 #[.pointer (some ⟨p.db, 0, none⟩)] w fun e w' => e = .returned (.agg #[.int .i64 m.B, .int .i64 m.S]) ∧ Kept w w' := by
  obtain ⟨c1, c2, -, -, -, -⟩ := h.cells
  have hl : p.db < w.heap.size := lt_of_heap h.dev
  clear h
  go_enter Try.func23, Try.ntmps23
  go_wp2_with fail
  exact bodyPost_ret (results_c (a := 2) (t := 29) rfl rfl (load_geo _ _ _)) rfl ⟨rfl, (Same.refl _ w).alloc _⟩

set_option maxRecDepth 100000 in
set_option maxHeartbeats 800000 in
theorem input_any {w : World} {m : M} {p : Pl} (h : Dv w m p) : Calls Try.prog 25 #[.pointer (some ⟨p.db, 0, none⟩)] w fun e w' => ∃ a cap, e = .returned (.slice a m.inp.length cap) ∧ BytesAt w' a m.inp ∧ (∀ k, InB a m.inp.length k → w.heap.size ≤ k) ∧ Kept w w' := by
  obtain ⟨-, -, c, -, -, -⟩ := h.cells
  have HC : Hid _ := cloneB_any w p.ia p.icap m.inp h.inp h.inil (by have := h.good.inp; omega)
  clear h
  go_enter Try.func25, Try.ntmps25
  go_wp2_with fail
  refine Calls.mono HC.out ?_
  rintro e w1 ⟨v, rfl, a, cap, rfl, h1, h2, h3, h4, h5⟩
  have H1 : Hid _ := h1
  have H4 : Hid _ := h4
  have H5 : Hid _ := h5
  clear h1 h2 h3 h4 h5
  go_wp2_with fail
  go_ret
  exact ⟨a, cap, rfl, H1.out, H4.out, H5.out⟩
set_option maxRecDepth 100000 in
set_option maxHeartbeats 1600000 in
theorem same_true (w : World) (oa ob : Option Addr) (ca cb : Nat) (l : List Int) (ha : BytesAt w oa l) (hb : BytesAt w ob l) (hlen : l.length ≤ 9223372036854775807) :
    Calls Try.prog 9 #[.slice oa l.length ca, .slice ob l.length cb] w fun e w' => e = .returned (.bool true) ∧ w' = w := by
  obtain ⟨n, en⟩ : ∃ n, n = l.length := ⟨_, rfl⟩
  rw [← en] at hlen ⊢
  have EN : Hid _ := en
  have HA : Hid _ := ha
  have HB : Hid _ := hb
  clear en ha hb
  have hnn : ((n : Int) != (n : Int)) = false := by simp
  go_enter Try.func9, Try.ntmps9
  go_wp2_with fail
  go_loop [14] (fun i => ∃ j : Nat, j ≤ n ∧ i = .int .i64 j) (fun i => n - (intOf i).toNat)
  case atStart => exact ⟨0, Nat.zero_le _, rfl⟩
  case round =>
    obtain ⟨j, hj, rfl⟩ := hrel
    by_cases hlt : j < n
    · have c1 : decide ((j : Int) < (n : Int)) = true := by simp only [decide_eq_true_eq]; omega
      have hlt2 : (j : Int) < (n : Int) := by omega
      obtain ⟨x, hx⟩ : ∃ x, l[j]? = some x := ⟨_, List.getElem?_eq_getElem (by rw [← EN.out]; exact hlt)⟩
      obtain ⟨b1, o1, rfl, -, q1⟩ := HA.out j x hx
      obtain ⟨b2, o2, rfl, -, q2⟩ := HB.out j x hx
      have hxx : (x != x) = false := by simp
      clear hx
      go_wp2_with fail
      go_round
      case rel => exact ⟨j + 1, hlt, by rw [Int.natCast_add]; rfl⟩
      case measure => simp only [intOf]; omega
    · have ej : j = n := by omega
      subst ej
      have c1 : decide ((j : Int) < (j : Int)) = false := by simp
      go_wp2_with fail
      go_ret
      exact ⟨rfl, rfl⟩
end Go.Proofs.Ytpjkmficpedmcaa
