/- What is proved: the law LosersPlays answers true, for every order, every number of sources and every script that lies in memory. -/
import Derived.Test.YtolaeiagfnhllaaTStepC
import Derived.Test.YtolaeiagfnhllaaTOps
namespace Go.Proofs.Ytolaeiagfnhllaa
open Go.RowKit

theorem OpsAt.on {w w' : World} {a : Option Addr} {l : List OpN} (h : OpsAt w a l) (k : Kept w w') : OpsAt w' a l := fun i o ho => by
  obtain ⟨b, off, rfl, hb, c0, c1, c2, c3, c4, c5, c6, c7, c8⟩ := h i o ho
  have t : ∀ x, w'.cell? ⟨b, x, none⟩ = w.cell? ⟨b, x, none⟩ := fun x => k.cell (p := ⟨b, x, none⟩) hb (fun e => e)
  exact ⟨b, off, rfl, Nat.lt_of_lt_of_le hb k.size, (t _).trans c0, (t _).trans c1, (t _).trans c2, (t _).trans c3, (t _).trans c4, (t _).trans c5, (t _).trans c6, (t _).trans c7, (t _).trans c8⟩
theorem both_new {order : Int} (ho : order = 1 ∨ order = 2) {k : Nat} (h0 : 1 ≤ k) (h1 : k ≤ 64) {w wr W : World} {b gs gn : Nat} (h : Tl w wr b gs gn order (List.replicate k .wait)) (kw : Kept wr W) : Calls Try.prog 11 #[.int .i64 order, .int .i64 (k : Int)] W fun e w' => ∃ rb rs rr, e = .returned (.tuple #[.pointer (some ⟨rb, 0, none⟩), .int .i64 0]) ∧ Bo w w' b gs gn rb rs rr order (List.replicate k .wait) (List.replicate k .wait) :=
  Calls.mono (rnew11_ok ho h0 h1 W) fun _ w' ⟨rb, rs, rr, R, e1, e2, e3, e4, e5, e6⟩ => by
    have hs : w.heap.size ≤ W.heap.size := Nat.le_trans h.same.size kw.size
    refine ⟨rb, rs, rr, e1, h.on (kw.trans' e3), ⟨R, e2⟩, ?_, by omega, by omega, by omega⟩
    have := h.tn.lt.2.2
    have := kw.size
    omega
set_option maxRecDepth 100000 in
set_option maxHeartbeats 1000000 in
theorem plays_law (order k : Int) (w : World) (a : Option Addr) (cap : Nat) (l : List OpN) (h : OpsAt w a l ∧ l.length ≤ 2199023255552) : Calls Try.prog 3 #[.int .i64 order, .int .i64 k, .slice a l.length cap] w fun e w' => e = .returned (.bool true) ∧ Kept w w' := by
  have HA : Hid (∀ W, _) := anchor11_any
  have HO : Hid _ := h.1
  have hn2 := h.2
  obtain ⟨n, en⟩ : ∃ n, n = l.length := ⟨_, rfl⟩
  rw [← en] at hn2 ⊢
  have EN : Hid _ := en
  clear h en
  by_cases ho : order = 1 ∨ order = 2
  · by_cases hk : k < 1 ∨ 64 < k
    · have HN : Hid (∀ W, _) := fun W => new11_fan ho hk W
      have HR : Hid (∀ W, _) := fun W => rnew11_fan ho hk W
      clear ho hk
      go_enter Try.func3, Try.ntmps3
      go_wp2_with fail
      refine Calls.mono (HA.out _) ?_
      rintro e w1 ⟨rfl, k1⟩
      have K1 : Hid _ := k1
      clear k1
      go_wp2_with fail
      refine Calls.mono (HN.out _) ?_
      rintro e w2 ⟨rfl, rfl⟩
      go_wp2_with fail
      refine Calls.mono (HR.out _) ?_
      rintro e w2 ⟨rfl, rfl⟩
      go_wp2_with fail
      go_ret
      exact ⟨rfl, K1.out⟩
    · obtain ⟨m, rfl⟩ : ∃ m : Nat, k = (m : Int) := ⟨k.toNat, by omega⟩
      have HN : Hid (∀ W, Kept w W → _) := fun W (kw : Kept w W) => Tl.new ho (k := m) (by omega) (by omega) kw
      have HR : Hid (∀ wr b gs gn, Tl w wr b gs gn order (List.replicate m .wait) → _) := fun wr b gs gn h => both_new ho (k := m) (by omega) (by omega) h (Same.refl _ wr)
      clear ho hk
      go_enter Try.func3, Try.ntmps3
      go_wp2_with fail
      refine Calls.mono (HA.out _) ?_
      rintro e w1 ⟨rfl, k1⟩
      have HN1 : Hid _ := HN.out _ k1
      clear k1 HN
      go_wp2_with fail
      refine Calls.mono HN1.out ?_
      rintro e w2 ⟨b, gs, gn, rfl, t2⟩
      have HR1 : Hid _ := HR.out _ _ _ _ t2
      clear t2 HR HN1
      go_wp2_with fail
      refine Calls.mono HR1.out ?_
      rintro e w3 ⟨rb, rs, rr, rfl, b3⟩
      have B3 : Hid _ := b3
      clear b3 HR1 HA
      go_wp2_with fail
      go_loopw [41] (fun i wr => ∃ (q : Nat) (S : List Sr), q ≤ n ∧ i = .int .i64 (q : Int) ∧ Bo w wr b gs gn rb rs rr order S S) (fun i _ => n - (intOf i).toNat)
      case atStart => exact ⟨0, _, Nat.zero_le _, rfl, B3.out⟩
      case round =>
        clear B3
        obtain ⟨q, S, hq, rfl, bo⟩ := hrel
        by_cases hlt : q < n
        · have e1 : decide ((q : Int) < (n : Int)) = true := decide_eq_true (by omega)
          have e1' : (q : Int) < (n : Int) := by omega
          obtain ⟨o, ho⟩ : ∃ o, l[q]? = some o := ⟨_, List.getElem?_eq_getElem (by rw [← EN.out]; exact hlt)⟩
          obtain ⟨bb, off, ea, hbb, c0, c1, c2, c3, c4, c5, c6, c7, c8⟩ := (OpsAt.on HO.out bo.tl.kept) q o ho
          subst ea
          have HS : Hid _ := step_any (bo.on ((Same.refl _ wr).alloc (opO o.kind o.at_ o.row))) o.kind o.at_ o.row
          have hlt2 : Hid _ := hlt
          clear bo ho
          obtain ⟨ok, oa, kind, time, seq, index, frm, til, body⟩ := o
          unfold opV opO at HS
          simp only at *
          go_wp2_with fail
          refine Calls.mono HS.out ?_
          rintro e w4 ⟨rfl, S', b4⟩
          have B4 : Hid _ := b4
          clear b4 HS
          go_wp2_with fail
          go_roundw
          case rel => exact ⟨q + 1, S', hlt2.out, by rw [Int.natCast_add]; rfl, B4.out⟩
          case measure => simp only [intOf]; omega
        · obtain rfl : n = q := by omega
          have e1 : decide ((n : Int) < (n : Int)) = false := by simp
          have HS : Hid _ := step_any bo 4 0 r0
          unfold opV at HS
          simp only [r0] at HS
          clear bo
          go_wp2_with fail
          refine Calls.mono HS.out ?_
          rintro e w4 ⟨rfl, S', b4⟩
          have HS2 : Hid _ := step_any b4 3 0 r0
          unfold opV at HS2
          simp only [r0] at HS2
          clear b4 HS
          go_wp2_with fail
          refine Calls.mono HS2.out ?_
          rintro e w5 ⟨rfl, S2, b5⟩
          have K5 : Hid _ := b5.tl.kept
          clear b5 HS2
          go_wp2_with fail
          go_ret
          exact ⟨rfl, K5.out⟩
  · have HN : Hid (∀ W, _) := fun W => new11_order ho k W
    have HR : Hid (∀ W, _) := fun W => rnew11_order ho k W
    clear ho
    go_enter Try.func3, Try.ntmps3
    go_wp2_with fail
    refine Calls.mono (HA.out _) ?_
    rintro e w1 ⟨rfl, k1⟩
    have K1 : Hid _ := k1
    clear k1
    go_wp2_with fail
    refine Calls.mono (HN.out _) ?_
    rintro e w2 ⟨rfl, rfl⟩
    go_wp2_with fail
    refine Calls.mono (HR.out _) ?_
    rintro e w2 ⟨rfl, rfl⟩
    go_wp2_with fail
    go_ret
    exact ⟨rfl, K1.out⟩
end Go.Proofs.Ytolaeiagfnhllaa
