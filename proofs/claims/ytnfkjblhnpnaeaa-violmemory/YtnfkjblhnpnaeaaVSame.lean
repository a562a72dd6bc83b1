/- What is proved: the law's comparison of two lists of violations says yes of two that are alike; both lie in memory. -/
import Derived.Test.YtnfkjblhnpnaeaaVTop
namespace Go.Proofs.Ytnfkjblhnpnaeaa
open Go.RowKit

theorem At.vl {w : World} {a : Option Addr} {l : List Vl} (h : At vl1 12 w a l) {j : Nat} {x : Vl} (hx : l[j]? = some x) : ∃ b o, a = some ⟨b, o, none⟩ ∧ b < w.heap.size ∧ w.cell? ⟨b, o + j * 12, none⟩ = some (.int .i64 x.kd) ∧ w.cell? ⟨b, o + j * 12 + 1, none⟩ = some (.int .i64 x.tm) ∧ w.cell? ⟨b, o + j * 12 + 2, none⟩ = some (.int .i64 x.tx) ∧ w.cell? ⟨b, o + j * 12 + 3, none⟩ = some (.int .i64 x.op) ∧ w.cell? ⟨b, o + j * 12 + 4, none⟩ = some (.int .i64 x.wi) ∧ w.cell? ⟨b, o + j * 12 + 5, none⟩ = some (.string x.key) ∧ w.cell? ⟨b, o + j * 12 + 6, none⟩ = some (.bool x.wa) ∧ w.cell? ⟨b, o + j * 12 + 7, none⟩ = some (.string x.ex) ∧ w.cell? ⟨b, o + j * 12 + 8, none⟩ = some (.bool x.go) ∧ w.cell? ⟨b, o + j * 12 + 9, none⟩ = some (.string x.ob) ∧ w.cell? ⟨b, o + j * 12 + 10, none⟩ = some (.int .i64 x.fr) ∧ w.cell? ⟨b, o + j * 12 + 11, none⟩ = some (.int .i64 x.tt) := by
  obtain ⟨b, o, e, hb, hc⟩ := h j x hx
  exact ⟨b, o, e, hb, hc 0 _ rfl, hc 1 _ rfl, hc 2 _ rfl, hc 3 _ rfl, hc 4 _ rfl, hc 5 _ rfl, hc 6 _ rfl, hc 7 _ rfl, hc 8 _ rfl, hc 9 _ rfl, hc 10 _ rfl, hc 11 _ rfl⟩
set_option maxRecDepth 100000 in
set_option maxHeartbeats 3200000 in
theorem same18 (w : World) (a b : Option Addr) (n c d : Nat) (l : List Vl) (ha : At vl1 12 w a l) (hb : At vl1 12 w b l) (hn : n = l.length) (hm : n ≤ 4398046511104) :
    Calls Try.prog 13 #[.slice a n c, .slice b n d] w fun e w' => e = .returned (.bool true) ∧ Kept w w' := by
  have HA : Hid (At vl1 12 w a l) := ha
  have HB : Hid (At vl1 12 w b l) := hb
  have HN : Hid (n = l.length) := hn
  clear ha hb hn
  go_enter Try.func13, Try.ntmps13
  go_wp2_with fail
  go_loopw [14] (fun i wr => ∃ j : Nat, i = .int .i64 j ∧ j ≤ n ∧ Kept w wr) (fun i _ => n - (intOf i).toNat)
  case atStart => exact ⟨0, rfl, Nat.zero_le _, Same.refl _ _⟩
  case round =>
    obtain ⟨j, rfl, hj, kj⟩ := hrel
    rename World => WL
    have KL : Hid (Kept w WL) := kj
    clear kj
    by_cases hlt : j < n
    · have d1 : decide ((j : Int) < (n : Int)) = true := decide_eq_true (by omega)
      have hlt2 : (j : Int) < (n : Int) := by omega
      have hws : IntKind.i64.wrap ((j : Int) + 1) = (j : Int) + 1 := by rw [IntKind.wrap_i64] <;> omega
      have hj1 : (j : Int) + 1 ≤ 9223372036854775807 := by omega
      obtain ⟨x, hx⟩ : ∃ x, l[j]? = some x := ⟨_, List.getElem?_eq_getElem (by rw [← show n = _ from HN.out]; exact hlt)⟩
      have HX : Hid (l[j]? = some x) := hx
      obtain ⟨ba, oa, rfl, hba, p0, p1, p2, p3, p4, p5, p6, p7, p8, p9, p10, p11⟩ := At.vl (HA.out.on KL.out) hx
      clear hx
      go_upto_region 6 with fail
      have GB : Hid _ := heap_new WL (vlO x)
      have KB : Hid (Kept w (WL.alloc (vlO x))) := KL.out.alloc _
      generalize WL.alloc (vlO x) = W6 at *
      generalize WL.heap.size = g6 at GB ⊢
      clear p0 p1 p2 p3 p4 p5 p6 p7 p8 p9 p10 p11 hba
      obtain ⟨bb, o2, rfl, hbb, p0, p1, p2, p3, p4, p5, p6, p7, p8, p9, p10, p11⟩ := At.vl (HB.out.on KB.out) HX.out
      obtain ⟨y0, y1, y2, y3, y4, y5, y6, y7, y8, y9, y10, y11⟩ := vl_cells GB.out
      have hg6 := lt_of_heap GB.out
      clear HX
      go_quiet (fail)
      go_wp2_with fail
      go_roundw
      case rel => exact ⟨j + 1, by simp, hlt, (by (repeat (first | exact KB.out | apply Same.drew | apply Same.drewN)); done)⟩
      case measure => simp only [intOf]; omega
    · obtain rfl : n = j := by omega
      have d1 : decide ((n : Int) < (n : Int)) = false := decide_eq_false (by omega)
      go_wp2_with fail
      go_ret
      exact ⟨rfl, KL.out⟩
end Go.Proofs.Ytnfkjblhnpnaeaa
