/- What is proved: the law's build makes a graph of the edges that it takes; the list lies in memory. -/
import Derived.Test.YtbhihmkgimdjpaaDoorGhN
namespace Go.Proofs.YtbhihmkgimdjpaaDoor
open Go.RowKit

/-- The edges that a graph of n nodes takes of a list, behind those that it has. -/
def bld (n : Nat) (E : List Eg) (l : List Eg) : List Eg := l.foldl (addE n) E
theorem bld_take {n : Nat} {E l : List Eg} {j : Nat} {e : Eg} (h : l[j]? = some e) : bld n E (l.take (j + 1)) = addE n (bld n E (l.take j)) e := by
  unfold bld
  rw [List.take_add_one, h, Option.toList_some, List.foldl_append]
  rfl
set_option maxRecDepth 100000 in
set_option maxHeartbeats 3200000 in
theorem build19 {n : Nat} (hn : n ≤ 1024) (w : World) (a : Option Addr) (cap : Nat) (l : List Eg) (hat : At eg1 3 w a l) (hok : ∀ e ∈ l, Eok e) (hl : l.length ≤ 1000) : Calls Tryd.prog 12 #[.int .i64 (n : Int), .slice a l.length cap] w fun r w' => (∃ gb, r = .returned (.pointer (some ⟨gb, 0, none⟩)) ∧ Gb w.heap.size w' gb n (bld n [] l)) ∧ Kept w w' := by
  have HN : Hid _ := new19_ok hn w
  have HA : Hid (∀ W, Kept w W → At eg1 3 W a l) := fun W k => hat.on k
  have HOK : Hid (∀ e ∈ l, Eok e) := hok
  obtain ⟨len, elen⟩ : ∃ len, len = l.length := ⟨_, rfl⟩
  rw [← elen] at hl ⊢
  have HLEN : Hid (len = l.length) := elen
  clear hat hok elen
  go_enter Tryd.func12, Tryd.ntmps12
  go_wp2_with fail
  refine Calls.mono HN.out ?_
  rintro r w1 ⟨⟨gb, rfl, hg⟩, k1⟩
  have HG : Hid (Gb w.heap.size w1 gb n [] ∧ Kept w w1) := ⟨hg, k1⟩
  clear hg k1 HN
  go_wp2_with fail
  go_loopw [22] (fun i wr => ∃ j : Nat, i = .int .i64 (j : Int) ∧ j ≤ len ∧ Gb w.heap.size wr gb n (bld n [] (l.take j)) ∧ Kept w wr) (fun i _ => len - (intOf i).toNat)
  case atStart => exact ⟨0, rfl, Nat.zero_le _, HG.out.1, HG.out.2⟩
  case round =>
    obtain ⟨j, rfl, hj, hg, hk⟩ := hrel
    rename World => WL
    have HL : Hid (Gb w.heap.size WL gb n (bld n [] (l.take j)) ∧ Kept w WL) := ⟨hg, hk⟩
    by_cases hlt : j < len
    · have c1 : (j : Int) < (len : Int) := by omega
      have c2 : (j : Int) ≤ 1000 := by omega
      obtain ⟨x, hx⟩ : ∃ x, l[j]? = some x := ⟨_, List.getElem?_eq_getElem (by rw [← show len = _ from HLEN.out]; exact hlt)⟩
      obtain ⟨b, off, rfl, hb, hc⟩ := HA.out WL hk j x hx
      have p0 : WL.cell? ⟨b, off + j * 3, none⟩ = some (.int .i64 x.f) := hc 0 _ rfl
      have p1 : WL.cell? ⟨b, off + j * 3 + 1, none⟩ = some (.int .i64 x.t) := hc 1 _ rfl
      have p2 : WL.cell? ⟨b, off + j * 3 + 2, none⟩ = some (.int .i64 x.l) := hc 2 _ rfl
      have gx := HG.out.2
      have K4 : Kept WL (WL.alloc (egO x)) := (Same.refl _ WL).alloc _
      have HAD : Hid _ := add19 (hg.on K4) (Nat.le_trans hk.size K4.size) x (HOK.out x (List.mem_of_getElem? hx))
      rw [← bld_take hx] at HAD
      have HK4 : Hid (Kept w (WL.alloc (egO x))) := hk.trans' K4
      obtain ⟨xf, xt, xl⟩ := x
      simp only at p0 p1 p2
      clear hg hk hc hx K4 gx
      go_wp2_with fail
      refine Calls.mono HAD.out ?_
      rintro r w5 ⟨rfl, hg5, s5⟩
      have H5 : Hid (Gb w.heap.size w5 gb n (bld n [] (l.take (j + 1))) ∧ Kept w w5) := ⟨hg5, HK4.out.trans s5 (fun i hi e => by omega)⟩
      clear hg5 s5 HAD
      go_wp2_with fail
      go_roundw
      case rel => exact ⟨j + 1, by simp, hlt, H5.out.1, H5.out.2⟩
      case measure => simp only [intOf]; omega
    · obtain rfl : len = j := by omega
      have c1 : ¬ (len : Int) < (len : Int) := by omega
      clear hg hk
      go_wp2_with fail
      go_ret
      refine ⟨⟨gb, rfl, ?_⟩, HL.out.2⟩
      have := HL.out.1
      rwa [show len = l.length from HLEN.out, List.take_length] at this
end Go.Proofs.YtbhihmkgimdjpaaDoor
