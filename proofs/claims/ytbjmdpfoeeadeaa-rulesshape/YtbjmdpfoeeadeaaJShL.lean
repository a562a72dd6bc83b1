/- What is proved: the law RulesShape answers true and leaves all that was there as it was; the transaction fits a machine's memory. -/
import Derived.Test.YtbjmdpfoeeadeaaJRsh
import Derived.Test.YtbjmdpfoeeadeaaJAnc
import Derived.Test.YtbjmdpfoeeadeaaRCopy
namespace Go.Proofs.Ytbjmdpfoeeadeaa.Sw
open Go.RowKit

set_option maxRecDepth 100000 in
set_option maxHeartbeats 3200000 in
theorem shape_law (i : Int) (t : TxM) (eps : Int) (a : Option Addr) (c : Nat) (w : World) (h : ArgT w t a c) :
    Calls Try.prog 3 #[.int .i64 i, txV t (.slice a t.ops.length c), .int .i64 eps] w fun e w' => e = .returned (.bool true) ∧ Kept w w' := by
  have HA : Hid (∀ W, _) := fun W => anchor17 W
  have HC : Hid (∀ W, Kept w W → _) := fun W k => copy_any W t a c (h.on k)
  have HS : Hid (∀ W a' c', OwnO W.heap.size W (.slice a' t.ops.length c') t.ops → _) := fun W a' c' (_ : OwnO W.heap.size W (.slice a' t.ops.length c') t.ops) => Shape17 i t eps a' c' W
  have HR : Hid (∀ W, Kept w W → _) := fun W k => rShape17 i t eps a c W (fun W2 k2 => (h.on (k.trans' k2)).txa)
  have HM : Hid (∀ {base base' : Nat} (w : World) (a b : Option Addr) (n c d : Nat) (l : List Vl), _) := @same16
  have HL : Hid ((lisS i t eps).length ≤ 4) := by
    show (lisS i t eps).length ≤ 4
    unfold lisS
    split
    · exact shp_len i t eps
    · simp
  clear HS
  have HS : Hid (∀ W base a' c', OwnO base W (.slice a' t.ops.length c') t.ops → _) := fun W base a' c' (ho : OwnO base W (.slice a' t.ops.length c') t.ops) => Shape17 i t eps a' c' W (fun W2 k2 => OwnO.txa (OwnO.on ho k2))
  generalize hco : codS i t eps = co at *
  generalize hli : lisS i t eps = li at *
  clear hco hli
  generalize hn : t.ops.length = n at *
  clear h hn
  unfold txV at HC HS HR ⊢
  go_enter Try.func3, Try.ntmps3
  go_wp2_with fail
  refine Calls.mono (HA.out _) ?_
  rintro e W1 ⟨rfl, k1⟩
  have hb : W1.heap[w.heap.size]? = some (txO t a n c) := (k1.block _ (by simp [World.size_alloc]) (fun e => e)).trans (heap_new _ _)
  have K1 : Hid (Kept w W1) := ((Same.refl _ w).alloc _).trans' k1
  obtain ⟨⟨p0, p1, p2, p3, p4, p5, p6, p7⟩, -⟩ := tx_obj hb
  have hl := lt_of_heap hb
  have HB : Hid (W1.heap[w.heap.size]? = some (txO t a n c)) := hb
  clear hb k1
  go_wp2_with fail
  refine Calls.mono (HC.out _ K1.out) ?_
  rintro e W2 ⟨a2, c2, rfl, o2, k2⟩
  have K2 : Hid (Kept w W2) := K1.out.trans' k2
  have HB2 : Hid (W2.heap[w.heap.size]? = some (txO t a n c)) := (k2.block _ (lt_of_heap HB.out) (fun e => e)).trans HB.out
  have O2 : Hid (OwnO W1.heap.size W2 (.slice a2 n c2) t.ops) := o2
  clear o2 k2 p0 p1 p2 p3 p4 p5 p6 p7 hl K1
  go_wp2_with fail
  refine Calls.mono (HS.out _ _ _ _ O2.out) ?_
  rintro e W3 ⟨v3, rfl, o3, k3⟩
  obtain ⟨a3, m3, c3, ev, em⟩ : ∃ a m c, v3 = .slice a m c ∧ m = li.length := by
    obtain ⟨a, c, ev, -⟩ := row_shape o3
    exact ⟨_, _, _, ev, rfl⟩
  subst ev
  have K3 : Hid (Kept w W3) := K2.out.trans' k3
  have hb : W3.heap[w.heap.size]? = some (txO t a n c) := (k3.block _ (lt_of_heap HB2.out) (fun e => e)).trans HB2.out
  have O3 : Hid (OwnL W2.heap.size W3 (.slice a3 m3 c3) li) := o3
  obtain ⟨⟨p0, p1, p2, p3, p4, p5, p6, p7⟩, -⟩ := tx_obj hb
  have hl := lt_of_heap hb
  have EM : Hid (m3 = li.length) := em
  clear o3 k3 hb em
  go_wp2_with fail
  refine Calls.mono (HR.out _ K3.out) ?_
  rintro e W4 ⟨v4, rfl, o4, k4⟩
  obtain ⟨a4, m4, c4, ev, em⟩ : ∃ a m c, v4 = .slice a m c ∧ m = li.length := by
    obtain ⟨a, c, ev, -⟩ := row_shape o4
    exact ⟨_, _, _, ev, rfl⟩
  obtain rfl : m4 = m3 := em.trans EM.out.symm
  subst ev
  have O4 : Hid (OwnL W3.heap.size W4 (.slice a4 m4 c4) li) := o4
  have K4 : Hid (Kept w W4) := K3.out.trans' k4
  have O3' : Hid (OwnL W2.heap.size W4 (.slice a3 m4 c3) li) := row_kept O3.out k4 (fun _ _ e => e)
  clear o4 k4 em p0 p1 p2 p3 p4 p5 p6 p7 hl
  go_wp2_with fail
  refine Calls.mono (same16 W4 a3 a4 m4 c3 c4 li O3'.out O4.out EM.out (by have h1 := HL.out; have h2 := EM.out; omega)) ?_
  rintro e W5 ⟨rfl, k5⟩
  have K5 : Hid (Kept w W5) := K4.out.trans' k5
  clear k5
  go_wp2_with fail
  go_ret
  exact ⟨rfl, K5.out⟩
end Go.Proofs.Ytbjmdpfoeeadeaa.Sw
