/- What is proved: the anchor of the laws answers true and leaves all that was there as it was; no condition. -/
import Derived.Test.YtcmoejnljhmflabRSame
import Derived.Test.YtcmoejnljhmflabRDec
import Derived.Test.YtcmoejnljhmflabREnc
namespace Go.Proofs.Ytcmoejnljhmflab
open Go.RowKit

def oA : OpM := ⟨2, ⟨#[97]⟩, true, ⟨#[120]⟩⟩
def tA : TxM := ⟨1, 0, 5, 9, 5, 9, 1, [oA]⟩
def bA : List Int := [1, 0, 5, 9, 5, 9, 1, 1, 3, 1, 97, 1, 120]
theorem right_A : Right tA := ⟨by decide, by decide, fun o ho => by
  simp only [tA, List.mem_cons, List.not_mem_nil, or_false] at ho
  subst ho
  decide⟩
theorem body_A : body tA = bA := by
  simp [body, heads, forms, tA, oA, encOs, encO, encT, tagO, nums, form_small, bA, ByteArray.size]
theorem byts_A : Byts bA := by rw [← body_A]; exact byts_body tA
theorem dec_A : decode bA = .ok tA := by rw [← body_A]; exact dec_body right_A
theorem ops_new (w : World) (o : OpM) : OpsAt (w.alloc (.cells #[.int .i64 o.kind, .string o.key, .bool o.found, .string o.value] 24 (0, 0))) (some ⟨w.heap.size, 0, none⟩) [o] := fun i x hx => by
  cases i with
  | zero =>
    simp only [List.getElem?_cons_zero, Option.some.injEq] at hx
    subst hx
    exact ⟨w.heap.size, 0, rfl, by simp [World.size_alloc], (cell_of (heap_new w _) 0).trans rfl, (cell_of (heap_new w _) 1).trans rfl, (cell_of (heap_new w _) 2).trans rfl, (cell_of (heap_new w _) 3).trans rfl⟩
  | succ i => simp at hx
/-- What Decode answers of a list that is read as t. -/
theorem decode_good {w : World} {oa : Option Addr} {c : Nat} {l : List Int} (hl : BytesAt w oa l) (hnil : oa = none → l.length = 0 ∧ c = 0) (hb : l.length ≤ 140737488355328) (hby : Byts l) {t : TxM} (h : decode l = .ok t) :
    Calls Try.prog 9 #[.slice oa l.length c] w fun e w' => ∃ a cap, e = .returned (.tuple #[txV t (.slice a t.ops.length cap), .int .i64 0, .int .i64 0]) ∧ OwnO w.heap.size w' (.slice a t.ops.length cap) t.ops ∧ Kept w w' := by
  refine Calls.mono (decode_any w oa c l hl hnil hb hby) ?_
  rintro e w' ⟨k, m⟩
  rw [h] at m
  obtain ⟨v, rfl, o⟩ := m
  obtain ⟨a, cap, rfl, -⟩ := OwnO.ops o
  exact ⟨a, cap, rfl, o, k⟩
theorem decode_bad {w : World} {oa : Option Addr} {c : Nat} {l : List Int} (hl : BytesAt w oa l) (hnil : oa = none → l.length = 0 ∧ c = 0) (hb : l.length ≤ 140737488355328) (hby : Byts l) {p : Nat} {z : Int} (h : decode l = .error (p, z)) :
    Calls Try.prog 9 #[.slice oa l.length c] w fun e w' => e = .returned (.tuple #[txV t0 (.slice none 0 0), .int .i64 (p : Int), .int .i64 z]) ∧ Kept w w' := by
  refine Calls.mono (decode_any w oa c l hl hnil hb hby) ?_
  rintro e w' ⟨k, m⟩
  rw [h] at m
  exact ⟨m, k⟩
theorem OwnO.txa {base : Nat} {w : World} {t : TxM} {a : Option Addr} {cap : Nat} (o : OwnO base w (.slice a t.ops.length cap) t.ops) : TxA w t (txV t (.slice a t.ops.length cap)) := by
  obtain ⟨a', cap', e, h, -⟩ := OwnO.ops o
  simp only [Value.slice.injEq, true_and] at e
  obtain ⟨rfl, rfl⟩ := e
  exact ⟨a, cap, rfl, h⟩
set_option maxRecDepth 100000 in
set_option maxHeartbeats 3200000 in
theorem anchor_any (w : World) : Calls Try.prog 5 #[] w fun e w' => e = .returned (.bool true) ∧ Kept w w' := by
  have H1 : Hid (∀ W a, OpsAt W a tA.ops → _) := fun W a (h : OpsAt W a tA.ops) => encode_ok W tA (txV tA (.slice a 1 1)) ⟨a, 1, rfl, h⟩ right_A
  rw [body_A] at H1
  have H2 : Hid (∀ W a c, BytesAt W (some a) bA → _) := fun W a c (h : BytesAt W (some a) bA) => decode_good (c := c) h (fun e => by cases e) (by decide) byts_A dec_A
  have H3 : Hid (∀ (W : World) (a b : Option Addr) (ca cb : Nat), BytesAt W a bA → BytesAt W b bA → _) := fun W a b ca cb ha hb => same_true W a b ca cb bA ha hb (by decide)
  have H4 : Hid (∀ W va vb, TxA W tA va → TxA W tA vb → _) := fun W va vb ha hb => sameT W tA va vb ha hb (by decide)
  have HO : Hid (∀ W, _) := fun W => ops_new W oA
  have hbl : bA.length = 13 := rfl
  rw [hbl] at H2 H3
  go_enter Try.func5, Try.ntmps5
  go_wp2_with fail
  obtain ⟨t1, t2, t3⟩ := three_new w (.cells #[.int .i64 2, .string ⟨#[97]⟩, .bool true, .string ⟨#[120]⟩] 24 (0, 0)) (.cells #[.int .i64 1, .int .i64 0, .int .i64 5, .int .i64 9, .int .i64 5, .int .i64 9, .int .i64 1, .slice (some ⟨w.heap.size, 0, none⟩) 1 1] 27 (0, 0)) (.cells (byt bA).toArray 5 (0, 0))
  have OW : Hid _ := OpsAt.on (HO.out w) (((Same.refl (fun _ => False) _).alloc (.cells #[.int .i64 1, .int .i64 0, .int .i64 5, .int .i64 9, .int .i64 5, .int .i64 9, .int .i64 1, .slice (some ⟨w.heap.size, 0, none⟩) 1 1] 27 (0, 0))).alloc (.cells (byt bA).toArray 5 (0, 0)))
  have BW : Hid _ := bytes_new ((w.alloc (.cells #[.int .i64 2, .string ⟨#[97]⟩, .bool true, .string ⟨#[120]⟩] 24 (0, 0))).alloc (.cells #[.int .i64 1, .int .i64 0, .int .i64 5, .int .i64 9, .int .i64 5, .int .i64 9, .int .i64 1, .slice (some ⟨w.heap.size, 0, none⟩) 1 1] 27 (0, 0))) bA
  have T2 : Hid _ := t2
  clear t1 t2 t3
  refine Calls.mono (H1.out _ _ OW.out) ?_
  rintro e w1 ⟨v1, rfl, o1, k1⟩
  obtain ⟨a1, c1, rfl, d1, -, -, -, -⟩ := OwnB.bytes o1
  have BW1 : Hid _ := BytesAt.kept BW.out k1 (fun _ _ h => h)
  have OW1 : Hid _ := OpsAt.on OW.out k1
  have T1 : Hid _ := (k1.block _ (lt_of_heap T2.out) (fun h => h)).trans T2.out
  have D1 : Hid _ := d1
  have K1 : Hid (Kept w w1) := ((((Same.refl _ w).alloc _).alloc _).alloc _).trans' k1
  simp only [World.size_alloc] at BW1
  rw [hbl]
  clear o1 d1 k1 BW OW T2
  go_wp2_with fail
  refine Calls.mono (H2.out _ _ _ BW1.out) ?_
  rintro e w2 ⟨a2, c2, rfl, o2, k2⟩
  have x2 := (k2.block _ (lt_of_heap T1.out) (fun h => h)).trans T1.out
  obtain ⟨⟨m0, m1, m2, m3, m4, m5, m6, m7⟩, -⟩ := tx_obj x2
  have hlt := lt_of_heap x2
  have K2 : Hid (Kept w w2) := Same.trans' K1.out k2
  have D2 : Hid _ := BytesAt.kept D1.out k2 (fun _ _ h => h)
  have BW2 : Hid _ := BytesAt.kept BW1.out k2 (fun _ _ h => h)
  have TA : Hid _ := OwnO.txa o2
  have TB : Hid (TxA w2 tA (txV tA (.slice (some ⟨w.heap.size, 0, none⟩) 1 1))) := ⟨_, _, rfl, OpsAt.on OW1.out k2⟩
  rw [show txV tA (.slice a2 tA.ops.length c2) = .agg #[.int .i64 1, .int .i64 0, .int .i64 5, .int .i64 9, .int .i64 5, .int .i64 9, .int .i64 1, .slice a2 1 c2] from rfl]
  clear o2 k2 x2
  go_wp2_with fail
  refine Calls.mono (H3.out _ _ _ _ _ (BytesAt.kept D2.out ((Same.refl (fun _ => False) _).alloc _) (fun _ _ h => h)) (BytesAt.kept BW2.out ((Same.refl (fun _ => False) _).alloc _) (fun _ _ h => h))) ?_
  rintro e w3 ⟨rfl, rfl⟩
  go_wp2_with fail
  refine Calls.mono (H4.out _ _ _ (TxA.on TB.out ((Same.refl _ _).alloc _)) (TxA.on TA.out ((Same.refl _ _).alloc _))) ?_
  rintro e w4 ⟨rfl, k4⟩
  have K4 : Hid (Kept w w4) := (K2.out.alloc _).trans' k4
  clear k4
  go_wp2_with fail
  go_ret
  exact ⟨rfl, K4.out⟩
end Go.Proofs.Ytcmoejnljhmflab
