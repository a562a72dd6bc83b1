/- What is proved: the anchor of the laws answers true and leaves all that was there as it was; no condition. -/
import Derived.Test.YtcbllejjiokmbaaQDec
namespace Go.Proofs.Ytcbllejjiokmbaa
open Go.RowKit

def rA : RwM := ⟨1, 300, 0, 2, 0, 0, ⟨#[97, 98]⟩⟩
def bA : List Int := [1, 172, 2, 0, 2, 0, 0, 2, 97, 98]
theorem right_A : rightR rA := by decide
theorem bytes_A : bytesR rA = bA := by
  have e : form 300 = [172, 2] := by
    rw [form_big (by decide), form_small (by decide)]
    rfl
  show (1 : Int) :: (form 300 ++ (form 0 ++ (form 2 ++ (form 0 ++ (form 0 ++ (form 2 ++ nums ⟨#[97, 98]⟩)))))) = bA
  rw [e, form_small (by decide), form_small (by decide)]
  rfl
theorem byts_A : Byts bA := by rw [← bytes_A]; exact byts_bytesR right_A
theorem dec_A : dec9 bA = .ok (rA, 10) := by
  have := dec9_bytes right_A []
  rw [List.append_nil, bytes_A] at this
  exact this
theorem eql_row (r : RwM) (w : World) : (binOp .eql 26 (rowV r) (rowV r)).run Try.prog w = .ok (.bool true) w := by
  obtain ⟨kind, time, seq, index, frm, til, body⟩ := r
  unfold rowV
  go_simp
theorem eql_rrow (r : RwM) (w : World) : (binOp .eql 46 (rowV r) (rowV r)).run Try.prog w = .ok (.bool true) w := by
  obtain ⟨kind, time, seq, index, frm, til, body⟩ := r
  unfold rowV
  go_simp
theorem neq_row (r : RwM) (w : World) : (binOp .neq 26 (rowV r) (rowV r)).run Try.prog w = .ok (.bool false) w := by
  obtain ⟨kind, time, seq, index, frm, til, body⟩ := r
  unfold rowV
  go_simp
/-- Decode of a list that is read. -/
theorem decode9_good {w : World} {oa : Option Addr} {c : Nat} {l : List Int} (hl : BytesAt w oa l) (hnil : oa = none → l.length = 0 ∧ c = 0) (hb : l.length ≤ 140737488355328) (hcap : l.length ≤ c) (hby : Byts l) {r : RwM} {n : Nat} (h : dec9 l = .ok (r, n)) :
    Calls Try.prog 13 #[.slice oa l.length c] w fun e w' => e = .returned (.tuple #[rowV r, .int .i64 (n : Int), .int .i64 0]) ∧ Kept w w' := by
  refine Calls.mono (decode9_any w oa c l hl hnil hb hcap hby) ?_
  rintro e w' ⟨k, m⟩
  rw [h] at m
  exact ⟨m, k⟩
theorem decode9_bad {w : World} {oa : Option Addr} {c : Nat} {l : List Int} (hl : BytesAt w oa l) (hnil : oa = none → l.length = 0 ∧ c = 0) (hb : l.length ≤ 140737488355328) (hcap : l.length ≤ c) (hby : Byts l) {p : Nat} {z : Int} (h : dec9 l = .error (p, z)) :
    Calls Try.prog 13 #[.slice oa l.length c] w fun e w' => e = .returned (.tuple #[rowV r0, .int .i64 (p : Int), .int .i64 z]) ∧ Kept w w' := by
  refine Calls.mono (decode9_any w oa c l hl hnil hb hcap hby) ?_
  rintro e w' ⟨k, m⟩
  rw [h] at m
  exact ⟨m, k⟩
set_option maxRecDepth 100000 in
set_option maxHeartbeats 1600000 in
theorem anchor9_any (w : World) : Calls Try.prog 9 #[] w fun e w' => e = .returned (.bool true) ∧ Kept w w' := by
  have H1 : Hid (∀ W, _) := fun W => encode9_ok W rA right_A
  rw [bytes_A] at H1
  have H2 : Hid (∀ W oa c, BytesAt W oa bA → (oa = none → bA.length = 0 ∧ c = 0) → bA.length ≤ c → _) := fun W oa c (h : BytesAt W oa bA) h2 h3 => decode9_good h h2 (by decide) h3 byts_A dec_A
  have H3 : Hid (∀ (W : World) (a b : Option Addr) (ca cb : Nat), BytesAt W a bA → BytesAt W b bA → _) := fun W a b ca cb ha hb => same_true W a b ca cb bA ha hb (by decide)
  have hbl : bA.length = 10 := rfl
  have HQ := eql_row rA
  rw [hbl] at H2 H3
  rw [show rowV rA = .agg #[.int .i64 1, .int .i64 300, .int .i64 0, .int .i64 2, .int .i64 0, .int .i64 0, .string ⟨#[97, 98]⟩] from rfl] at H1 H2 HQ
  go_enter Try.func9, Try.ntmps9
  go_wp2_with fail
  refine Calls.mono (H1.out _) ?_
  rintro e w1 ⟨v1, rfl, o1, k1⟩
  obtain ⟨a1, c1, rfl, d1, hc1, hn1, -, -⟩ := OwnB.bytes o1
  have b1 := (k1.block w.heap.size (by simp [World.size_alloc]) (fun h => h)).trans (heap_new w _)
  have B1 : Hid _ := b1
  have hlt := lt_of_heap b1
  have D1 : Hid _ := d1
  have HC1 : Hid _ := hc1
  have HN1 : Hid _ := hn1
  have BW : Hid _ := bytes_new w1 bA
  have K1 : Hid (Kept w w1) := ((Same.refl _ w).alloc _).trans' k1
  rw [hbl]
  rw [hbl] at HC1 HN1
  clear o1 d1 k1 b1 hc1 hn1
  go_wp2_with fail
  refine Calls.mono (H3.out _ _ _ _ _ (BytesAt.kept D1.out ((Same.refl (fun _ => False) _).alloc _) (fun _ _ h => h)) BW.out) ?_
  rintro e w3 ⟨rfl, ew3⟩
  have D3 : Hid (BytesAt w3 a1 bA) := by rw [ew3]; exact BytesAt.kept D1.out ((Same.refl (fun _ => False) _).alloc _) (fun _ _ h => h)
  have b3 : w3.heap[w.heap.size]? = w1.heap[w.heap.size]? := by rw [ew3]; exact heap_old _ _ hlt
  have B3 : Hid _ := b3.trans B1.out
  have K3 : Hid (Kept w w3) := by rw [ew3]; exact K1.out.alloc _
  clear ew3 b3 BW
  go_wp2_with fail
  refine Calls.mono (H2.out _ _ _ D3.out HN1.out HC1.out) ?_
  rintro e w4 ⟨rfl, k4⟩
  have b4 := (k4.block _ (lt_of_heap B3.out) (fun h => h)).trans B3.out
  obtain ⟨⟨c0, c1', c2, c3, c4, c5, c6⟩, -⟩ := row_obj b4
  have hlt4 := lt_of_heap b4
  have K4 : Hid (Kept w w4) := K3.out.trans' k4
  clear k4 b4
  go_wp2_with fail
  go_ret
  exact ⟨rfl, K4.out.alloc _⟩
end Go.Proofs.Ytcbllejjiokmbaa
