/- What is proved: the anchor of the laws answers true and leaves all that was there as it was; no condition. -/
import Derived.Test.YtflemfohnpjeaaaLDecode
import Derived.Test.YtflemfohnpjeaaaLEnc
namespace Go.Proofs.Ytflemfohnpjeaaa
open Go.RowKit

def lA : List Int := [80, 82, 79, 1, 0, 0]
def lB : List Int := [80, 82, 79, 1, 0, 1]
theorem log_A : log7 [] = lA := by simp [log7, ents, head4, form_small, lA]
theorem dec_B : dec7 lB = .error (5, 72) := by
  simp [dec7, all7, next7, sc0, mg, head4, goOn, entry, foot, num, lB]
theorem byts_B : Byts lB := fun x hx => by
  simp only [lB, List.mem_cons, List.not_mem_nil, or_false] at hx
  omega
theorem enc_A (w : World) : Calls Try.prog 7 #[.slice none 0 0] w fun x w' => ∃ v, x = .returned (.tuple #[v, .int .i64 0, .int .i64 0]) ∧ OwnB w.heap.size w' v lA ∧ Kept w w' := by
  refine Calls.mono (encode7_any (l := []) (c := 0) (TxsAt.nil w none) (fun r h => (by cases h)) (by simp)) ?_
  rintro x w' ⟨k, h⟩
  rw [if_pos (by rfl)] at h
  obtain ⟨v, e, o⟩ := h
  rw [show ([] : List TxR).map TxR.t = [] from rfl, log_A] at o
  exact ⟨v, e, o, k⟩
theorem decode7_bad {w : World} {oa : Option Addr} {c : Nat} {d : List Int} (hd : BytesAt w oa d) (hnil : oa = none → d.length = 0 ∧ c = 0) (hb : d.length ≤ 211106232532992) (hby : Byts d) {p : Nat} {e : Int} (h : dec7 d = .error (p, e)) : Calls Try.prog 9 #[.slice oa d.length c] w fun x w' => x = .returned (.tuple #[.slice none 0 0, .int .i64 (p : Int), .int .i64 e]) ∧ Kept w w' := by
  refine Calls.mono (decode7_any (c := c) hd hnil hb hby) ?_
  rintro x w' ⟨k, m⟩
  rw [h] at m
  exact ⟨m, k⟩
theorem decode7_good {w : World} {oa : Option Addr} {c : Nat} {d : List Int} (hd : BytesAt w oa d) (hnil : oa = none → d.length = 0 ∧ c = 0) (hb : d.length ≤ 211106232532992) (hby : Byts d) {ts : List TxM} (h : dec7 d = .ok ts) : Calls Try.prog 9 #[.slice oa d.length c] w fun x w' => ∃ v l, l.map TxR.t = ts ∧ x = .returned (.tuple #[v, .int .i64 0, .int .i64 0]) ∧ Lst w.heap.size w' v l ∧ Kept w w' := by
  refine Calls.mono (decode7_any (c := c) hd hnil hb hby) ?_
  rintro x w' ⟨k, m⟩
  rw [h] at m
  obtain ⟨v, l, e1, e2, m⟩ := m
  exact ⟨v, l, e1, e2, m, k⟩
set_option maxRecDepth 100000 in
set_option maxHeartbeats 1600000 in
theorem anchor_any (w : World) : Calls Try.prog 4 #[] w fun e w' => e = .returned (.bool true) ∧ Kept w w' := by
  have H2 : Hid (∀ W a c, BytesAt W (some a) lB → _) := fun W a c (h : BytesAt W (some a) lB) => decode7_bad (c := c) h (fun e => by cases e) (by decide) byts_B dec_B
  have H3 : Hid (∀ (W : World) (a b : Option Addr) (ca cb : Nat), BytesAt W a lA → BytesAt W b lA → _) := fun W a b ca cb ha hb => same_true W a b ca cb lA ha hb (by decide)
  have hbl : lB.length = 6 := rfl
  have hal : lA.length = 6 := rfl
  rw [hbl] at H2
  rw [hal] at H3
  go_enter Try.func4, Try.ntmps4
  go_wp2_with fail
  refine Calls.mono (enc_A w) ?_
  rintro x w1 ⟨v, rfl, o1, k1⟩
  obtain ⟨a1, c1, rfl, d1, -⟩ := OwnB.bytes o1
  have D1 : Hid _ := d1
  have K1 : Hid _ := k1
  rw [hal]
  clear o1 d1 k1
  go_wp2_with fail
  refine Calls.mono (H2.out _ _ _ (bytes_new w1 lB)) ?_
  rintro x w2 ⟨rfl, k2⟩
  have K2 : Hid (Kept w w2) := K1.out.trans' (((Same.refl _ w1).alloc _).trans' k2)
  have D2 : Hid _ := BytesAt.kept (BytesAt.kept D1.out ((Same.refl (fun _ => False) w1).alloc (.cells (byt lB).toArray 5 (0, 0))) (fun _ _ h => h)) k2 (fun _ _ h => h)
  clear k2
  go_wp2_with fail
  refine Calls.mono (H3.out _ _ _ _ _ (BytesAt.kept D2.out ((Same.refl (fun _ => False) _).alloc _) (fun _ _ h => h)) (bytes_new w2 lA)) ?_
  rintro x w3 ⟨rfl, rfl⟩
  go_wp2_with fail
  go_ret
  exact ⟨rfl, K2.out.alloc _⟩
end Go.Proofs.Ytflemfohnpjeaaa
