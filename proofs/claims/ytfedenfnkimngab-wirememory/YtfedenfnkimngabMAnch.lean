/- What is proved: the anchor of the laws answers true and leaves all that was there as it was; no condition. -/
import Derived.Test.YtfedenfnkimngabMMeth
namespace Go.Proofs.Ytfedenfnkimngab
open Go.RowKit

theorem form_300 : form 300 = [172, 2] := by
  rw [form_big (by decide), form_small (by decide)]
  rfl
theorem rNum_300 : rNum [172, 2] 0 0 300 = ((300, 0), (2, 0)) := by rfl
theorem byts_300 : Byts [172, 2] := Byts.cons (by decide) (Byts.cons (by decide) Byts.nil)

theorem bytes_tail {w : World} {g : Nat} {x : Int} {l : List Int} (h : BytesAt w (some ⟨g, 0, none⟩) (x :: l)) : BytesAt w (some ⟨g, 1, none⟩) l := by
  have := bytes_part h 1 l.length
  simpa using this

set_option maxRecDepth 100000 in
set_option maxHeartbeats 1600000 in
theorem anchor_any (w : World) : Calls Try.prog 4 #[] w fun e w' => e = .returned (.bool true) ∧ Kept w w' := by
  have H1 : Hid (Calls Try.prog 5 #[.slice (some ⟨w.heap.size, 0, none⟩) 1 1, .int .i64 300] (w.alloc (.cells #[.int .u8 7] 5)) fun e w' => ∃ v, e = .returned (.tuple #[v, .int .i64 0]) ∧ OwnB w.heap.size w' v [7, 172, 2] ∧ Kept w w') := by
    refine Calls.mono (append_any (w.alloc (.cells #[.int .u8 7] 5)) (some ⟨w.heap.size, 0, none⟩) 1 [7] 300 (bytes_new w [7]) (fun e => by cases e) (by decide) (by decide)) ?_
    rintro e w' ⟨v, rfl, o, k⟩
    rw [form_300] at o
    exact ⟨v, rfl, OwnB.lower o (by simp), ((Same.refl _ w).alloc _).trans' k⟩
  have H2 : Hid (∀ (w2 : World) (a b : Option Addr) (ca cb : Nat), BytesAt w2 a [7, 172, 2] → BytesAt w2 b [7, 172, 2] → Calls Try.prog 7 #[.slice a 3 ca, .slice b 3 cb] w2 fun e w' => e = .returned (.bool true) ∧ w' = w2) :=
    fun w2 a b ca cb ha hb => same_true w2 a b ca cb [7, 172, 2] ha hb (by decide)
  have H3 : Hid (∀ (w2 : World) (g off c : Nat), BytesAt w2 (some ⟨g, off, none⟩) [172, 2] → Calls Try.prog 8 #[.slice (some ⟨g, off, none⟩) 2 c] w2 fun e w' => ∃ v, e = .returned v ∧ NewCu w2.heap.size [172, 2] v w' ∧ Kept w2 w') :=
    fun w2 g off c hb => open_any w2 (some ⟨g, off, none⟩) c [172, 2] hb (fun e => by cases e) (by decide) byts_300
  have H4 : Hid (∀ (w2 : World) (cb : Nat) (a : Option Addr) (cap : Nat), Cu w2 cb a cap [172, 2] 0 0 → Calls Try.prog 10 #[.pointer (some ⟨cb, 0, none⟩), .int .i64 300] w2 fun e w' => e = .returned (.tuple #[.int .i64 300, .int .i64 0]) ∧ Same (fun k => k = cb) w2 w') := fun w2 cb a cap h => by
    refine Calls.mono (number_any h 300) ?_
    rintro e w' ⟨rfl, _, s⟩
    exact ⟨rfl, s⟩
  go_enter Try.func4, Try.ntmps4
  go_wp2_with fail
  refine Calls.mono H1.out ?_
  rintro e w1 ⟨v, rfl, o1, k1⟩
  obtain ⟨a, cap, rfl, hd, hlc, hn, ha, hsp⟩ := OwnB.bytes o1
  have hl3 : ([7, 172, 2] : List Int).length = 3 := rfl
  rw [hl3] at hlc ⊢
  obtain ⟨g, rfl⟩ : ∃ g, a = some ⟨g, 0, none⟩ := by
    obtain ⟨b, off, rfl, -, -⟩ := hd 0 7 rfl
    exact ⟨b, by rw [(ha b off rfl).2]⟩
  have K1 : Hid _ := k1
  have HD : Hid _ := hd
  have hc1 : 1 < cap := by omega
  have hc2 : ¬ cap = 1 := by omega
  clear o1 k1 hd hn ha hsp hl3 hlc
  go_wp2_with fail
  refine Calls.mono (H2.out _ _ _ _ _ (BytesAt.kept HD.out ((Same.refl (fun _ => False) _).alloc _) (fun _ _ h => h)) (bytes_new w1 [7, 172, 2])) ?_
  rintro e w2 ⟨rfl, rfl⟩
  go_wp2_with fail
  refine Calls.mono (H3.out _ _ _ _ (BytesAt.kept (bytes_tail HD.out) ((Same.refl (fun _ => False) _).alloc _) (fun _ _ h => h))) ?_
  rintro e w3 ⟨v, rfl, ⟨cb, a, cp, rfl, hcu, hcb, -⟩, k3⟩
  have HC : Hid _ := H4.out _ _ _ _ hcu
  have K3 : Hid (Kept w w3) := (Same.trans' K1.out ((Same.refl _ _).alloc _)).trans' k3
  have HCB : Hid (w.heap.size ≤ cb) := by
    have := (K1.out).size
    simp only [World.size_alloc] at hcb
    show w.heap.size ≤ cb
    omega
  clear hcu hcb k3
  go_wp2_with fail
  refine Calls.mono HC.out ?_
  rintro e w4 ⟨rfl, s4⟩
  have K4 : Hid (Kept w w4) := Same.trans K3.out s4 (fun i hi e => by have := HCB.out; omega)
  clear s4
  go_wp2_with fail
  go_ret
  exact ⟨rfl, K4.out⟩
end Go.Proofs.Ytfedenfnkimngab
