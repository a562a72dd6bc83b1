/- What is proved: OpenFile of a file that is right for the device; the device and the file lie in memory. -/
import Derived.Test.YtemfeaooenaelaaSOpen
namespace Go.Proofs.Ytemfeaooenaelaa
open Go.RowKit

def OpenP (o : Nat → Nat) (t : Nat) (w : World) (m : M) (p : Pl) (L : List Int) (n : Nat) (x : Ending) (w' : World) : Prop :=
  ∃ rb o', x = .returned (.tuple #[.pointer (some ⟨rb, 0, none⟩), .int .i64 0]) ∧ w.heap.size ≤ rb ∧ Step (fun _ => False) o w o' w' ∧ Rdr o' t w' p rb (.file L) 0 [] 0 n 0 ∧ RI (.file L) m (0 + n) 0 0 []
theorem nblk_le {n B : Nat} (hB : 0 < B) : n ≤ nblk n B * B := by
  unfold nblk
  have := Nat.div_add_mod (n + B - 1) B
  have := Nat.mod_lt (n + B - 1) hB
  rw [Nat.mul_comm]
  omega
set_option maxRecDepth 100000 in
set_option maxHeartbeats 1600000 in
theorem open_yes {o : Nat → Nat} (t : Nat) {w : World} {m : M} {p : Pl} (hd : Dv w m p) (L : List Int) (a : Option Addr) (c n : Nat) (hn : n ≤ 9223372036854775807) (hL : L.length = nblk n m.B) (hm : ∀ b ∈ L, 0 ≤ b ∧ b < (m.S : Int)) (hl : NumsAt w a L) (hnil : a = none → L.length = 0 ∧ c = 0) (hlen : L.length ≤ 17592186044416) :
    Calls Try.prog 27 #[.pointer (some ⟨p.db, 0, none⟩), fileV a L.length c (n : Int)] w (OpenP o t w m p L n) := by
  have b1 := hd.good.b1
  have HG : Hid (∀ W, Kept w W → _) := fun W (k : Kept w W) => geometry_any (hd.kept0 k)
  have HRT : Hid (∀ W, Kept w W → _) := fun W (k : Kept w W) => right_yes L a c n m.B m.S (by omega) hn hL hm W (hl.kept k (fun _ _ h => h)) (by omega)
  have HC : Hid (∀ W, Kept w W → _) := fun W (k : Kept w W) => cloneI_any W a c L (hl.kept k (fun _ _ h => h)) hnil hlen
  have HP : Hid (∀ W rb ca cc, Kept w W → w.heap.size ≤ rb → W.heap[rb]? = some (rdO (srcV (.file L) p ca cc) 0 none 0 0 0 n 0) → NumsAt W ca L → (∀ k, InB ca L.length k → w.heap.size ≤ k ∧ k ≠ rb) → OpenP o t w m p L n (.returned (.tuple #[.pointer (some ⟨rb, 0, none⟩), .int .i64 0])) W) := fun W rb ca cc k hrb hob hnm hnk => by
    refine ⟨rb, fun k => if k < w.heap.size then o k else if k = rb then t else 0, rfl, hrb, ⟨k, fun k hk => if_pos hk⟩, ⟨ca, cc, none, 0, hob, by rw [if_neg (by omega), if_pos rfl], hnm, fun k hk => ?_, by show L.length ≤ _; omega, BytesAt.nil _ _, fun k hk => absurd hk.1 (by simp), by simp, by omega, fun _ => ⟨rfl, rfl⟩, (fun ad e => by cases e)⟩, ⟨Nat.zero_le _, by omega, fun e => (by cases e), fun L' e => ?_⟩⟩
    · obtain ⟨q1, q2⟩ := hnk k hk
      rw [if_neg (by omega), if_neg q2]
    · cases e
      refine ⟨by simp, ?_, hm⟩
      rw [hL, Nat.zero_add]
      exact nblk_le (by omega)
  clear hd hm hl hnil hL
  unfold fileV at *
  obtain ⟨N, eN⟩ : ∃ N, N = L.length := ⟨_, rfl⟩
  have HN : Hid _ := eN
  rw [← eN] at HRT HC hlen ⊢
  clear eN
  have hnot : ∀ (x : Bool) (w : World), (Op.unary .not (.bool x)).run Try.prog w = .ok (.bool (!x)) w := fun _ _ => rfl
  go_enter Try.func27, Try.ntmps27
  go_upto_region 1 with fail
  go_cut [11] (fun s11 wx => s11 = .bool false ∧ Kept (w.alloc (.cells #[.slice a N c, .int .i64 (n : Int)] 60)) wx)
  case first =>
    have HBX0 : Hid (∀ W, Kept (w.alloc (.cells #[.slice a N c, .int .i64 (n : Int)] 60)) W → Kept (w.alloc (.cells #[.slice a N c, .int .i64 (n : Int)] 60)) W ∧ W.cell? ⟨w.heap.size, 0, none⟩ = some (.slice a N c) ∧ W.cell? ⟨w.heap.size, 1, none⟩ = some (.int .i64 n)) := fun W k => by
      have hbx : W.heap[w.heap.size]? = some (.cells #[.slice a N c, .int .i64 (n : Int)] 60 (0, 0)) := (k.block _ (by simp) (fun h => h)).trans (heap_new w _)
      exact ⟨k, (cell_of hbx 0).trans rfl, (cell_of hbx 1).trans rfl⟩
    go_region_held3 (fun w' => Kept (w.alloc (.cells #[.slice a N c, .int .i64 (n : Int)] 60)) w' ∧ w'.cell? ⟨w.heap.size, 0, none⟩ = some (.slice a N c) ∧ w'.cell? ⟨w.heap.size, 1, none⟩ = some (.int .i64 n))
      (exact HBX0.out _ (by (repeat (first | exact Same.refl _ _ | apply Same.drew | refine Same.trans' ?_ k2 | refine Same.trans' ?_ k1)); done))
      (first
      | (go_at_call 54; refine Calls.mono (HG.out _ (by (repeat (first | exact Same.refl _ _ | apply Same.alloc | apply Same.drew | refine Same.trans' ?_ k2)); done)) ?_; rintro x w1 ⟨rfl, k1⟩)
      | (go_at_call 53; refine Calls.mono (HRT.out _ (by (repeat (first | exact Same.refl _ _ | apply Same.alloc | apply Same.drew | refine Same.trans' ?_ k1)); done)) ?_; rintro x w2 ⟨rfl, k2⟩))
    all_goals
      go_wp2_with fail
      go_meet
      exact ⟨rfl, (by (repeat (first | exact Same.refl _ _ | apply Same.drew | refine Same.trans' ?_ k2 | refine Same.trans' ?_ k1)); done)⟩
  case rest =>
    obtain ⟨rfl, kc⟩ := hcut
    have hbx : wc.heap[w.heap.size]? = some (.cells #[.slice a N c, .int .i64 (n : Int)] 60 (0, 0)) := (kc.block _ (by simp) (fun h => h)).trans (heap_new w _)
    have kw : Kept w wc := ((Same.refl _ w).alloc _).trans' kc
    have HC2 : Hid _ := HC.out wc kw
    have KW : Hid _ := kw
    have b0 : wc.cell? ⟨w.heap.size, 0, none⟩ = some (.slice a N c) := (cell_of hbx 0).trans rfl
    have b1 : wc.cell? ⟨w.heap.size, 1, none⟩ = some (.int .i64 n) := (cell_of hbx 1).trans rfl
    have hlb := lt_of_heap hbx
    have HBX : Hid _ := hbx
    clear hbx kc kw HC HG HRT
    go_wp2_with fail
    refine Calls.mono HC2.out ?_
    rintro x w1 ⟨v, rfl, ca, cc, rfl, q1, q2, k1⟩
    have y1 : w1.cell? ⟨w.heap.size, 1, none⟩ = some (.int .i64 n) := (k1.cell (p := ⟨w.heap.size, 1, none⟩) hlb (fun h => h)).trans b1
    have hl1 : w.heap.size < w1.heap.size := Nat.lt_of_lt_of_le hlb k1.size
    have Q : Hid _ := And.intro q1 (And.intro q2 k1)
    clear q1 q2 k1 b0 b1 HBX
    rw [← HN.out]
    go_wp2_with fail
    go_ret2
    obtain ⟨q1, q2, k1⟩ := Q.out
    have hN := HN.out
    subst hN
    have hkw := KW.out.size
    refine HP.out _ (w1.heap.size + 1) ca cc (((KW.out.trans' k1).alloc _).alloc _) (by omega) ?_ ((q1.kept (S := fun _ => False) (((Same.refl _ w1).alloc _).alloc _) (fun _ _ h => h))) fun k hk => ⟨Nat.le_trans hkw (q2 k hk), fun e => ?_⟩
    · have := heap_new (w1.alloc (.cells #[.pointer (some ⟨p.db, 0, none⟩), .slice ca L.length cc] 133)) (rdO (srcV (.file L) p ca cc) 0 none 0 0 0 n 0)
      rw [World.size_alloc] at this
      exact this
    · have := q1.lt hk
      omega
end Go.Proofs.Ytemfeaooenaelaa
