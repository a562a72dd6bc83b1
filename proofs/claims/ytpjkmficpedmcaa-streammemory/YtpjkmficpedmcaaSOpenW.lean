/- What is proved: OpenFile of a file that is right for the device; the device and the file lie in memory. -/
import Derived.Test.YtpjkmficpedmcaaSCloseX
import Derived.Test.YtpjkmficpedmcaaSReadY
namespace Go.Proofs.Ytpjkmficpedmcaa
open Go.RowKit

theorem own_base {base n : Nat} {e : TypeId} {w : World} {v : Value} {l : List Value} (h : w.ownsRow base e 1 v n l) {k : Nat} (hk : v.ownBlock = some k) : base ≤ k := by
  rcases h.2 with ⟨rfl, _⟩ | ⟨g, cap, cur, rfl, hb, hg, h1, h2, h3, h4⟩
  · simp [Value.ownBlock] at hk
  · simp [Value.ownBlock] at hk
    omega
set_option maxRecDepth 100000 in
set_option maxHeartbeats 800000 in
theorem blocksOf_any (n B : Nat) (hB : 1 < B) (hn : n ≤ 9223372036854775807) (w : World) : Calls Try.prog 32 #[.int .i64 (n : Int), .int .i64 (B : Int)] w fun x w' => x = .returned (.int .i64 (nblk n B : Nat)) ∧ w' = w := by
  have hB0 : ((B : Int) == 0) = false := by simp; omega
  have hBn : ¬ ((B : Int) = 0) := by omega
  obtain ⟨q, eq⟩ : ∃ q, q = n / B := ⟨_, rfl⟩
  obtain ⟨r, er⟩ : ∃ r, r = n % B := ⟨_, rfl⟩
  have hq : (n : Int).tdiv (B : Int) = (q : Int) := by rw [eq]; rfl
  have hr : (n : Int).tmod (B : Int) = (r : Int) := by rw [er]; rfl
  have hd := Nat.div_add_mod n B
  rw [← eq, ← er] at hd
  have hrB : r < B := by rw [er]; exact Nat.mod_lt _ (by omega)
  have hqn : q ≤ n := by rw [eq]; exact Nat.div_le_self _ _
  have hnb : nblk n B = if 0 < r then q + 1 else q := by
    unfold nblk
    split
    · next h =>
      refine Nat.div_eq_of_lt_le ?_ ?_
      · rw [Nat.add_mul, Nat.one_mul, Nat.mul_comm q]; omega
      · rw [Nat.add_mul, Nat.add_mul, Nat.one_mul, Nat.mul_comm q]; omega
    · next h =>
      refine Nat.div_eq_of_lt_le ?_ ?_
      · rw [Nat.mul_comm q]; omega
      · rw [Nat.add_mul, Nat.one_mul, Nat.mul_comm q]; omega
  have hq16 : q < 9223372036854775807 := by
    have h1 : q * 2 ≤ n := by
      have : B * q ≤ n := by omega
      exact Nat.le_trans (by rw [Nat.mul_comm]; exact Nat.mul_le_mul_right q hB) this
    omega
  rw [hnb]
  by_cases h0 : 0 < r
  · have h0' : decide ((r : Int) > 0) = true := by simpa using h0
    rw [if_pos h0]
    clear hnb hd eq er
    go_enter Try.func32, Try.ntmps32
    go_wp2_with fail
    go_ret
    exact ⟨rfl, rfl⟩
  · have h0' : decide ((r : Int) > 0) = false := by simp; omega
    have h0n : ¬ ((r : Int) > 0) := by omega
    rw [if_neg h0]
    clear hnb hd eq er
    go_enter Try.func32, Try.ntmps32
    go_wp2_with fail
    go_ret
    exact ⟨rfl, rfl⟩

set_option maxRecDepth 100000 in
set_option maxHeartbeats 1600000 in
theorem right_yes (L : List Int) (a : Option Addr) (c n B S : Nat) (hB : 1 < B) (hn : n ≤ 9223372036854775807) (hL : L.length = nblk n B) (hm : ∀ b ∈ L, 0 ≤ b ∧ b < (S : Int)) (w : World) (hl : NumsAt w a L) (hlen : L.length ≤ 4611686018427387903) :
    Calls Try.prog 22 #[fileV a L.length c (n : Int), .agg #[.int .i64 (B : Int), .int .i64 (S : Int)]] w fun x w' => x = .returned (.bool true) ∧ Kept w w' := by
  unfold fileV
  have HB : Hid (∀ W, _) := fun W => blocksOf_any n B hB hn W
  rw [← hL] at HB
  obtain ⟨N, eN⟩ : ∃ N, N = L.length := ⟨_, rfl⟩
  have HN : Hid _ := eN
  rw [← eN] at HB hlen ⊢
  have HL : Hid _ := And.intro hl hm
  have hn0 : decide ((n : Int) < 0) = false := by simp
  have hnn : ¬ ((n : Int) < 0) := by omega
  have hbox : ∀ W, Kept ((w.alloc (.cells #[.slice a N c, .int .i64 (n : Int)] 39)).alloc (.cells #[.int .i64 (B : Int), .int .i64 (S : Int)] 29)) W → Kept w W ∧ W.cell? ⟨w.heap.size, 0, none⟩ = some (.slice a N c) ∧ W.cell? ⟨w.heap.size, 1, none⟩ = some (.int .i64 n) ∧ W.cell? ⟨w.heap.size + 1, 0, none⟩ = some (.int .i64 B) ∧ W.cell? ⟨w.heap.size + 1, 1, none⟩ = some (.int .i64 S) ∧ w.heap.size + 1 < W.heap.size := fun W k => by
    have h1 : W.heap[w.heap.size]? = some (.cells #[.slice a N c, .int .i64 (n : Int)] 39 (0, 0)) := (k.block _ (by simp; omega) (fun h => h)).trans ((heap_old _ _ (by simp)).trans (heap_new w _))
    have h2 : W.heap[w.heap.size + 1]? = some (.cells #[.int .i64 (B : Int), .int .i64 (S : Int)] 29 (0, 0)) := (k.block _ (by simp) (fun h => h)).trans (by have := heap_new (w.alloc (.cells #[.slice a N c, .int .i64 (n : Int)] 39)) (.cells #[.int .i64 (B : Int), .int .i64 (S : Int)] 29); rw [World.size_alloc] at this; exact this)
    exact ⟨((((Same.refl _ w).alloc _).alloc _).trans' k), (cell_of h1 0).trans rfl, (cell_of h1 1).trans rfl, (cell_of h2 0).trans rfl, (cell_of h2 1).trans rfl, lt_of_heap h2⟩
  have HX : Hid _ := hbox
  obtain ⟨-, b0, b1, b2, b3, b4⟩ := hbox _ (Same.refl _ _)
  clear hl hm eN hbox hL
  go_enter Try.func22, Try.ntmps22
  go_wp2_with fail
  go_quiet ((go_at_call 32; exact Calls.quiet_of_same (HB.out _)))
  go_wp2_with fail
  go_loopw [24] (fun i wr => ∃ j : Nat, j ≤ N ∧ i = .int .i64 j ∧ Kept ((w.alloc (.cells #[.slice a N c, .int .i64 (n : Int)] 39)).alloc (.cells #[.int .i64 (B : Int), .int .i64 (S : Int)] 29)) wr) (fun i _ => N - (intOf i).toNat)
  case atStart => exact ⟨0, Nat.zero_le _, rfl, by (repeat (first | exact Same.refl _ _ | apply Same.drewN | apply Same.drew))⟩
  case round =>
    obtain ⟨j, hj, rfl, kk⟩ := hrel
    obtain ⟨k0, y0, y1, y2, y3, y4⟩ := HX.out wr kk
    obtain ⟨hl, hm⟩ := HL.out
    have KK : Hid _ := And.intro kk k0
    by_cases hlt : j < N
    · have hlt2 : (j : Int) < (N : Int) := by omega
      obtain ⟨b, hg⟩ : ∃ b, L[j]? = some b := ⟨_, List.getElem?_eq_getElem (by rw [← HN.out]; exact hlt)⟩
      obtain ⟨nb, off, ea, hnb, hcell⟩ := hl j b hg
      obtain ⟨m1, m2⟩ := hm b (List.mem_of_getElem? hg)
      have hc : wr.cell? ⟨nb, off + j, none⟩ = some (.int .i64 b) := (k0.cell (p := ⟨nb, off + j, none⟩) hnb (fun h => h)).trans hcell
      have hlb : nb < wr.heap.size := Nat.lt_of_lt_of_le hnb k0.size
      have t1 : decide (b < 0) = false := by simp; omega
      have t1' : ¬ b < 0 := by omega
      have t2 : decide (b ≥ (S : Int)) = false := by simp; omega
      have t2' : ¬ (S : Int) ≤ b := by omega
      subst ea
      clear hl hm hg hcell kk k0
      go_wp2_with fail
      go_roundw
      case rel => exact ⟨j + 1, hlt, by rw [Int.natCast_add]; rfl, by (repeat (first | exact KK.out.1 | apply Same.drewN | apply Same.drew))⟩
      case measure => simp only [intOf]; omega
    · obtain rfl : j = N := by omega
      clear hl hm kk k0
      go_wp2_with fail
      go_ret
      exact ⟨rfl, KK.out.2⟩

/-- A clone of ints. -/
def CloneI (w : World) (l : List Int) (v : Value) (w' : World) : Prop :=
  ∃ a cap, v = .slice a l.length cap ∧ NumsAt w' a l ∧ (∀ k, InB a l.length k → w.heap.size ≤ k) ∧ Kept w w'
set_option maxRecDepth 100000 in
set_option maxHeartbeats 800000 in
theorem cloneI_any (w : World) (oa : Option Addr) (c : Nat) (l : List Int) (hl : NumsAt w oa l) (hnil : oa = none → l.length = 0 ∧ c = 0) (hb : l.length ≤ 17592186044416) :
    Calls Try.prog 24 #[.slice oa l.length c] w fun e w' => ∃ v, e = .returned v ∧ CloneI w l v w' := by
  have q : ∀ (w : World) (a : Option Addr) (n c n' c' : Nat), (binOp .eql 37 (.slice a n c) (.slice none n' c')).run Try.prog w = .ok (.bool a.isNone) w := fun w a n c n' c' => Lib.run_eql_slice_nil w _ _ a n c n' c' Try.underlying37
  cases oa with
  | none =>
    obtain ⟨h0, rfl⟩ := hnil rfl
    obtain rfl : l = [] := List.eq_nil_of_length_eq_zero h0
    clear hl hnil hb h0
    go_enter Try.func24, Try.ntmps24
    go_wp2_with fail
    go_ret
    exact ⟨_, rfl, none, 0, rfl, NumsAt.nil _ _, fun k hk => absurd hk.1 (by simp), Same.refl _ _⟩
  | some ad =>
    have HR : Hid (∀ ty, ∃ v' w', (Builtin.append_ #[37, 37] ty #[.slice (some ⟨w.heap.size, 0, none⟩) 0 0, .slice (some ad) l.length c]).run Try.prog (w.alloc (.cells #[] 3)) = .ok v' w' ∧ CloneI w l v' w') := fun ty => by
      obtain ⟨i0, hi0, hz0, hz1, hz2⟩ := info_parts Try.infoInt
      have k0 : Kept w (w.alloc (.cells #[] 3)) := (Same.refl _ w).alloc _
      obtain ⟨v', w', hr, r1, r2, _, r3⟩ := run_append_own_at (P := Try.prog) (w := w.alloc (.cells #[] 3)) w.heap.size 37 ty 3 i0 _ 1 8 Try.underlying37 hi0 hz0 hz1 hz2 rfl (by decide) _ 0 [] (World.ownsRow_made w #[] 0 (Nat.le_refl _) (Nat.zero_le _) rfl) ad l.length c (nvs l) (by rw [length_nvs, Nat.mul_one])
        (fun j u hu => by
          rw [nvs_get] at hu
          obtain ⟨x, hx, rfl⟩ := Option.map_eq_some_iff.1 hu
          obtain ⟨b', off', e, hb', hc⟩ := (hl.kept k0 (fun _ _ h => h)) _ _ hx
          cases e
          rw [Addr.add_lit]
          exact hc) (nvs_one _) (by unfold maxLen; omega) (by omega) (by simp)
      rw [List.nil_append, Nat.zero_add] at r1
      obtain ⟨a', c', e', n1, n2, n3, n4⟩ := OwnI.nums r1
      refine ⟨v', w', hr, a', c', e', n1, fun k hk => (own_base r1 (n4 k hk)), ?_⟩
      have s1 : Same (fun k => k = w.heap.size) (w.alloc (.cells #[] 3)) w' := Same.of_grown r2 (fun k e => by simp [Value.ownBlock] at e; exact e.symm)
      exact ((Kept.to k0 _).trans' s1).mono fun k hk e => by omega
    obtain ⟨n, en⟩ : ∃ n, n = l.length := ⟨_, rfl⟩
    rw [← en] at HR ⊢
    clear hl hnil hb en
    go_enter Try.func24, Try.ntmps24
    go_wp2_with (at_builtin; refine wpList_app rfl (.tmp 5) (.tmp 6) 37 rfl _ _ rfl rfl _ HR.out ?_; intro v' w1 hR)
    go_ret
    exact ⟨v', rfl, hR⟩
end Go.Proofs.Ytpjkmficpedmcaa

namespace Go.Proofs.Ytpjkmficpedmcaa
open Go.RowKit

def OpenP (o : Nat → Nat) (t : Nat) (w : World) (m : M) (p : Pl) (L : List Int) (n : Nat) (x : Ending) (w' : World) : Prop :=
  ∃ rb o', x = .returned (.tuple #[.pointer (some ⟨rb, 0, none⟩), .int .i64 0]) ∧ w.heap.size ≤ rb ∧ Step (fun _ => False) o w o' w' ∧ Rdr o' t w' p rb (.file L) 0 [] 0 n 0 ∧ RI (.file L) m (0 + n) 0 0 []
theorem nblk_le {n B : Nat} (hB : 0 < B) : n ≤ nblk n B * B := by
  unfold nblk
  have := Nat.div_add_mod (n + B - 1) B
  have := Nat.mod_lt (n + B - 1) hB
  rw [Nat.mul_comm]
  omega
set_option maxRecDepth 100000 in
set_option maxHeartbeats 1600000 in
theorem open_yes {o : Nat → Nat} (t : Nat) {w : World} {m : M} {p : Pl} (hd : Dv w m p) (L : List Int) (a : Option Addr) (c n : Nat) (hn : n ≤ 9223372036854775807) (hL : L.length = nblk n m.B) (hm : ∀ b ∈ L, 0 ≤ b ∧ b < (m.S : Int)) (hl : NumsAt w a L) (hnil : a = none → L.length = 0 ∧ c = 0) (hlen : L.length ≤ 17592186044416) :
    Calls Try.prog 11 #[.pointer (some ⟨p.db, 0, none⟩), fileV a L.length c (n : Int)] w (OpenP o t w m p L n) := by
  have b1 := hd.good.b1
  have HG : Hid (∀ W, Kept w W → _) := fun W (k : Kept w W) => geometry_any (hd.kept0 k)
  have HRT : Hid (∀ W, Kept w W → _) := fun W (k : Kept w W) => right_yes L a c n m.B m.S (by omega) hn hL hm W (hl.kept k (fun _ _ h => h)) (by omega)
  have HC : Hid (∀ W, Kept w W → _) := fun W (k : Kept w W) => cloneI_any W a c L (hl.kept k (fun _ _ h => h)) hnil hlen
  have HP : Hid (∀ W rb ca cc, Kept w W → w.heap.size ≤ rb → W.heap[rb]? = some (rdO (srcV (.file L) p ca cc) 0 none 0 0 0 n 0) → NumsAt W ca L → (∀ k, InB ca L.length k → w.heap.size ≤ k ∧ k ≠ rb) → OpenP o t w m p L n (.returned (.tuple #[.pointer (some ⟨rb, 0, none⟩), .int .i64 0])) W) := fun W rb ca cc k hrb hob hnm hnk => by
    refine ⟨rb, fun k => if k < w.heap.size then o k else if k = rb then t else 0, rfl, hrb, ⟨k, fun k hk => if_pos hk⟩, ⟨ca, cc, none, 0, hob, by rw [if_neg (by omega), if_pos rfl], hnm, fun k hk => ?_, by show L.length ≤ _; omega, BytesAt.nil _ _, fun k hk => absurd hk.1 (by simp), by simp, by omega, fun _ => ⟨rfl, rfl⟩, (fun ad e => by cases e)⟩, ⟨Nat.zero_le _, by omega, fun e => (by cases e), fun L' e => ?_⟩⟩
    · obtain ⟨q1, q2⟩ := hnk k hk
      rw [if_neg (by omega), if_neg q2]
    · cases e
      refine ⟨by simp, ?_, hm⟩
      rw [hL, Nat.zero_add]
      exact nblk_le (by omega)
  clear hd hm hl hnil hL
  unfold fileV at *
  obtain ⟨N, eN⟩ : ∃ N, N = L.length := ⟨_, rfl⟩
  have HN : Hid _ := eN
  rw [← eN] at HRT HC hlen ⊢
  clear eN
  have hnot : ∀ (x : Bool) (w : World), (Op.unary .not (.bool x)).run Try.prog w = .ok (.bool (!x)) w := fun _ _ => rfl
  go_enter Try.func11, Try.ntmps11
  go_upto_region 1 with fail
  go_cut [11] (fun s11 wx => s11 = .bool false ∧ Kept (w.alloc (.cells #[.slice a N c, .int .i64 (n : Int)] 39)) wx)
  case first =>
    have HBX0 : Hid (∀ W, Kept (w.alloc (.cells #[.slice a N c, .int .i64 (n : Int)] 39)) W → Kept (w.alloc (.cells #[.slice a N c, .int .i64 (n : Int)] 39)) W ∧ W.cell? ⟨w.heap.size, 0, none⟩ = some (.slice a N c) ∧ W.cell? ⟨w.heap.size, 1, none⟩ = some (.int .i64 n)) := fun W k => by
      have hbx : W.heap[w.heap.size]? = some (.cells #[.slice a N c, .int .i64 (n : Int)] 39 (0, 0)) := (k.block _ (by simp) (fun h => h)).trans (heap_new w _)
      exact ⟨k, (cell_of hbx 0).trans rfl, (cell_of hbx 1).trans rfl⟩
    go_region_held3 (fun w' => Kept (w.alloc (.cells #[.slice a N c, .int .i64 (n : Int)] 39)) w' ∧ w'.cell? ⟨w.heap.size, 0, none⟩ = some (.slice a N c) ∧ w'.cell? ⟨w.heap.size, 1, none⟩ = some (.int .i64 n))
      (exact HBX0.out _ (by (repeat (first | exact Same.refl _ _ | apply Same.drew | refine Same.trans' ?_ k2 | refine Same.trans' ?_ k1)); done))
      (first
      | (go_at_call 23; refine Calls.mono (HG.out _ (by (repeat (first | exact Same.refl _ _ | apply Same.alloc | apply Same.drew | refine Same.trans' ?_ k2)); done)) ?_; rintro x w1 ⟨rfl, k1⟩)
      | (go_at_call 22; refine Calls.mono (HRT.out _ (by (repeat (first | exact Same.refl _ _ | apply Same.alloc | apply Same.drew | refine Same.trans' ?_ k1)); done)) ?_; rintro x w2 ⟨rfl, k2⟩))
    all_goals
      go_wp2_with fail
      go_meet
      exact ⟨rfl, (by (repeat (first | exact Same.refl _ _ | apply Same.drew | refine Same.trans' ?_ k2 | refine Same.trans' ?_ k1)); done)⟩
  case rest =>
    obtain ⟨rfl, kc⟩ := hcut
    have hbx : wc.heap[w.heap.size]? = some (.cells #[.slice a N c, .int .i64 (n : Int)] 39 (0, 0)) := (kc.block _ (by simp) (fun h => h)).trans (heap_new w _)
    have kw : Kept w wc := ((Same.refl _ w).alloc _).trans' kc
    have HC2 : Hid _ := HC.out wc kw
    have KW : Hid _ := kw
    have b0 : wc.cell? ⟨w.heap.size, 0, none⟩ = some (.slice a N c) := (cell_of hbx 0).trans rfl
    have b1 : wc.cell? ⟨w.heap.size, 1, none⟩ = some (.int .i64 n) := (cell_of hbx 1).trans rfl
    have hlb := lt_of_heap hbx
    have HBX : Hid _ := hbx
    clear hbx kc kw HC HG HRT
    go_wp2_with fail
    refine Calls.mono HC2.out ?_
    rintro x w1 ⟨v, rfl, ca, cc, rfl, q1, q2, k1⟩
    have y1 : w1.cell? ⟨w.heap.size, 1, none⟩ = some (.int .i64 n) := (k1.cell (p := ⟨w.heap.size, 1, none⟩) hlb (fun h => h)).trans b1
    have hl1 : w.heap.size < w1.heap.size := Nat.lt_of_lt_of_le hlb k1.size
    have Q : Hid _ := And.intro q1 (And.intro q2 k1)
    clear q1 q2 k1 b0 b1 HBX
    rw [← HN.out]
    go_wp2_with fail
    go_ret2
    obtain ⟨q1, q2, k1⟩ := Q.out
    have hN := HN.out
    subst hN
    have hkw := KW.out.size
    refine HP.out _ (w1.heap.size + 1) ca cc (((KW.out.trans' k1).alloc _).alloc _) (by omega) ?_ ((q1.kept (S := fun _ => False) (((Same.refl _ w1).alloc _).alloc _) (fun _ _ h => h))) fun k hk => ⟨Nat.le_trans hkw (q2 k hk), fun e => ?_⟩
    · have := heap_new (w1.alloc (.cells #[.pointer (some ⟨p.db, 0, none⟩), .slice ca L.length cc] 74)) (rdO (srcV (.file L) p ca cc) 0 none 0 0 0 n 0)
      rw [World.size_alloc] at this
      exact this
    · have := q1.lt hk
      omega
end Go.Proofs.Ytpjkmficpedmcaa
