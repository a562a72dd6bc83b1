/- What is proved: one step of a script on both devices, of every kind, and a whole script: step and play answer true; both lie in memory, the script too. -/
import Derived.Test.YtagkgenhgllglaaDRvN
namespace Go.Proofs.Ytagkgenhgllglaa
open Go.RowKit

set_option maxRecDepth 100000 in
set_option maxHeartbeats 800000 in
theorem step_tl {base : Nat} {w : World} {m : M} {p : Pl} {q : RP} {Q : List Rb} (h : Two base w m p q Q) (o : St) (hok : o.k = 4) :
    Calls Try.prog 21 #[.pointer (some ⟨p.db, 0, none⟩), .pointer (some ⟨q.db, 0, none⟩), stV o] w fun e w' => e = .returned (.bool true) ∧ Stp base w m p q Q w' := by
  have h0 : Two base (w.alloc (stO o)) m p q Q := h.on ((Same.refl _ _).alloc _)
  have HT : Hid _ := tells_any h0.d h0.r
  have H0 : Hid _ := h0
  have e1 : (o.k == 1) = false := by simp [hok]
  have e2 : (o.k == 2) = false := by simp [hok]
  have e3 : (o.k == 3) = false := by simp [hok]
  have e4 : (o.k == 4) = true := by simp [hok]
  clear h h0 hok
  unfold stV stO at *
  go_enter Try.func21, Try.ntmps21
  go_wp2_with fail
  refine Calls.mono HT.out ?_
  rintro e w1 ⟨rfl, k1⟩
  go_wp2_with fail
  go_ret
  exact ⟨rfl, m, q.sv, Q, H0.out.on k1, Kept.to (((Same.refl _ _).alloc _).trans' k1) _, Nat.le_succ _, by omega, rfl, rfl, rfl⟩
set_option maxRecDepth 100000 in
set_option maxHeartbeats 800000 in
theorem step_no {base : Nat} {w : World} {m : M} {p : Pl} {q : RP} {Q : List Rb} (h : Two base w m p q Q) (o : St) (h1 : o.k ≠ 1) (h2 : o.k ≠ 2) (h3 : o.k ≠ 3) (h4 : o.k ≠ 4) :
    Calls Try.prog 21 #[.pointer (some ⟨p.db, 0, none⟩), .pointer (some ⟨q.db, 0, none⟩), stV o] w fun e w' => e = .returned (.bool true) ∧ Stp base w m p q Q w' := by
  have H0 : Hid _ := h
  have e1 : (o.k == 1) = false := by simpa using h1
  have e2 : (o.k == 2) = false := by simpa using h2
  have e3 : (o.k == 3) = false := by simpa using h3
  have e4 : (o.k == 4) = false := by simpa using h4
  clear h h1 h2 h3 h4
  unfold stV
  go_enter Try.func21, Try.ntmps21
  go_wp2_with fail
  go_ret
  exact ⟨rfl, m, q.sv, Q, H0.out.on ((Same.refl _ _).alloc _), Kept.to ((Same.refl _ _).alloc _) _, Nat.le_succ _, by omega, rfl, rfl, rfl⟩
theorem step_any {base : Nat} {w : World} {m : M} {p : Pl} {q : RP} {Q : List Rb} (h : Two base w m p q Q) (hb : base ≤ w.heap.size) (o : St) (hq : Q.length + 1 ≤ 8796093022208) (hk : m.k + 1 < 4611686018427387904) (hd : BytesAt w o.da o.d) (hlt : ∀ k, InB o.da o.d.length k → k < base) (hnil : o.da = none → o.d.length = 0 ∧ o.dc = 0) (hlen : o.d.length ≤ 140737488355328) :
    Calls Try.prog 21 #[.pointer (some ⟨p.db, 0, none⟩), .pointer (some ⟨q.db, 0, none⟩), stV o] w fun e w' => e = .returned (.bool true) ∧ Stp base w m p q Q w' := by
  by_cases h1 : o.k = 1
  · exact step_in h hb o hq hk h1
  · by_cases h2 : o.k = 2
    · exact step_sc h hb o hq hk h2
    · by_cases h3 : o.k = 3
      · exact step_wr h hb o hk h3 hd hlt hnil hlen
      · by_cases h4 : o.k = 4
        · exact step_tl h o h4
        · exact step_no h o h1 h2 h3 h4

/-- The steps lie in w from address a on. -/
def StepsAt (w : World) (a : Option Addr) (ls : List St) : Prop :=
  ∀ i o, ls[i]? = some o → ∃ b off, a = some ⟨b, off, none⟩ ∧ b < w.heap.size ∧ w.cell? ⟨b, off + i * 3, none⟩ = some (.int .i64 o.k) ∧ w.cell? ⟨b, off + i * 3 + 1, none⟩ = some (.int .i64 o.at') ∧ w.cell? ⟨b, off + i * 3 + 2, none⟩ = some (.slice o.da o.d.length o.dc) ∧
    BytesAt w o.da o.d ∧ (o.da = none → o.d.length = 0 ∧ o.dc = 0) ∧ o.d.length ≤ 140737488355328
set_option maxRecDepth 100000 in
set_option maxHeartbeats 800000 in
theorem play_any {w0 w : World} {m : M} {p : Pl} {q : RP} {Q : List Rb} (h : Two w0.heap.size w m p q Q) (sa : Option Addr) (sc : Nat) (ls : List St) (hs : StepsAt w0 sa ls) (hl : Left w0.heap.size w0 w) (hq : Q.length + ls.length + 1 ≤ 8796093022208) (hk : m.k + 3 * ls.length + 1 < 4611686018427387904) :
    Calls Try.prog 8 #[.pointer (some ⟨p.db, 0, none⟩), .pointer (some ⟨q.db, 0, none⟩), .slice sa ls.length sc] w fun e w' => e = .returned (.bool true) ∧ ∃ m' v Q', Two w0.heap.size w' m' p { q with sv := v } Q' ∧ Left w0.heap.size w0 w' ∧ Q'.length ≤ Q.length + ls.length ∧ m'.k ≤ m.k + 3 * ls.length ∧ Fx m m' := by
  have hnot : ∀ (x : Bool) (w : World), (Op.unary .not (.bool x)).run Try.prog w = .ok (.bool (!x)) w := fun _ _ => rfl
  have H0 : Hid _ := h
  have HS : Hid _ := hs
  have HL : Hid _ := hl
  obtain ⟨n, en⟩ : ∃ n, n = ls.length := ⟨_, rfl⟩
  rw [← en] at hq hk ⊢
  have EN : Hid _ := en
  have HQ : Hid _ := hq
  have HK : Hid _ := hk
  have hn : n ≤ 9000000000000 := by omega
  clear h hs hl en hq hk
  go_enter Try.func8, Try.ntmps8
  go_wp2_with fail
  go_loopw [11] (fun i wr => ∃ (j : Nat) (m' : M) (v : Value) (Q' : List Rb), j ≤ n ∧ i = .int .i64 j ∧ Two w0.heap.size wr m' p { q with sv := v } Q' ∧ Left w0.heap.size w0 wr ∧ Q'.length ≤ Q.length + j ∧ m'.k ≤ m.k + 3 * j ∧ Fx m m') (fun i _ => n - (intOf i).toNat)
  case atStart => exact ⟨0, m, q.sv, Q, Nat.zero_le _, rfl, H0.out, HL.out, Nat.le_refl _, Nat.le_refl _, rfl, rfl, rfl⟩
  case round =>
    obtain ⟨j, m', v, Q', hj, rfl, ht, hl, hq', hk', hx'⟩ := hrel
    have HT : Hid _ := ht
    have HLR : Hid _ := hl
    have HQ' : Hid _ := hq'
    have HK' : Hid _ := hk'
    have HX' : Hid _ := hx'
    clear hx'
    by_cases hlt : j < n
    · have a1 : decide ((j : Int) < (n : Int)) = true := by simp only [decide_eq_true_eq]; omega
      have a2 : (j : Int) < (n : Int) := by omega
      obtain ⟨o, ho⟩ : ∃ o, ls[j]? = some o := ⟨_, List.getElem?_eq_getElem (by rw [← EN.out]; exact hlt)⟩
      obtain ⟨b, off, rfl, hb, c0, c1, c2, hd, hnil, hlen⟩ := HS.out j o ho
      have hnb : ¬ (w0.heap.size ≤ b) := by omega
      have x0 : wr.cell? ⟨b, off + j * 3, none⟩ = some (.int .i64 o.k) := (hl.cell (p := ⟨b, _, none⟩) hb hnb).trans c0
      have x1 : wr.cell? ⟨b, off + j * 3 + 1, none⟩ = some (.int .i64 o.at') := (hl.cell (p := ⟨b, _, none⟩) hb hnb).trans c1
      have x2 : wr.cell? ⟨b, off + j * 3 + 2, none⟩ = some (.slice o.da o.d.length o.dc) := (hl.cell (p := ⟨b, _, none⟩) hb hnb).trans c2
      have xl : b < wr.heap.size := Nat.lt_of_lt_of_le hb hl.size
      have kb : Kept wr (wr.alloc (stO o)) := (Same.refl _ _).alloc _
      have hdr : BytesAt (wr.alloc (stO o)) o.da o.d := (hd.kept hl fun k hk e => by have := hd.lt hk; omega).kept kb (fun _ _ h => h)
      have HSP : Hid _ := step_any (ht.on kb) (Nat.le_trans hl.size kb.size) o (by have := HQ.out; omega) (by have := HK.out; omega) hdr (fun k hk => hd.lt hk) hnil hlen
      unfold stV stO at HSP
      clear ht hl hq' hk' ho c0 c1 c2 hd hnil hlen hdr kb hb hnb
      go_wp2_with fail
      refine Calls.mono HSP.out ?_
      rintro e w4 ⟨rfl, m4, v4, Q4, t4, l4, q4, k4, f4⟩
      have HN : Hid (∃ (i : Nat) (m' : M) (v : Value) (Q' : List Rb), i ≤ n ∧ Value.int .i64 ((j : Int) + 1) = .int .i64 i ∧ Two w0.heap.size w4 m' p { q with sv := v } Q' ∧ Left w0.heap.size w0 w4 ∧ Q'.length ≤ Q.length + i ∧ m'.k ≤ m.k + 3 * i ∧ Fx m m') :=
        ⟨j + 1, m4, v4, Q4, by omega, by simp, t4, (HLR.out.alloc _).trans' l4, by have := HQ'.out; omega, by have := HK'.out; omega, f4.1.trans HX'.out.1, f4.2.1.trans HX'.out.2.1, f4.2.2.trans HX'.out.2.2⟩
      clear t4 l4 q4 k4 f4
      go_wp2_with fail
      go_roundw
      case rel => exact HN.out
      case measure => simp only [intOf]; omega
    · have a1 : decide ((j : Int) < (n : Int)) = false := by simp only [decide_eq_false_iff_not]; omega
      have HTL : Hid _ := tells_any ht.d ht.r
      clear ht hl hq' hk'
      go_wp2_with fail
      refine Calls.mono HTL.out ?_
      rintro e w4 ⟨rfl, k4⟩
      go_wp2_with fail
      go_ret
      exact ⟨rfl, m', v, Q', HT.out.on k4, HLR.out.trans' (Kept.to k4 _), by have := HQ'.out; omega, by have := HK'.out; omega, HX'.out⟩
end Go.Proofs.Ytagkgenhgllglaa
