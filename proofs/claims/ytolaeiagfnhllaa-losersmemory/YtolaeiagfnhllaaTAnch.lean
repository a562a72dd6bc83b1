/- What is proved: the anchor of the laws of losers answers true and leaves all that was there as it was; no condition. -/
import Derived.Test.YtolaeiagfnhllaaTFeed
import Derived.Test.YtolaeiagfnhllaaTWin
import Derived.Test.YtolaeiagfnhllaaTWait
namespace Go.Proofs.Ytolaeiagfnhllaa
open Go.RowKit

/-- A tree that a law has made, behind what was there ahead of it. -/
structure Tl (w wr : World) (b gs gn : Nat) (order : Int) (S : List Sr) : Prop where
  tn : Tn wr b gs gn order S
  same : Same (fun k => w.heap.size ≤ k) w wr
  lb : w.heap.size ≤ b
  ls : w.heap.size ≤ gs
  ln : w.heap.size ≤ gn
theorem Tl.on {w wr W : World} {b gs gn : Nat} {order : Int} {S : List Sr} (h : Tl w wr b gs gn order S) (k : Kept wr W) : Tl w W b gs gn order S := ⟨h.tn.on k, h.same.trans' (k.to _), h.lb, h.ls, h.ln⟩
theorem Tl.kept {w wr : World} {b gs gn : Nat} {order : Int} {S : List Sr} (h : Tl w wr b gs gn order S) : Kept w wr := h.same.mono fun i hi e => by omega
theorem Tl.step {w wr W : World} {b gs gn : Nat} {order : Int} {S S' : List Sr} (h : Tl w wr b gs gn order S) (h2 : Tn W b gs gn order S') (k : Same (Ft b gs gn) wr W) : Tl w W b gs gn order S' :=
  ⟨h2, h.same.trans k fun i _ e => by
    have := h.lb
    have := h.ls
    have := h.ln
    rcases e with e | e | e <;> omega, h.lb, h.ls, h.ln⟩
theorem Tl.new {order : Int} (ho : order = 1 ∨ order = 2) {k : Nat} (h0 : 1 ≤ k) (h1 : k ≤ 64) {w W : World} (kw : Kept w W) : Calls Try.prog 10 #[.int .i64 order, .int .i64 (k : Int)] W fun e w' => ∃ b gs gn, e = .returned (.tuple #[.pointer (some ⟨b, 0, none⟩), .int .i64 0]) ∧ Tl w w' b gs gn order (List.replicate k .wait) :=
  Calls.mono (new11_ok ho h0 h1 W) fun _ _ ⟨b, gs, gn, h1, h2, h3, h4, h5, h6⟩ => ⟨b, gs, gn, h1, h2, Kept.to (kw.trans' h3) _, Nat.le_trans kw.size h4, Nat.le_trans kw.size h5, Nat.le_trans kw.size h6⟩
theorem Tl.feed {w wr W : World} {b gs gn : Nat} {order : Int} {S : List Sr} (h : Tl w wr b gs gn order S) (k : Kept wr W) (i : Int) (r : RwM) : Calls Try.prog 18 #[.pointer (some ⟨b, 0, none⟩), .int .i64 i, rowV r] W fun e w' => e = .returned (.int .i64 (feedC S i r)) ∧ Tl w w' b gs gn order (feedS S i r) ∧ Same (Ft b gs gn) wr w' :=
  Calls.mono (feed11 (h.tn.on k) i r) fun _ _ ⟨h1, h2, h3⟩ => ⟨h1, h.step h2 ((k.to _).trans' h3), (k.to _).trans' h3⟩
theorem Tl.finish {w wr W : World} {b gs gn : Nat} {order : Int} {S : List Sr} (h : Tl w wr b gs gn order S) (k : Kept wr W) (i : Int) : Calls Try.prog 21 #[.pointer (some ⟨b, 0, none⟩), .int .i64 i] W fun e w' => e = .returned (.int .i64 (refC S i)) ∧ Tl w w' b gs gn order (finS S i) ∧ Same (Ft b gs gn) wr w' :=
  Calls.mono (finish11 (h.tn.on k) i) fun _ _ ⟨h1, h2, h3⟩ => ⟨h1, h.step h2 ((k.to _).trans' h3), (k.to _).trans' h3⟩
theorem Tl.win {w wr W : World} {b gs gn : Nat} {order : Int} {S : List Sr} (h : Tl w wr b gs gn order S) (k : Kept wr W) {x : Nat} {r : RwM} {c : Int} {S' : List Sr} (hw : WinR order S x r c S') : Calls Try.prog 19 #[.pointer (some ⟨b, 0, none⟩)] W fun e w' => e = .returned (.tuple #[.int .i64 (x : Int), rowV r, .int .i64 c]) ∧ Tl w w' b gs gn order S' ∧ Same (Ft b gs gn) wr w' :=
  Calls.mono (win11 (h.tn.on k)) fun _ _ ⟨y, s, d, S2, h1, h2, h3, h4⟩ => by
    obtain ⟨rfl, rfl, rfl, rfl⟩ := hw.det h2
    exact ⟨h1, h.step h3 ((k.to _).trans' h4), (k.to _).trans' h4⟩
theorem Tl.waits {w wr W : World} {b gs gn : Nat} {order : Int} {S : List Sr} (h : Tl w wr b gs gn order S) (k : Kept wr W) : Calls Try.prog 20 #[.pointer (some ⟨b, 0, none⟩)] W fun e w' => ∃ v, e = .returned v ∧ OwnZ W.heap.size w' v (wtl S) ∧ Kept wr w' :=
  Calls.mono (waiting11_any (h.tn.on k)) fun _ _ ⟨v, h1, h2, h3⟩ => ⟨v, h1, h2, k.trans' h3⟩
theorem feed_ok {S : List Sr} {n : Nat} {r : RwM} (hn : n < S.length) (hw : (S.getD n .wait).wt = true) (hr : rightR r) : feedC S n r = 0 ∧ feedS S n r = S.set n (.fed r) := by
  have h1 : refC S n = 0 := by
    unfold refC
    rw [if_neg (by omega), show ((n : Nat) : Int).toNat = n by omega, if_pos hw]
  have h2 : feedC S n r = 0 := by unfold feedC; rw [if_neg (fun e => e h1), if_pos hr]
  exact ⟨h2, by unfold feedS; rw [if_pos h2]; rfl⟩
theorem Tl.feedOk {w wr W : World} {b gs gn : Nat} {order : Int} {S : List Sr} (h : Tl w wr b gs gn order S) (k : Kept wr W) {i : Int} {n : Nat} {r : RwM} (hi : i = (n : Int)) (hn : n < S.length) (hw : (S.getD n .wait).wt = true) (hr : rightR r) : Calls Try.prog 18 #[.pointer (some ⟨b, 0, none⟩), .int .i64 i, rowV r] W fun e w' => e = .returned (.int .i64 0) ∧ Tl w w' b gs gn order (S.set n (.fed r)) ∧ Same (Ft b gs gn) wr w' := by
  subst hi
  have := h.feed k n r
  rwa [(feed_ok hn hw hr).1, (feed_ok hn hw hr).2] at this
def rx : RwM := ⟨1, 5, 0, 0, 0, 0, ⟨#[]⟩⟩
def ry : RwM := ⟨1, 3, 0, 0, 0, 0, ⟨#[]⟩⟩
theorem right_x : rightR rx := by decide
theorem right_y : rightR ry := by decide
theorem win_xy : WinR 1 [.fed rx, .fed ry] 1 ry 0 [.fed rx, .wait] := WinR.ok (S := [.fed rx, .fed ry]) (x := 1) rfl (by decide) rfl fun i hi => by
  match i, hi with
  | 0, _ => decide
  | 1, _ => decide
set_option maxRecDepth 100000 in
set_option maxHeartbeats 1600000 in
theorem anchor11_any (w : World) : Calls Try.prog 9 #[] w fun e w' => e = .returned (.bool true) ∧ Kept w w' := by
  have HN : Hid _ := Tl.new (order := 1) (.inl rfl) (k := 2) (by decide) (by decide) (Same.refl _ w)
  go_enter Try.func9, Try.ntmps9
  go_wp2_with fail
  refine Calls.mono HN.out ?_
  rintro e w1 ⟨b, gs, gn, rfl, t1⟩
  have HF : Hid _ := t1.feedOk (Same.refl _ _) (i := 0) (n := 0) (r := rx) rfl (by decide) rfl right_x
  rw [show rowV rx = .agg #[.int .i64 1, .int .i64 5, .int .i64 0, .int .i64 0, .int .i64 0, .int .i64 0, .string ⟨#[]⟩] from rfl] at HF
  clear t1
  go_wp2_with fail
  refine Calls.mono HF.out ?_
  rintro e w2 ⟨rfl, t2, -⟩
  have HF2 : Hid _ := t2.feedOk (Same.refl _ _) (i := 1) (n := 1) (r := ry) rfl (by decide) rfl right_y
  rw [show rowV ry = .agg #[.int .i64 1, .int .i64 3, .int .i64 0, .int .i64 0, .int .i64 0, .int .i64 0, .string ⟨#[]⟩] from rfl] at HF2
  clear t2 HF
  go_wp2_with fail
  refine Calls.mono HF2.out ?_
  rintro e w3 ⟨rfl, t3, -⟩
  have HW : Hid _ := t3.win (Same.refl _ _) win_xy
  rw [show rowV ry = .agg #[.int .i64 1, .int .i64 3, .int .i64 0, .int .i64 0, .int .i64 0, .int .i64 0, .string ⟨#[]⟩] from rfl] at HW
  clear t3 HF2
  go_wp2_with fail
  refine Calls.mono HW.out ?_
  rintro e w4 ⟨rfl, t4, -⟩
  have K4 : Hid _ := t4.kept
  clear t4
  go_wp2_with fail
  go_ret
  exact ⟨rfl, K4.out.alloc _⟩
end Go.Proofs.Ytolaeiagfnhllaa
