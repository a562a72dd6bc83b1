/- What is proved: bytes appended with all else kept; the code's appendNumber, statusWord, opLetter; conditions: lengths, and that the library's table of powers lies as its text lays it. -/
import Derived.Test.YtfhaiklfbnfdlaaDoorNoPa
import Derived.Shelf.Strconv.AppendIntPublic10
import Derived.Lib.ItoaLen
namespace Go.Proofs.YtfhaiklfbnfdlaaDoor
open Go.RowKit

/-- Nothing below base has turned, and nothing but rows of bytes. -/
def Oth (base : Nat) (w w' : World) : Prop := Same (fun k => base ≤ k) w w' ∧ ∀ (k : Nat) (o : Obj), w.heap[k]? = some o → (∀ c fz, o ≠ Obj.cells c 5 fz) → w'.heap[k]? = some o
theorem Oth.refl (base : Nat) (w : World) : Oth base w w := ⟨Same.refl _ _, fun _ _ h _ => h⟩
theorem Oth.trans {base : Nat} {a b c : World} (h : Oth base a b) (k : Oth base b c) : Oth base a c := ⟨h.1.trans' k.1, fun i o hi hn => k.2 i o (h.2 i o hi hn) hn⟩
theorem Oth.kept {base : Nat} {w w' : World} (h : Kept w w') : Oth base w w' := ⟨h.to _, fun k _ hk _ => (h.block k (lt_of_heap hk) (fun e => e)).trans hk⟩
theorem Oth.own {base : Nat} {w w' : World} {v : Value} {xs : List Int} (hown : OwnB base w v xs) (h : Same (fun k => v.ownBlock = some k) w w') : Oth base w w' := by
  refine ⟨h.mono fun k _ e => (hown.block e).1, fun k o hk hn => (h.block k (lt_of_heap hk) (fun e => ?_)).trans hk⟩
  rcases hown.2 with ⟨rfl, -⟩ | ⟨g, cap, cur, rfl, hb, hg, -⟩
  · simp [Value.ownBlock] at e
  · simp [Value.ownBlock] at e
    subst e
    rw [hg] at hk
    cases hk
    exact hn _ _ rfl
theorem Oth.below {base : Nat} {w w' : World} (h : Oth base w w') (hb : base ≤ w.heap.size) : Below base w w' := h.1.below hb (fun _ e => e)
theorem Oth.to {base : Nat} {w w' : World} (h : Oth base w w') {b : Nat} (hb : b ≤ base) : Oth b w w' := ⟨h.1.mono fun _ _ e => Nat.le_trans hb e, h.2⟩
abbrev Tab (base : Nat) (w : World) : Prop := Lib.TabBelow Tryd.prog base w "internal/strconv.uint64pow10" .u64 Lib.pow10Tab
/-- What an append leaves. -/
def ApO (base : Nat) (w : World) (ys : List Int) (v' : Value) (w' : World) : Prop := OwnB base w' v' ys ∧ Oth base w w'
theorem app_txO {w : World} {base : Nat} {v : Value} {xs : List Int} (l : List UInt8) (hown : OwnB base w v xs) (hb : xs.length + l.length ≤ 140737488355328) (hbase : base ≤ w.heap.size) (ty : TypeId) :
    ∃ v' w', (Builtin.append_ #[32, 9] ty #[v, tx l]).run Tryd.prog w = .ok v' w' ∧ ApO base w (xs ++ nu l) v' w' := by
  obtain ⟨i0, hi0, hz0, hz1, hz2⟩ := info_parts Tryd.infoByte
  obtain ⟨v', w', hr, r1, r2, _⟩ := Lib.run_append_own_string (P := Tryd.prog) w base 32 9 ty 5 i0 Tryd.underlying32 Tryd.underlying9 hi0 hz0 hz1 hz2 v xs.length _ hown ⟨l.toArray⟩ (by unfold maxLen; rw [sz]; omega) (by rw [sz]; exact hb) hbase
  rw [strCells_nums, ← byt_append, nums_tx, sz] at r1
  refine ⟨v', w', hr, ?_, Oth.own hown (Same.of_grown r2 (fun k e => e))⟩
  rw [OwnB, List.length_append, nu_len]
  exact r1
theorem app_bytesO {w : World} {base : Nat} {v : Value} {xs : List Int} {b : Nat} {l : List Int} (hown : OwnB base w v xs) (hl : BytesAt w (some ⟨b, 0, none⟩) l) (hb : xs.length + l.length ≤ 140737488355328) (hbase : base ≤ w.heap.size) (ty : TypeId) :
    ∃ v' w', (Builtin.append_ #[32, 32] ty #[v, .slice (some ⟨b, 0, none⟩) l.length l.length]).run Tryd.prog w = .ok v' w' ∧ ApO base w (xs ++ l) v' w' := by
  obtain ⟨i0, hi0, hz0, hz1, hz2⟩ := info_parts Tryd.infoByte
  obtain ⟨v', w', hr, r1, r2, _, r3⟩ := run_append_own_at (P := Tryd.prog) (w := w) base 32 ty 5 i0 _ 1 1 Tryd.underlying32 hi0 hz0 hz1 hz2 rfl (by decide) v xs.length _ hown ⟨b, 0, none⟩ l.length l.length (byt l) (by rw [length_byt, Nat.mul_one])
    (fun j u hu => by
      rw [byt_get] at hu
      obtain ⟨x, hx, rfl⟩ := Option.map_eq_some_iff.1 hu
      obtain ⟨b', off', e, _, hc⟩ := hl _ _ hx
      cases e
      rw [Addr.add_lit]
      exact hc) (byt_one _) (by unfold maxLen; omega) (by omega) hbase
  rw [← byt_append] at r1
  exact ⟨v', w', hr, by rw [OwnB, List.length_append]; exact r1, Oth.own hown (Same.of_grown r2 (fun k e => e))⟩
theorem lit_bytes (w : World) (l : List Int) : BytesAt (w.alloc (.cells (byt l).toArray 5 (0, 0))) (some ⟨w.heap.size, 0, none⟩) l := bytes_new w l
/-- A literal's bytes appended: the literal's row lies at g. -/
theorem app_litO {w : World} {base : Nat} {v : Value} {xs : List Int} (l : List Int) (hown : OwnB base w v xs) (hb : xs.length + l.length ≤ 140737488355328) (hbase : base ≤ w.heap.size) (g : Nat) (hg : g = w.heap.size) (ty : TypeId) :
    ∃ v' w', (Builtin.append_ #[32, 32] ty #[v, .slice (some ⟨g, 0, none⟩) l.length l.length]).run Tryd.prog (w.alloc (.cells (byt l).toArray 5 (0, 0))) = .ok v' w' ∧ ApO base w (xs ++ l) v' w' := by
  subst hg
  have k : Kept w (w.alloc (.cells (byt l).toArray 5 (0, 0))) := (Same.refl _ w).alloc _
  obtain ⟨v', w', hr, r1, r2⟩ := app_bytesO (hown.kept k (fun _ _ h => h)) (lit_bytes w l) hb (by simp; omega) ty
  exact ⟨v', w', hr, r1, (Oth.kept k).trans r2⟩

shelf_lay LaysM.n176 Nm 176 at Tryd as Tryd.laysAI
theorem appInt_any {w : World} {base : Nat} {v : Value} {xs : List Int} (i : Int) (h0 : -9223372036854775808 ≤ i) (h1 : i ≤ 9223372036854775807) (hown : OwnB base w v xs) (hb : xs.length + 21 ≤ 140737488355328) (hbase : base ≤ w.heap.size) (ht : Tab base w) :
    Calls Tryd.prog 70 #[v, .int .i64 i, .int .i64 10] w fun e w' => ∃ v', e = .returned v' ∧ ApO base w (xs ++ nu (Lib.itoa i)) v' w' := by
  refine Calls.mono (Any.strconv_AppendInt_10 Tryd.laysAI base xs.length i h0 h1 v (byt xs) w hown hbase hb ht) ?_
  rintro e w' ⟨v', rfl, o, b, k⟩
  refine ⟨v', rfl, ?_, ⟨b.os, b.tape, b.output, b.size, fun j hj hn => b.block j (by omega)⟩, fun j ob hj hn => k j ob hj (by simp) hn⟩
  have e1 : byt xs ++ Lib.byteCells (Lib.itoa i) = byt (xs ++ nu (Lib.itoa i)) := by rw [byt_append]; congr 1; simp [byt, nu, Lib.byteCells]
  rw [e1] at o
  rw [OwnB, List.length_append, nu_len]
  exact o
def numL (p : List UInt8) (n : Int) : List UInt8 := p ++ Lib.itoa n
def stw (st : Int) : List UInt8 := if st = 1 then wCommit else wAbort
def letr (k : Int) : UInt8 := if k = 1 then 114 else if k = 2 then 119 else 100
end Go.Proofs.YtfhaiklfbnfdlaaDoor
