/- What is proved: Decode answers what a list of bytes says, for every list, in memory of its own; the bounds that a machine's memory sets. -/
import Derived.Test.YtcbllejjiokmbaaQEnc
import Derived.Test.YtcbllejjiokmbaaRText
import Derived.Deep.RegionHeld3
namespace Go.Proofs.Ytcbllejjiokmbaa
open Go.RowKit

theorem rNum_rd9 (l : List Int) (pl most : Nat) : rNum l pl 0 (most : Int) = (match rd (.nm most) (l.drop pl) with | .error z => ((0, z), (pl, z)) | .ok (x, n) => (((x.1 : Int), 0), (pl + n, 0))) := by
  simp only [rNum, rd]
  generalize num 8 (l.drop pl) = q
  obtain ⟨n, s, e⟩ := q
  by_cases he : e = 0
  · subst he
    by_cases hm : most < n
    · rw [rNumQ_range (by omega), if_neg (by simp), if_pos hm]
    · rw [rNumQ_ok (by omega), if_neg (by simp), if_neg hm]
  · rw [rNumQ_err he, if_pos he]
theorem rText_rd9 (l : List Int) (pl lo hi : Nat) (hp : pl ≤ l.length) : rText l pl 0 (lo : Int) (hi : Int) = (match rd (.tx lo hi) (l.drop pl) with | .error z => (([], z), (pl, z)) | .ok (x, n) => ((x.2, 0), (pl + n, 0))) := by
  simp only [rText, rd]
  generalize num 8 (l.drop pl) = q
  obtain ⟨n, s, e⟩ := q
  by_cases he : e = 0
  · subst he
    by_cases hm : n < lo ∨ hi < n
    · rw [rTextQ_range (by omega), if_neg (by simp), if_pos hm]
    · rw [if_neg (by simp), if_neg hm]
      by_cases hl : l.length < pl + s + n
      · rw [rTextQ_end (by omega) hl, if_pos (by simp; omega)]
      · rw [rTextQ_ok (by omega) hl, if_neg (by simp; omega)]
        simp only [List.drop_drop, Nat.add_assoc]
  · rw [rTextQ_err he, if_pos he]
theorem rd_nz9 {I : Item} {r : List Int} {e : Int} (h : rd I r = .error e) : e ≠ 0 := by
  have := (rd_err h).1
  omega
theorem rNum_ft {l : List Int} {pl : Nat} {ft most : Int} (h : ft ≠ 0) : rNum l pl ft most = ((0, ft), (pl, ft)) := rNumQ_ft h
theorem rText_ft {l : List Int} {pl : Nat} {ft a b : Int} (h : ft ≠ 0) : rText l pl ft a b = (([], ft), (pl, ft)) := rTextQ_ft h
/-- What reading goes on with: a program and a place, or the fault that was met. -/
def goes {α : Type} (g : Pg α) (l : List Int) (p : Nat) (f : Int) : Except (Nat × Int) (α × Nat) := if f = 0 then run g (l.drop p) p else .error (p, f)
theorem goes_nm {α : Type} {k : Nat × List Int → Pg α} {l : List Int} {p most q : Nat} {f x z g : Int} (hk : ∀ n y y', k (n, y) = k (n, y')) (h : rNum l p f (most : Int) = ((x, z), (q, g))) : goes (.ask (.nm most) k) l p f = goes (k (x.toNat, [])) l q g ∧ (g = 0 → 0 ≤ x) := by
  by_cases hf : f = 0
  · subst hf
    rw [rNum_rd9] at h
    rcases hr : rd (.nm most) (l.drop p) with e | ⟨⟨n, y⟩, s⟩
    · rw [hr] at h
      simp only [Prod.mk.injEq] at h
      obtain ⟨⟨rfl, rfl⟩, rfl, rfl⟩ := h
      have hz := rd_nz9 hr
      exact ⟨by rw [goes, if_pos rfl, goes, if_neg hz, run_ask_err hr], fun e => absurd e hz⟩
    · rw [hr] at h
      simp only [Prod.mk.injEq] at h
      obtain ⟨⟨rfl, rfl⟩, rfl, rfl⟩ := h
      refine ⟨?_, fun _ => by omega⟩
      rw [goes, if_pos rfl, goes, if_pos rfl, run_ask_ok hr, List.drop_drop, Int.toNat_natCast, hk n y []]
  · rw [rNum_ft hf] at h
    simp only [Prod.mk.injEq] at h
    obtain ⟨⟨rfl, rfl⟩, rfl, rfl⟩ := h
    exact ⟨by rw [goes, if_neg hf, goes, if_neg hf], fun e => absurd e hf⟩
theorem goes_tx {l : List Int} {p lo hi q : Nat} {f z g : Int} {y : List Int} {α : Type} {k : Nat × List Int → Pg α} (hk : ∀ n n' y, k (n, y) = k (n', y)) (hp : p ≤ l.length) (h : rText l p f (lo : Int) (hi : Int) = ((y, z), (q, g))) : goes (.ask (.tx lo hi) k) l p f = goes (k (0, y)) l q g := by
  by_cases hf : f = 0
  · subst hf
    rw [rText_rd9 _ _ _ _ hp] at h
    rcases hr : rd (.tx lo hi) (l.drop p) with e | ⟨⟨n, y'⟩, s⟩
    · rw [hr] at h
      simp only [Prod.mk.injEq] at h
      obtain ⟨⟨rfl, rfl⟩, rfl, rfl⟩ := h
      have hz := rd_nz9 hr
      rw [goes, if_pos rfl, goes, if_neg hz, run_ask_err hr]
    · rw [hr] at h
      simp only [Prod.mk.injEq] at h
      obtain ⟨⟨rfl, rfl⟩, rfl, rfl⟩ := h
      rw [goes, if_pos rfl, goes, if_pos rfl, run_ask_ok hr, List.drop_drop, hk n 0]
  · rw [rText_ft hf] at h
    simp only [Prod.mk.injEq] at h
    obtain ⟨⟨rfl, rfl⟩, rfl, rfl⟩ := h
    rw [goes, if_neg hf, goes, if_neg hf]
/-- Six items read one behind the other, each whatever came ahead. -/
theorem goes_row {l : List Int} {k : Int} {p1 p2 p3 p4 p5 p6 : Nat} {x1 x2 x3 x4 x5 z1 z2 z3 z4 z5 z6 f1 f2 f3 f4 f5 f6 : Int} {y : List Int}
    (e1 : rNum l 1 0 1099511627776 = ((x1, z1), (p1, f1))) (e2 : rNum l p1 f1 1048575 = ((x2, z2), (p2, f2))) (e3 : rNum l p2 f2 4095 = ((x3, z3), (p3, f3))) (e4 : rNum l p3 f3 1099511627776 = ((x4, z4), (p4, f4))) (e5 : rNum l p4 f4 1099511627776 = ((x5, z5), (p5, f5)))
    (e6 : rText l p5 f5 0 512 = ((y, z6), (p6, f6))) (hp : p5 ≤ l.length) : run (pgR k) (l.drop 1) 1 = if f6 = 0 then .ok (⟨k, x1, x2, x3, x4, x5, strOfNums y⟩, p6) else .error (p6, f6) := by
  have q0 : run (pgR k) (l.drop 1) 1 = goes (pgR k) l 1 0 := by rw [goes, if_pos rfl]
  rw [q0, pgR]
  have t1 := goes_nm (most := 1099511627776) (k := fun a => .ask (.nm 1048575) fun b => .ask (.nm 4095) fun c => .ask (.nm 1099511627776) fun d => .ask (.nm 1099511627776) fun e => .ask (.tx 0 512) fun f => .ret (⟨k, a.1, b.1, c.1, d.1, e.1, strOfNums f.2⟩ : RwM)) (fun _ _ _ => rfl) e1
  rw [t1.1]
  have t2 := goes_nm (most := 1048575) (k := fun b => .ask (.nm 4095) fun c => .ask (.nm 1099511627776) fun d => .ask (.nm 1099511627776) fun e => .ask (.tx 0 512) fun f => .ret (⟨k, x1.toNat, b.1, c.1, d.1, e.1, strOfNums f.2⟩ : RwM)) (fun _ _ _ => rfl) e2
  rw [t2.1]
  have t3 := goes_nm (most := 4095) (k := fun c => .ask (.nm 1099511627776) fun d => .ask (.nm 1099511627776) fun e => .ask (.tx 0 512) fun f => .ret (⟨k, x1.toNat, x2.toNat, c.1, d.1, e.1, strOfNums f.2⟩ : RwM)) (fun _ _ _ => rfl) e3
  rw [t3.1]
  have t4 := goes_nm (most := 1099511627776) (k := fun d => .ask (.nm 1099511627776) fun e => .ask (.tx 0 512) fun f => .ret (⟨k, x1.toNat, x2.toNat, x3.toNat, d.1, e.1, strOfNums f.2⟩ : RwM)) (fun _ _ _ => rfl) e4
  rw [t4.1]
  have t5 := goes_nm (most := 1099511627776) (k := fun e => .ask (.tx 0 512) fun f => .ret (⟨k, x1.toNat, x2.toNat, x3.toNat, x4.toNat, e.1, strOfNums f.2⟩ : RwM)) (fun _ _ _ => rfl) e5
  rw [t5.1]
  have t6 := goes_tx (lo := 0) (hi := 512) (k := fun f => .ret (⟨k, x1.toNat, x2.toNat, x3.toNat, x4.toNat, x5.toNat, strOfNums f.2⟩ : RwM)) (fun _ _ _ => rfl) hp e6
  rw [t6]
  unfold goes
  by_cases h6 : f6 = 0
  · rw [if_pos h6, if_pos h6]
    have back : ∀ {p q : Nat} {f x z g m : Int}, rNum l p f m = ((x, z), (q, g)) → g = 0 → f = 0 := fun {p q f x z g m} h hg => by
      by_cases hf : f = 0
      · exact hf
      · rw [rNum_ft hf] at h
        simp only [Prod.mk.injEq] at h
        exact absurd (h.2.2.trans hg) hf
    have h5 : f5 = 0 := by
      by_cases hf : f5 = 0
      · exact hf
      · rw [rText_ft hf] at e6
        simp only [Prod.mk.injEq] at e6
        exact absurd (e6.2.2.trans h6) hf
    have h4 := back e5 h5
    have h3 := back e4 h4
    have h2 := back e3 h3
    have h1 := back e2 h2
    have g1 := t1.2 h1
    have g2 := t2.2 h2
    have g3 := t3.2 h3
    have g4 := t4.2 h4
    have g5 := t5.2 h5
    simp only [run, Except.ok.injEq, Prod.mk.injEq, RwM.mk.injEq, and_true, true_and]
    refine ⟨by omega, by omega, by omega, by omega, by omega⟩
  · rw [if_neg h6, if_neg h6]

/-- A row is stored. -/
def put7 (w : World) (b : Nat) (v0 v1 v2 v3 v4 v5 v6 : Value) : World := ((((((w.setCell ⟨b, 0, none⟩ v0).setCell ⟨b, 1, none⟩ v1).setCell ⟨b, 2, none⟩ v2).setCell ⟨b, 3, none⟩ v3).setCell ⟨b, 4, none⟩ v4).setCell ⟨b, 5, none⟩ v5).setCell ⟨b, 6, none⟩ v6
theorem put7_at {w : World} {b : Nat} {u0 u1 u2 u3 u4 u5 u6 : Value} {ty : TypeId} (h : w.heap[b]? = some (.cells #[u0, u1, u2, u3, u4, u5, u6] ty (0, 0))) (v0 v1 v2 v3 v4 v5 v6 : Value) : (put7 w b v0 v1 v2 v3 v4 v5 v6).heap[b]? = some (.cells #[v0, v1, v2, v3, v4, v5, v6] ty (0, 0)) :=
  (setCell_at (setCell_at (setCell_at (setCell_at (setCell_at (setCell_at (setCell_at h 0 _) 1 _) 2 _) 3 _) 4 _) 5 _) 6 _).trans (by simp)
theorem put7_same (w : World) (b : Nat) (v0 v1 v2 v3 v4 v5 v6 : Value) : Same (fun k => k = b) w (put7 w b v0 v1 v2 v3 v4 v5 v6) := by
  have st : ∀ (w' : World) (o : Nat) (u : Value), Same (fun k => k = b) w w' → Same (fun k => k = b) w (w'.setCell ⟨b, o, none⟩ u) := fun w' o u h => Same.setCell (S := fun k => k = b) h ⟨b, o, none⟩ (.inr rfl) u
  exact st _ 6 v6 (st _ 5 v5 (st _ 4 v4 (st _ 3 v3 (st _ 2 v2 (st _ 1 v1 (st _ 0 v0 (Same.refl _ w)))))))
def zrow : Array Value := #[.int .i64 0, .int .i64 0, .int .i64 0, .int .i64 0, .int .i64 0, .int .i64 0, .string .empty]
/-- What Decode answers. -/
def DecP (w : World) (l : List Int) (e : Ending) (w' : World) : Prop := Kept w w' ∧ match dec9 l with
  | .error (p, z) => e = .returned (.tuple #[rowV r0, .int .i64 (p : Int), .int .i64 z])
  | .ok (r, n) => e = .returned (.tuple #[rowV r, .int .i64 (n : Int), .int .i64 0])

end Go.Proofs.Ytcbllejjiokmbaa
