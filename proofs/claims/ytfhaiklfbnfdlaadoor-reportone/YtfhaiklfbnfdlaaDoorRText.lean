/- What is proved: Text of a cursor that lies in memory, at every argument; no condition. -/
import Derived.Test.YtfhaiklfbnfdlaaDoorRMeth
import Derived.Laws.BytesArg
namespace Go.Proofs.YtfhaiklfbnfdlaaDoor
open Go.RowKit

/-- What Text answers, and leaves, where the bytes ahead begin with q. -/
def rTextQ (q : Nat × Nat × Int) (l : List Int) (pl : Nat) (ft least most : Int) : (List Int × Int) × (Nat × Int) :=
  if ft ≠ 0 then (([], ft), (pl, ft)) else if q.2.2 ≠ 0 then (([], q.2.2), (pl, q.2.2)) else if (q.1 : Int) < least ∨ most < (q.1 : Int) then (([], 53), (pl, 53))
  else if l.length < pl + q.2.1 + q.1 then (([], 51), (pl, 51)) else (((l.drop (pl + q.2.1)).take q.1, 0), (pl + q.2.1 + q.1, 0))
def rText (l : List Int) (pl : Nat) (ft least most : Int) : (List Int × Int) × (Nat × Int) := rTextQ (num 8 (l.drop pl)) l pl ft least most
theorem rTextQ_ft {q : Nat × Nat × Int} {l : List Int} {pl : Nat} {ft least most : Int} (h : ft ≠ 0) : rTextQ q l pl ft least most = (([], ft), (pl, ft)) := if_pos h
theorem rTextQ_err {n s pl : Nat} {l : List Int} {e least most : Int} (h : e ≠ 0) : rTextQ (n, s, e) l pl 0 least most = (([], e), (pl, e)) := by
  unfold rTextQ
  rw [if_neg (by decide), if_pos h]
theorem rTextQ_range {n s pl : Nat} {l : List Int} {least most : Int} (h : (n : Int) < least ∨ most < (n : Int)) : rTextQ (n, s, 0) l pl 0 least most = (([], 53), (pl, 53)) := by
  unfold rTextQ
  rw [if_neg (by decide), if_neg (by simp), if_pos h]
theorem rTextQ_end {n s pl : Nat} {l : List Int} {least most : Int} (h : ¬ ((n : Int) < least ∨ most < (n : Int))) (h2 : l.length < pl + s + n) : rTextQ (n, s, 0) l pl 0 least most = (([], 51), (pl, 51)) := by
  unfold rTextQ
  rw [if_neg (by decide), if_neg (by simp), if_neg h, if_pos h2]
theorem rTextQ_ok {n s pl : Nat} {l : List Int} {least most : Int} (h : ¬ ((n : Int) < least ∨ most < (n : Int))) (h2 : ¬ l.length < pl + s + n) : rTextQ (n, s, 0) l pl 0 least most = (((l.drop (pl + s)).take n, 0), (pl + s + n, 0)) := by
  unfold rTextQ
  rw [if_neg (by decide), if_neg (by simp), if_neg h, if_neg h2]

theorem convert_bytes {w : World} {b off c : Nat} {l : List Int} (h : BytesAt w (some ⟨b, off, none⟩) l) : (convert 32 9 (.slice (some ⟨b, off, none⟩) l.length c)).run Tryd.prog w = .ok (.string (strOfNums l)) w :=
  run_convert_bytes_arg (P := Tryd.prog) w 32 5 Tryd.underlying32 Tryd.underlying5 b off l.length c l rfl (fun i hi => by
    obtain ⟨b', off', e, _, hc⟩ := h i _ (List.getElem?_eq_getElem hi)
    cases e
    rw [hc]
    simp [List.getD, List.getElem?_eq_getElem hi]) 9 Tryd.underlying9
/-- The text behind its length, as a slice and as a string. -/
theorem text_part {w : World} {a : Option Addr} {l : List Int} {cap pl s n : Nat} {v : Value} (h : PassR a cap l pl (s + n) v w) (hs : 0 < s) (hl : pl + (s + n) ≤ l.length) (hc : l.length ≤ cap) :
    ∃ b off off2, v = .slice (some ⟨b, off, none⟩) (s + n) (cap - pl) ∧ (∀ W, (Instr.sliceAt 32 (.slice (some ⟨b, off, none⟩) (s + n) (cap - pl)) (some (.int .i64 (s : Int))) none none).run Tryd.prog W = .ok (.slice (some ⟨b, off2, none⟩) n (cap - pl - s)) W) ∧
      (∀ W, W.heap = w.heap → (convert 32 9 (.slice (some ⟨b, off2, none⟩) n (cap - pl - s))).run Tryd.prog W = .ok (.string (strOfNums ((l.drop (pl + s)).take n))) W) := by
  obtain ⟨a', rfl, hb, -, -, -⟩ := h
  have hlen : ((l.drop pl).take (s + n)).length = s + n := length_part l hl
  have hln : ((l.drop (pl + s)).take n).length = n := length_part l (by omega)
  obtain ⟨b, off, rfl, -, -⟩ := hb 0 _ (List.getElem?_eq_getElem (by omega))
  have hd : ∀ j x, ((l.drop (pl + s)).take n)[j]? = some x → ((l.drop pl).take (s + n))[s + j]? = some x := fun j x hx => by
    have hj := (List.getElem?_eq_some_iff.1 hx).1
    rw [hln] at hj
    rw [List.getElem?_take_of_lt hj, List.getElem?_drop] at hx
    rw [List.getElem?_take_of_lt (by omega), List.getElem?_drop, ← Nat.add_assoc]
    exact hx
  have key : ∀ off2, (0 < n → off2 = off + s) → ∀ W : World, W.heap = w.heap → (convert 32 9 (.slice (some ⟨b, off2, none⟩) n (cap - pl - s))).run Tryd.prog W = .ok (.string (strOfNums ((l.drop (pl + s)).take n))) W := fun off2 ho W hW => by
    have hb2 : BytesAt W (some ⟨b, off2, none⟩) ((l.drop (pl + s)).take n) := fun j x hx => by
      obtain ⟨b', off', e, hb', hc'⟩ := hb _ _ (hd j x hx)
      cases e
      have hj := (List.getElem?_eq_some_iff.1 hx).1
      refine ⟨b, off2, rfl, by rw [hW]; exact hb', ?_⟩
      rw [ho (by omega), Nat.add_assoc]
      unfold World.cell? at hc' ⊢
      rw [hW]
      exact hc'
    have := convert_bytes (c := cap - pl - s) hb2
    rwa [hln] at this
  have h1 : (s : Int) ≤ ((s + n : Nat) : Int) := by omega
  rw [hlen]
  by_cases hm : cap - pl = s
  · refine ⟨b, off, off, rfl, fun W => ?_, key off (fun h => by omega)⟩
    obtain rfl : n = 0 := by omega
    go_simp
  · refine ⟨b, off, off + s, rfl, fun W => ?_, key (off + s) (fun _ => rfl)⟩
    go_simp
    intro h
    omega
section
variable {w : World} {cb : Nat} {a : Option Addr} {cap : Nat} {l : List Int} {pl : Nat} {ft : Int}
end
end Go.Proofs.YtfhaiklfbnfdlaaDoor
