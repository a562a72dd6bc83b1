/- What is proved: a scanner's number: what it answers and leaves at every place; the bounds that a machine's memory sets. -/
import Derived.Test.YtflemfohnpjeaaaLScn
namespace Go.Proofs.Ytflemfohnpjeaaa
open Go.RowKit

theorem Lk.old {base : Nat} {w w0 w' : World} {sb : Nat} {v : Value} {part : Int} {r : List Int} {rd ct : Nat} {en : Bool} {er : Int} {n : Nat} (k : Kept w w0) (h : Lk base w0 sb v part r rd ct en er n w') : Lk base w sb v part r rd ct en er n w' := by
  rcases h with ⟨h1, h2, h3⟩ | ⟨h1, h2, h3⟩
  · exact .inl ⟨h1, h2, (Kept.to k _).trans' h3⟩
  · exact .inr ⟨h1, h2, k.trans' h3⟩
theorem form_most : (form 72057594037927935).length = 8 := by
  have h1 := form_le (k := 8) (n := 72057594037927935) (by decide) (by decide)
  have h2 := (form_bounds (n := 72057594037927935) (by decide)).2
  have h3 : 8 ≤ (form 72057594037927935).length := by
    by_cases c : 8 ≤ (form 72057594037927935).length
    · exact c
    · have : 128 ^ (form 72057594037927935).length ≤ 128 ^ 7 := Nat.pow_le_pow_right (by decide) (by omega)
      omega
  omega
theorem num_take (k : Nat) (l : List Int) : num k (l.take k) = num k l := by
  induction k generalizing l with
  | zero => rfl
  | succ k ih =>
    cases l with
    | nil => rfl
    | cons x r => simp only [List.take_succ_cons, num, ih r]
theorem bytes_sub {w : World} {g off : Nat} {l : List Int} (h : BytesAt w (some ⟨g, off, none⟩) l) (i n : Nat) : BytesAt w (some ⟨g, off + i, none⟩) ((l.drop i).take n) := fun j x hx => by
  have hj := (List.getElem?_eq_some_iff.1 hx).1
  simp only [List.length_take, List.length_drop] at hj
  rw [List.getElem?_take_of_lt (by omega), List.getElem?_drop] at hx
  obtain ⟨b, off', e, hb, hc⟩ := h _ _ hx
  cases e
  exact ⟨g, off + i, rfl, hb, by rw [Nat.add_assoc]; exact hc⟩
/-- What number answers and leaves. -/
def NumR (base : Nat) (w : World) (sb : Nat) (v : Value) (part : Int) (r : List Int) (rd ct : Nat) (en : Bool) (er : Int) (n most : Nat) (x : Ending) (w' : World) : Prop :=
  let q := num 8 (r.drop n)
  if q.2.2 = 0 ∧ q.1 ≤ most then x = .returned (.tuple #[.int .i64 (q.1 : Int), .int .i64 (q.2.1 : Int), .bool true]) ∧ Sn base w' sb v part r rd ct en er ∧ Kept w w'
  else x = .returned (.tuple #[.int .i64 0, .int .i64 0, .bool false]) ∧ if q.2.2 = 51 then Lk base w sb v part r rd ct en er n w'
    else Sn base w' sb (.slice none 0 0) 3 [] (rd + n) ct en (if q.2.2 = 0 then 53 else q.2.2) ∧ Same (fun k => k = sb) w w'
section
variable {base : Nat} {w : World} {sb : Nat} {v : Value} {part : Int} {r : List Int} {rd ct : Nat} {en : Bool} {er : Int}
theorem NumR.ok {n most x s : Nat} {w' : World} (hq : num 8 (r.drop n) = (x, s, 0)) (hx : x ≤ most) (h : Sn base w' sb v part r rd ct en er) (k : Kept w w') : NumR base w sb v part r rd ct en er n most (.returned (.tuple #[.int .i64 (x : Int), .int .i64 (s : Int), .bool true])) w' := by
  unfold NumR
  rw [hq]
  simp only
  rw [if_pos ⟨trivial, hx⟩]
  exact ⟨trivial, h, k⟩
theorem NumR.lk {n most x s : Nat} {w' : World} (hq : num 8 (r.drop n) = (x, s, 51)) (h : Lk base w sb v part r rd ct en er n w') : NumR base w sb v part r rd ct en er n most (.returned (.tuple #[.int .i64 0, .int .i64 0, .bool false])) w' := by
  unfold NumR
  rw [hq]
  simp only
  rw [if_neg (by omega)]
  exact ⟨trivial, h⟩
theorem NumR.bad {n most x s : Nat} {z : Int} {w' : World} (hq : num 8 (r.drop n) = (x, s, z)) (hz : z ≠ 51) (hx : z = 0 → most < x) (h : Sn base w' sb (.slice none 0 0) 3 [] (rd + n) ct en (if z = 0 then 53 else z)) (k : Same (fun k => k = sb) w w') : NumR base w sb v part r rd ct en er n most (.returned (.tuple #[.int .i64 0, .int .i64 0, .bool false])) w' := by
  unfold NumR
  rw [hq]
  simp only
  rw [if_neg (fun c => by have := hx c.1; omega), if_neg hz]
  exact ⟨trivial, h, k⟩
/-- The bytes that are looked at. -/
theorem win_of {a : Option Addr} {cap n : Nat} (h : Sn base w sb (.slice a r.length cap) part r rd ct en er) (hn : n ≤ r.length) (W : World) (k : Kept w W) (a' : Option Addr) (m c' : Nat) (ha : (a' = none ∧ a = none ∧ c' = 0) ∨ (∃ g off, a = some ⟨g, off, none⟩ ∧ (a' = some ⟨g, off + n, none⟩ ∨ (a' = some ⟨g, off, none⟩ ∧ n = r.length)))) (hm : m = ((r.drop n).take 8).length) :
    Calls Try.prog 46 #[.slice a' m c'] W fun e w' => ∃ v, e = .returned v ∧ NewCu W.heap.size ((r.drop n).take 8) v w' ∧ Kept W w' := by
  subst hm
  obtain ⟨a0, cap0, e, hd, -, -, hz, -⟩ := h.row.bytes
  simp only [Value.slice.injEq, true_and] at e
  obtain ⟨rfl, rfl⟩ := e
  have hl : ((r.drop n).take 8).length ≤ 140737488355328 := by rw [List.length_take]; omega
  have hby := (h.byts.drop n).take 8
  rcases ha with ⟨rfl, rfl, rfl⟩ | ⟨g, off, rfl, rfl | ⟨rfl, rfl⟩⟩
  · have h0 := (hz rfl).1
    obtain rfl : r = [] := List.eq_nil_of_length_eq_zero h0
    have e0 : (([] : List Int).drop n).take 8 = [] := by simp
    rw [e0] at hl hby ⊢
    exact open_any W none 0 [] (BytesAt.nil _ _) (fun _ => ⟨rfl, rfl⟩) hl hby
  · exact open_any W _ c' _ ((bytes_sub hd n 8).kept k (fun _ _ h => h)) (fun e => by cases e) hl hby
  · have e0 : (r.drop r.length).take 8 = [] := by simp
    rw [e0] at hl hby ⊢
    exact open_any W _ c' [] (BytesAt.nil _ _) (fun e => by cases e) hl hby
set_option maxRecDepth 100000 in
set_option maxHeartbeats 1600000 in
theorem snum_any (h : Sn base w sb v part r rd ct en er) (n most : Nat) (hn : n ≤ r.length) : Calls Try.prog 35 #[.pointer (some ⟨sb, 0, none⟩), .int .i64 (n : Int), .int .i64 (most : Int)] w fun x w' => NumR base w sb v part r rd ct en er n most x w' := by
  obtain ⟨a, cap, rfl, -, hcap, hmax, hz, hsp⟩ := h.row.bytes
  obtain ⟨-, c1, -, -, -, -⟩ := h.cells
  have hlen := h.len
  have hlt := h.lt
  have H : Hid _ := h
  have HSZ : Hid (∀ W, _) := fun W => size_any 72057594037927935 W (by decide)
  rw [form_most] at HSZ
  have HW : Hid _ := fun W k a' m c' ha hm => win_of h hn W k a' m c' ha hm
  obtain ⟨M, eM⟩ : ∃ M, M = min r.length (n + 8) := ⟨_, rfl⟩
  have hM : (if (r.length : Int) < ((n : Int) + 8) then (r.length : Int) else (n : Int) + 8) = (M : Int) := by split <;> omega
  have hM2 : min (r.length : Int) ((n : Int) + 8) = (M : Int) := by omega
  have hMl : n ≤ M ∧ M ≤ r.length := by omega
  have HM : Hid (M - n = ((r.drop n).take 8).length) := by show M - n = _; rw [List.length_take, List.length_drop]; omega
  have HK : Hid (∀ W, Kept w W → ∀ m, m ≤ r.length → _) := fun W (k : Kept w W) m (hm : m ≤ r.length) => slack_any (h.on k) m (by omega)
  have HF : Hid (∀ W, Kept w W → ∀ m, m ≤ r.length → ∀ z, _) := fun W (k : Kept w W) m (hm : m ≤ r.length) z => sfail_any (h.on k) m (by omega) z
  have HN : Hid (n ≤ r.length) := hn
  have HO : Hid (∀ a', (if cap = n then a else Option.map (fun x => x.add n) a) = a' → (a' = none ∧ a = none ∧ cap - n = 0) ∨ (∃ g off, a = some ⟨g, off, none⟩ ∧ (a' = some ⟨g, off + n, none⟩ ∨ (a' = some ⟨g, off, none⟩ ∧ n = r.length)))) := fun a' e => by
    cases a with
    | none =>
      refine .inl ⟨?_, rfl, by have := hz rfl; omega⟩
      rw [← e]
      split <;> rfl
    | some ad =>
      obtain ⟨g, off, sp⟩ := ad
      obtain rfl : sp = none := hsp _ rfl
      refine .inr ⟨g, off, rfl, ?_⟩
      rw [← e]
      by_cases c : cap = n
      · rw [if_pos c]
        exact .inr ⟨rfl, by omega⟩
      · rw [if_neg c]
        refine .inl ?_
        simp [Addr.add_lit]
  have hnum : Hid _ := num_take 8 (r.drop n)
  clear h eM
  go_enter Try.func35, Try.ntmps35
  go_wp2_with fail
  go_quiet ((go_at_call 41; exact Calls.quiet_of_same (HSZ.out _)))
  generalize ea : (if cap = n then a else Option.map (fun x => x.add n) a) = a'
  have HA : Hid _ := HO.out a' ea
  have K0 : Hid (Kept w (w.drewN nq)) := (Same.refl _ w).drewN nq
  generalize (w.drewN nq) = w0 at K0 ⊢
  clear ea HO hM hM2
  go_wp2_with fail
  refine Calls.mono (HW.out _ K0.out _ _ _ HA.out HM.out) ?_
  rintro e w1 ⟨v1, rfl, ⟨cb, ca, cc, rfl, u1, b1, -⟩, k1⟩
  have K1 : Hid (Kept w w1) := K0.out.trans' k1
  have B1 : Hid (w.heap.size ≤ cb) := Nat.le_trans K0.out.size b1
  have U1 : Hid _ := number_any u1 (most : Int)
  have hclt := u1.lt
  clear u1 b1 k1
  simp only [rNum, List.drop_zero, hnum.out] at U1
  obtain ⟨x, s, z, hq⟩ : ∃ x s z, num 8 (r.drop n) = (x, s, z) := ⟨_, _, _, rfl⟩
  rw [hq] at U1
  have HQ : Hid _ := hq
  clear HW HSZ HA HM hMl hnum hq
  by_cases hz0 : z = 0
  · subst hz0
    by_cases hx : x ≤ most
    · rw [rNumQ_ok (by omega)] at U1
      have HX : Hid _ := hx
      clear hx
      go_wp2_with fail
      refine Calls.mono U1.out ?_
      rintro e w2 ⟨rfl, u2, k2⟩
      have U2 : Hid _ := offset_any u2
      have K2 : Hid (Kept w w2) := (K1.out.trans k2 (fun i hi (e : i = cb) => by have := B1.out; omega))
      rw [Nat.zero_add] at U2
      clear u2 k2
      go_wp2_with fail
      refine Calls.mono U2.out ?_
      rintro e w3 ⟨rfl, rfl⟩
      go_wp2_with fail
      go_ret3
      exact NumR.ok HQ.out HX.out (H.out.on K2.out) K2.out
    · rw [rNumQ_range (by omega)] at U1
      have HX : Hid _ := hx
      clear hx
      go_wp2_with fail
      refine Calls.mono U1.out ?_
      rintro e w2 ⟨rfl, u2, k2⟩
      have K2 : Hid (Kept w w2) := (K1.out.trans k2 (fun i hi (e : i = cb) => by have := B1.out; omega))
      clear u2 k2
      go_wp2_with fail
      refine Calls.mono (HF.out _ K2.out _ HN.out _) ?_
      rintro e w3 ⟨rfl, s3, k3⟩
      have S3 : Hid _ := s3
      have K3 : Hid (Same (fun k => k = sb) w w3) := (Kept.to K2.out _).trans' k3
      clear s3 k3
      go_wp2_with fail
      go_ret3
      exact NumR.bad HQ.out (by decide) (fun _ => Nat.not_le.1 HX.out) S3.out K3.out
  · rw [rNumQ_err hz0] at U1
    have HZ : Hid _ := hz0
    have hz1 : (z == 0) = false := by simpa using hz0
    by_cases hz2 : z = 51
    · subst hz2
      clear hz0
      go_wp2_with fail
      refine Calls.mono U1.out ?_
      rintro e w2 ⟨rfl, u2, k2⟩
      have K2 : Hid (Kept w w2) := (K1.out.trans k2 (fun i hi (e : i = cb) => by have := B1.out; omega))
      clear u2 k2
      go_wp2_with fail
      refine Calls.mono (HK.out _ K2.out _ HN.out) ?_
      rintro e w3 ⟨rfl, s3⟩
      have S3 : Hid _ := Lk.old K2.out s3
      clear s3
      go_wp2_with fail
      go_ret3
      exact NumR.lk HQ.out S3.out
    · have hz3 : (z == 51) = false := by simpa using hz2
      have HZ2 : Hid _ := hz2
      clear hz0 hz2
      go_wp2_with fail
      refine Calls.mono U1.out ?_
      rintro e w2 ⟨rfl, u2, k2⟩
      have K2 : Hid (Kept w w2) := (K1.out.trans k2 (fun i hi (e : i = cb) => by have := B1.out; omega))
      clear u2 k2
      go_wp2_with fail
      refine Calls.mono (HF.out _ K2.out _ HN.out _) ?_
      rintro e w3 ⟨rfl, s3, k3⟩
      have S3 : Hid _ := s3
      have K3 : Hid (Same (fun k => k = sb) w w3) := (Kept.to K2.out _).trans' k3
      clear s3 k3
      go_wp2_with fail
      go_ret3
      exact NumR.bad HQ.out HZ2.out (fun c => absurd c HZ.out) (by rw [if_neg HZ.out]; exact S3.out) K3.out
end
end Go.Proofs.Ytflemfohnpjeaaa
