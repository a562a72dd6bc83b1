/- What is proved: Text of a cursor that lies in memory, at every argument; no condition. -/
import Derived.Test.YtflemfohnpjeaaaRMeth
import Derived.Laws.BytesArg
namespace Go.Proofs.Ytflemfohnpjeaaa
open Go.RowKit

/-- What Text answers, and leaves, where the bytes ahead begin with q. -/
def rTextQ (q : Nat × Nat × Int) (l : List Int) (pl : Nat) (ft least most : Int) : (List Int × Int) × (Nat × Int) :=
  if ft ≠ 0 then (([], ft), (pl, ft)) else if q.2.2 ≠ 0 then (([], q.2.2), (pl, q.2.2)) else if (q.1 : Int) < least ∨ most < (q.1 : Int) then (([], 53), (pl, 53))
  else if l.length < pl + q.2.1 + q.1 then (([], 51), (pl, 51)) else (((l.drop (pl + q.2.1)).take q.1, 0), (pl + q.2.1 + q.1, 0))
def rText (l : List Int) (pl : Nat) (ft least most : Int) : (List Int × Int) × (Nat × Int) := rTextQ (num 8 (l.drop pl)) l pl ft least most
theorem rTextQ_ft {q : Nat × Nat × Int} {l : List Int} {pl : Nat} {ft least most : Int} (h : ft ≠ 0) : rTextQ q l pl ft least most = (([], ft), (pl, ft)) := if_pos h
theorem rTextQ_err {n s pl : Nat} {l : List Int} {e least most : Int} (h : e ≠ 0) : rTextQ (n, s, e) l pl 0 least most = (([], e), (pl, e)) := by
  unfold rTextQ
  rw [if_neg (by decide), if_pos h]
theorem rTextQ_range {n s pl : Nat} {l : List Int} {least most : Int} (h : (n : Int) < least ∨ most < (n : Int)) : rTextQ (n, s, 0) l pl 0 least most = (([], 53), (pl, 53)) := by
  unfold rTextQ
  rw [if_neg (by decide), if_neg (by simp), if_pos h]
theorem rTextQ_end {n s pl : Nat} {l : List Int} {least most : Int} (h : ¬ ((n : Int) < least ∨ most < (n : Int))) (h2 : l.length < pl + s + n) : rTextQ (n, s, 0) l pl 0 least most = (([], 51), (pl, 51)) := by
  unfold rTextQ
  rw [if_neg (by decide), if_neg (by simp), if_neg h, if_pos h2]
theorem rTextQ_ok {n s pl : Nat} {l : List Int} {least most : Int} (h : ¬ ((n : Int) < least ∨ most < (n : Int))) (h2 : ¬ l.length < pl + s + n) : rTextQ (n, s, 0) l pl 0 least most = (((l.drop (pl + s)).take n, 0), (pl + s + n, 0)) := by
  unfold rTextQ
  rw [if_neg (by decide), if_neg (by simp), if_neg h, if_neg h2]

theorem convert_bytes {w : World} {b off c : Nat} {l : List Int} (h : BytesAt w (some ⟨b, off, none⟩) l) : (convert 27 9 (.slice (some ⟨b, off, none⟩) l.length c)).run Try.prog w = .ok (.string (strOfNums l)) w :=
  run_convert_bytes_arg (P := Try.prog) w 27 5 Try.underlying27 Try.underlying5 b off l.length c l rfl (fun i hi => by
    obtain ⟨b', off', e, _, hc⟩ := h i _ (List.getElem?_eq_getElem hi)
    cases e
    rw [hc]
    simp [List.getD, List.getElem?_eq_getElem hi]) 9 Try.underlying9
/-- The text behind its length, as a slice and as a string. -/
theorem text_part {w : World} {a : Option Addr} {l : List Int} {cap pl s n : Nat} {v : Value} (h : PassR a cap l pl (s + n) v w) (hs : 0 < s) (hl : pl + (s + n) ≤ l.length) (hc : l.length ≤ cap) :
    ∃ b off off2, v = .slice (some ⟨b, off, none⟩) (s + n) (cap - pl) ∧ (∀ W, (Instr.sliceAt 27 (.slice (some ⟨b, off, none⟩) (s + n) (cap - pl)) (some (.int .i64 (s : Int))) none none).run Try.prog W = .ok (.slice (some ⟨b, off2, none⟩) n (cap - pl - s)) W) ∧
      (∀ W, W.heap = w.heap → (convert 27 9 (.slice (some ⟨b, off2, none⟩) n (cap - pl - s))).run Try.prog W = .ok (.string (strOfNums ((l.drop (pl + s)).take n))) W) := by
  obtain ⟨a', rfl, hb, -, -, -⟩ := h
  have hlen : ((l.drop pl).take (s + n)).length = s + n := length_part l hl
  have hln : ((l.drop (pl + s)).take n).length = n := length_part l (by omega)
  obtain ⟨b, off, rfl, -, -⟩ := hb 0 _ (List.getElem?_eq_getElem (by omega))
  have hd : ∀ j x, ((l.drop (pl + s)).take n)[j]? = some x → ((l.drop pl).take (s + n))[s + j]? = some x := fun j x hx => by
    have hj := (List.getElem?_eq_some_iff.1 hx).1
    rw [hln] at hj
    rw [List.getElem?_take_of_lt hj, List.getElem?_drop] at hx
    rw [List.getElem?_take_of_lt (by omega), List.getElem?_drop, ← Nat.add_assoc]
    exact hx
  have key : ∀ off2, (0 < n → off2 = off + s) → ∀ W : World, W.heap = w.heap → (convert 27 9 (.slice (some ⟨b, off2, none⟩) n (cap - pl - s))).run Try.prog W = .ok (.string (strOfNums ((l.drop (pl + s)).take n))) W := fun off2 ho W hW => by
    have hb2 : BytesAt W (some ⟨b, off2, none⟩) ((l.drop (pl + s)).take n) := fun j x hx => by
      obtain ⟨b', off', e, hb', hc'⟩ := hb _ _ (hd j x hx)
      cases e
      have hj := (List.getElem?_eq_some_iff.1 hx).1
      refine ⟨b, off2, rfl, by rw [hW]; exact hb', ?_⟩
      rw [ho (by omega), Nat.add_assoc]
      unfold World.cell? at hc' ⊢
      rw [hW]
      exact hc'
    have := convert_bytes (c := cap - pl - s) hb2
    rwa [hln] at this
  have h1 : (s : Int) ≤ ((s + n : Nat) : Int) := by omega
  rw [hlen]
  by_cases hm : cap - pl = s
  · refine ⟨b, off, off, rfl, fun W => ?_, key off (fun h => by omega)⟩
    obtain rfl : n = 0 := by omega
    go_simp
  · refine ⟨b, off, off + s, rfl, fun W => ?_, key (off + s) (fun _ => rfl)⟩
    go_simp
    intro h
    omega
section
variable {w : World} {cb : Nat} {a : Option Addr} {cap : Nat} {l : List Int} {pl : Nat} {ft : Int}
set_option maxRecDepth 100000 in
set_option maxHeartbeats 1600000 in
theorem text_any (h : Cu w cb a cap l pl ft) (least most : Int) : Calls Try.prog 68 #[.pointer (some ⟨cb, 0, none⟩), .int .i64 least, .int .i64 most] w fun e w' => e = .returned (.tuple #[.string (strOfNums (rText l pl ft least most).1.1), .int .i64 (rText l pl ft least most).1.2]) ∧ Cu w' cb a cap l (rText l pl ft least most).2.1 (rText l pl ft least most).2.2 ∧ Same (fun k => k = cb) w w' := by
  obtain ⟨c0, c1, c2, -, -⟩ := h.cells
  have hlt := h.lt
  unfold rText
  by_cases hf : ft = 0
  · have hf' : (ft != 0) = false := by simpa using hf
    obtain ⟨a', hs, hb⟩ := slice_from h
    have hbl : Byts (l.drop pl) := h.byts.drop pl
    have hll : (l.drop pl).length ≤ 9223372036854775807 := by have := h.len; simp; omega
    have HF : Hid (∀ W, Kept w W → _) := fun W (k : Kept w W) => first_any W a' (cap - pl) (l.drop pl) (hb.kept k (fun _ _ h => h)) hbl hll
    have H1 : Hid (∀ W, Kept w W → ∀ z, _) := fun W (k : Kept w W) z => fail_any (h.on k) z
    have H2 : Hid (∀ W, Kept w W → ∀ n (hn : pl + n ≤ l.length), _) := fun W (k : Kept w W) n (hn : pl + n ≤ l.length) => pass_any (h.on k) n hn
    have H3 : Hid (∀ W, Kept w W → _) := fun W (k : Kept w W) => left_any (h.on k)
    have HO : (num 8 (l.drop pl)).2.2 = 0 → _ := fun e => num_one (by decide) hbl e
    generalize num 8 (l.drop pl) = q at HF HO ⊢
    obtain ⟨n, s, e⟩ := q
    simp only at HF HO
    have hdl : (l.drop pl).length = l.length - pl := by simp
    rw [hdl] at hs HF HO
    have hple := h.ple
    have hlc := h.lcap
    have hlen := h.len
    subst hf
    by_cases he : e = 0
    · have he' : (e != 0) = false := by simpa using he
      subst he
      obtain ⟨-, o2, o3, o4, o5, -⟩ := HO rfl
      by_cases hm : (n : Int) < least ∨ most < (n : Int)
      · rw [rTextQ_range hm]
        obtain ⟨D, eD⟩ : ∃ D, D = l.length - pl := ⟨_, rfl⟩
        obtain ⟨L, eL⟩ : ∃ L, L = l.length := ⟨_, rfl⟩
        rw [← eD] at hs HF
        rw [← eL] at c0 hs
        by_cases hm1 : (n : Int) < least
        · have d1 : decide ((n : Int) < least) = true := decide_eq_true hm1
          clear h hb hbl hll hdl eL HO H2 H3 eD hm hple hlc hlen o2 o3 o4 o5
          go_enter Try.func68, Try.ntmps68
          go_wp2_with fail
          go_quiet (first | (go_at_call 54; refine Calls.quiet_of_same (HF.out _ (by first | exact Same.refl _ _ | exact Same.drewN (Same.refl _ _) _ | exact Same.drew (Same.refl _ _)))))
          go_wp2_with fail
          refine Calls.mono (H1.out _ (by first | exact Same.refl _ _ | exact Same.drewN (Same.refl _ _) _) _) ?_
          rintro r w1 ⟨rfl, u1, s1⟩
          have U1 : Hid _ := u1
          have S1 : Hid _ := s1
          clear u1 s1
          go_wp2_with fail
          go_ret2
          exact ⟨rfl, U1.out, (Kept.to (Same.drewN (Same.refl _ _) _) _).trans' S1.out⟩
        · have d1 : decide ((n : Int) < least) = false := decide_eq_false hm1
          have hm2 : most < (n : Int) := by omega
          have d2 : decide (most < (n : Int)) = true := decide_eq_true hm2
          clear h hb hbl hll hdl eL HO H2 H3 eD hm hple hlc hlen o2 o3 o4 o5
          go_enter Try.func68, Try.ntmps68
          go_wp2_with fail
          go_quiet (first | (go_at_call 54; refine Calls.quiet_of_same (HF.out _ (by first | exact Same.refl _ _ | exact Same.drewN (Same.refl _ _) _ | exact Same.drew (Same.refl _ _)))))
          go_wp2_with fail
          refine Calls.mono (H1.out _ (by first | exact Same.refl _ _ | exact Same.drewN (Same.refl _ _) _) _) ?_
          rintro r w1 ⟨rfl, u1, s1⟩
          have U1 : Hid _ := u1
          have S1 : Hid _ := s1
          clear u1 s1
          go_wp2_with fail
          go_ret2
          exact ⟨rfl, U1.out, (Kept.to (Same.drewN (Same.refl _ _) _) _).trans' S1.out⟩
      · have d1 : decide ((n : Int) < least) = false := decide_eq_false (by omega)
        have d2 : decide (most < (n : Int)) = false := decide_eq_false (by omega)
        have d1' : ¬ (n : Int) < least := by omega
        have d2' : ¬ most < (n : Int) := by omega
        by_cases hq : l.length < pl + s + n
        · rw [rTextQ_end hm hq]
          obtain ⟨D, eD⟩ : ∃ D, D = l.length - pl := ⟨_, rfl⟩
          obtain ⟨L, eL⟩ : ∃ L, L = l.length := ⟨_, rfl⟩
          rw [← eD] at hs HF H3
          rw [← eL] at c0 hs
          obtain ⟨Z, eZ⟩ : ∃ Z, Z = D - s := ⟨_, rfl⟩
          have hZ : (D : Int) - (s : Int) = (Z : Int) := by omega
          have hZ2 : (Z : Int) ≤ 140737488355328 := by omega
          have d3 : decide ((Z : Int) < (n : Int)) = true := decide_eq_true (by omega)
          have d3' : (Z : Int) < (n : Int) := by omega
          clear h hb hbl hll hdl eL HO H2 eD eZ hm hple hlc hlen o2 o3 o4 o5 hq
          go_enter Try.func68, Try.ntmps68
          go_wp2_with fail
          go_quiet (first | (go_at_call 54; refine Calls.quiet_of_same (HF.out _ (by first | exact Same.refl _ _ | exact Same.drewN (Same.refl _ _) _ | exact Same.drew (Same.refl _ _)))))
          go_wp2_with fail
          refine Calls.mono (H3.out _ (by first | exact Same.refl _ _ | exact Same.drewN (Same.refl _ _) _)) ?_
          rintro r w1 ⟨rfl, k1⟩
          have K1 : Hid (Kept w w1) := Same.trans' (Same.drewN (Same.refl _ _) _) k1
          clear k1
          go_wp2_with fail
          refine Calls.mono (H1.out _ K1.out _) ?_
          rintro r w2 ⟨rfl, u1, s1⟩
          have U1 : Hid _ := u1
          have S1 : Hid _ := s1
          clear u1 s1
          go_wp2_with fail
          go_ret2
          exact ⟨rfl, U1.out, (Kept.to K1.out _).trans' S1.out⟩
        · rw [rTextQ_ok hm hq]
          have HT : Hid (∀ W v, PassR a cap l pl (s + n) v W → _) := fun W v (hp : PassR a cap l pl (s + n) v W) => text_part hp (by omega) (by omega) hlc
          have HP : Hid (pl + (s + n) ≤ l.length) := by show pl + (s + n) ≤ l.length; omega
          obtain ⟨D, eD⟩ : ∃ D, D = l.length - pl := ⟨_, rfl⟩
          obtain ⟨L, eL⟩ : ∃ L, L = l.length := ⟨_, rfl⟩
          rw [← eD] at hs HF H3
          rw [← eL] at c0 hs
          obtain ⟨Z, eZ⟩ : ∃ Z, Z = D - s := ⟨_, rfl⟩
          have hZ : (D : Int) - (s : Int) = (Z : Int) := by omega
          have hZ2 : (Z : Int) ≤ 140737488355328 := by omega
          have d3 : decide ((Z : Int) < (n : Int)) = false := decide_eq_false (by omega)
          have d3' : ¬ (Z : Int) < (n : Int) := by omega
          obtain ⟨T, eT⟩ : ∃ T, T = s + n := ⟨_, rfl⟩
          have hT : (s : Int) + (n : Int) = (T : Int) := by omega
          have hT2 : (T : Int) ≤ 140737488355328 := by omega
          rw [← eT] at HT HP
          have ET : Hid (pl + s + n = pl + T) := by show pl + s + n = pl + T; omega
          rw [ET.out]
          clear h hb hbl hll hdl eL HO H1 eD eZ hm hple hlc hlen o2 o3 o4 o5 hq eT ET
          go_enter Try.func68, Try.ntmps68
          go_wp2_with fail
          go_quiet (first | (go_at_call 54; refine Calls.quiet_of_same (HF.out _ (by first | exact Same.refl _ _ | exact Same.drewN (Same.refl _ _) _ | exact Same.drew (Same.refl _ _)))))
          go_wp2_with fail
          refine Calls.mono (H3.out _ (by first | exact Same.refl _ _ | exact Same.drewN (Same.refl _ _) _)) ?_
          rintro r w1 ⟨rfl, k1⟩
          have K1 : Hid (Kept w w1) := Same.trans' (Same.drewN (Same.refl _ _) _) k1
          clear k1
          go_wp2_with fail
          refine Calls.mono (H2.out _ K1.out T HP.out) ?_
          rintro r w2 ⟨v, rfl, p2, u2, s2⟩
          obtain ⟨b2, off2, off3, rfl, t1, t2⟩ := HT.out _ _ p2
          have t3 := t2 w2 rfl
          have U2 : Hid _ := u2
          have S2 : Hid (Same (fun k => k = cb) w w2) := (Kept.to K1.out _).trans' s2
          clear u2 s2 p2 t2
          go_wp2_with fail
          go_ret2
          exact ⟨rfl, U2.out, S2.out⟩
    · have he' : (e != 0) = true := by simpa using he
      rw [rTextQ_err he]
      obtain ⟨D, eD⟩ : ∃ D, D = l.length - pl := ⟨_, rfl⟩
      obtain ⟨L, eL⟩ : ∃ L, L = l.length := ⟨_, rfl⟩
      rw [← eD] at hs HF
      rw [← eL] at c0 hs
      clear h hb hbl hll hdl eL HO H2 H3 eD hple hlc hlen
      go_enter Try.func68, Try.ntmps68
      go_wp2_with fail
      go_quiet (first | (go_at_call 54; refine Calls.quiet_of_same (HF.out _ (by first | exact Same.refl _ _ | exact Same.drewN (Same.refl _ _) _ | exact Same.drew (Same.refl _ _)))))
      go_wp2_with fail
      refine Calls.mono (H1.out _ (by first | exact Same.refl _ _ | exact Same.drewN (Same.refl _ _) _) _) ?_
      rintro r w1 ⟨rfl, u1, s1⟩
      have U1 : Hid _ := u1
      have S1 : Hid _ := s1
      clear u1 s1
      go_wp2_with fail
      go_ret2
      exact ⟨rfl, U1.out, (Kept.to (Same.drewN (Same.refl _ _) _) _).trans' S1.out⟩
  · have hf' : (ft != 0) = true := by simpa using hf
    have H : Hid _ := h
    rw [rTextQ_ft hf]
    clear h hf c0 c1
    go_enter Try.func68, Try.ntmps68
    go_wp2_with fail
    go_quiet (fail)
    go_wp2_with fail
    go_ret2
    exact ⟨rfl, H.out.on (Same.drewN (Same.refl _ _) _), Same.drewN (Same.refl _ _) _⟩
end
end Go.Proofs.Ytflemfohnpjeaaa
