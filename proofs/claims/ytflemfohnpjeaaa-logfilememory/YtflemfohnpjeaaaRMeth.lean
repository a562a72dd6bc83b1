/- What is proved: Open, Byte, Number and Take of a cursor that lies in memory, at every argument; the bounds that a machine's memory sets. -/
import Derived.Test.YtflemfohnpjeaaaRCur
namespace Go.Proofs.Ytflemfohnpjeaaa
open Go.RowKit

section
variable {w : World} {cb : Nat} {a : Option Addr} {cap : Nat} {l : List Int} {pl : Nat} {ft : Int}
theorem slice_from (h : Cu w cb a cap l pl ft) : ∃ a', (∀ W, (Instr.sliceAt 27 (.slice a l.length cap) (some (.int .i64 (pl : Int))) none none).run Try.prog W = .ok (.slice a' (l.drop pl).length (cap - pl)) W) ∧ BytesAt w a' (l.drop pl) := by
  have hp := h.ple
  have hp' : (pl : Int) ≤ (l.length : Int) := by omega
  have hc := h.lcap
  rcases h.loc with ⟨rfl, h0, rfl⟩ | ⟨g, rfl, hg⟩
  · obtain rfl : l = [] := List.eq_nil_of_length_eq_zero h0
    obtain rfl : pl = 0 := by simpa using hp
    refine ⟨none, fun W => ?_, BytesAt.nil _ _⟩
    go_simp
  · by_cases hpc : cap = pl
    · refine ⟨some ⟨g, 0, none⟩, fun W => ?_, ?_⟩
      · rw [List.length_drop]
        go_simp
      · rw [List.drop_eq_nil_of_le (by omega)]
        exact BytesAt.nil _ _
    · refine ⟨some ⟨g, pl, none⟩, fun W => ?_, ?_⟩
      · rw [List.length_drop]
        go_simp
      · have := bytes_part h.data pl (l.length - pl)
        rwa [List.take_of_length_le (by simp)] at this
/-- What Number answers, and leaves, where the bytes ahead begin with q. -/
def rNumQ (q : Nat × Nat × Int) (pl : Nat) (ft most : Int) : (Int × Int) × (Nat × Int) :=
  if ft ≠ 0 then ((0, ft), (pl, ft)) else if q.2.2 ≠ 0 then ((0, q.2.2), (pl, q.2.2)) else if most < (q.1 : Int) then ((0, 53), (pl, 53)) else ((q.1, 0), (pl + q.2.1, 0))
def rNum (l : List Int) (pl : Nat) (ft most : Int) : (Int × Int) × (Nat × Int) := rNumQ (num 8 (l.drop pl)) pl ft most
theorem rNumQ_ft {q : Nat × Nat × Int} {pl : Nat} {ft most : Int} (h : ft ≠ 0) : rNumQ q pl ft most = ((0, ft), (pl, ft)) := if_pos h
theorem rNumQ_err {n s pl : Nat} {e most : Int} (h : e ≠ 0) : rNumQ (n, s, e) pl 0 most = ((0, e), (pl, e)) := by
  unfold rNumQ
  rw [if_neg (by decide), if_pos h]
theorem rNumQ_range {n s pl : Nat} {most : Int} (h : most < (n : Int)) : rNumQ (n, s, 0) pl 0 most = ((0, 53), (pl, 53)) := by
  unfold rNumQ
  rw [if_neg (by decide), if_neg (by simp), if_pos h]
theorem rNumQ_ok {n s pl : Nat} {most : Int} (h : ¬ most < (n : Int)) : rNumQ (n, s, 0) pl 0 most = (((n : Int), 0), (pl + s, 0)) := by
  unfold rNumQ
  rw [if_neg (by decide), if_neg (by simp), if_neg h]
set_option maxRecDepth 100000 in
set_option maxHeartbeats 1600000 in
theorem number_any (h : Cu w cb a cap l pl ft) (most : Int) : Calls Try.prog 47 #[.pointer (some ⟨cb, 0, none⟩), .int .i64 most] w fun e w' => e = .returned (.tuple #[.int .i64 (rNum l pl ft most).1.1, .int .i64 (rNum l pl ft most).1.2]) ∧ Cu w' cb a cap l (rNum l pl ft most).2.1 (rNum l pl ft most).2.2 ∧ Same (fun k => k = cb) w w' := by
  obtain ⟨c0, c1, c2, -, -⟩ := h.cells
  have hlt := h.lt
  unfold rNum
  by_cases hf : ft = 0
  · have hf' : (ft != 0) = false := by simpa using hf
    obtain ⟨a', hs, hb⟩ := slice_from h
    have hbl : Byts (l.drop pl) := h.byts.drop pl
    have hll : (l.drop pl).length ≤ 9223372036854775807 := by have := h.len; simp; omega
    have HF : Hid (∀ W, Kept w W → _) := fun W (k : Kept w W) => first_any W a' (cap - pl) (l.drop pl) (hb.kept k (fun _ _ h => h)) hbl hll
    have H1 : Hid (∀ W, Kept w W → ∀ z, _) := fun W (k : Kept w W) z => fail_any (h.on k) z
    have H2 : Hid (∀ W, Kept w W → ∀ n (hn : pl + n ≤ l.length), _) := fun W (k : Kept w W) n (hn : pl + n ≤ l.length) => pass_any (h.on k) n hn
    have HO : (num 8 (l.drop pl)).2.2 = 0 → _ := fun e => (num_one (by decide) hbl e).2.1
    generalize num 8 (l.drop pl) = q at HF HO ⊢
    obtain ⟨n, s, e⟩ := q
    simp only at HF HO
    have hdl : (l.drop pl).length = l.length - pl := by simp
    rw [hdl] at hs HF HO
    have hple := h.ple
    obtain ⟨L, eL⟩ : ∃ L, L = l.length := ⟨_, rfl⟩
    rw [← eL] at c0 hs HF HO H2 hple
    obtain ⟨D, eD⟩ : ∃ D, D = L - pl := ⟨_, rfl⟩
    rw [← eD] at hs HF HO
    subst hf
    clear h hb hbl hll hdl eL
    by_cases he : e = 0
    · have he' : (e != 0) = false := by simpa using he
      subst he
      have HS : Hid (pl + s ≤ L) := by have := HO rfl; show pl + s ≤ L; omega
      by_cases hm : most < (n : Int)
      · have hm' : decide (most < (n : Int)) = true := decide_eq_true hm
        rw [rNumQ_range hm]
        clear HO H2 eD HS
        go_enter Try.func47, Try.ntmps47
        go_wp2_with fail
        go_quiet (first | (go_at_call 54; refine Calls.quiet_of_same (HF.out _ (by first | exact Same.refl _ _ | exact Same.drewN (Same.refl _ _) _ | exact Same.drew (Same.refl _ _)))))
        go_wp2_with fail
        refine Calls.mono (H1.out _ (by first | exact Same.refl _ _ | exact Same.drewN (Same.refl _ _) _) _) ?_
        rintro r w1 ⟨rfl, u1, s1⟩
        have U1 : Hid _ := u1
        have S1 : Hid _ := s1
        clear u1 s1
        go_wp2_with fail
        go_ret2
        exact ⟨rfl, U1.out, (Kept.to (Same.drewN (Same.refl _ _) _) _).trans' S1.out⟩
      · have hm' : decide (most < (n : Int)) = false := decide_eq_false hm
        rw [rNumQ_ok hm]
        clear HO H1 eD
        go_enter Try.func47, Try.ntmps47
        go_wp2_with fail
        go_quiet (first | (go_at_call 54; refine Calls.quiet_of_same (HF.out _ (by first | exact Same.refl _ _ | exact Same.drewN (Same.refl _ _) _ | exact Same.drew (Same.refl _ _)))))
        go_wp2_with fail
        refine Calls.mono (H2.out _ (by first | exact Same.refl _ _ | exact Same.drewN (Same.refl _ _) _) _ HS.out) ?_
        rintro r w1 ⟨v, rfl, -, u1, s1⟩
        have U1 : Hid _ := u1
        have S1 : Hid _ := s1
        clear u1 s1
        go_wp2_with fail
        go_ret2
        exact ⟨rfl, U1.out, (Kept.to (Same.drewN (Same.refl _ _) _) _).trans' S1.out⟩
    · have he' : (e != 0) = true := by simpa using he
      rw [rNumQ_err he]
      clear HO H2 eD
      go_enter Try.func47, Try.ntmps47
      go_wp2_with fail
      go_quiet (first | (go_at_call 54; refine Calls.quiet_of_same (HF.out _ (by first | exact Same.refl _ _ | exact Same.drewN (Same.refl _ _) _ | exact Same.drew (Same.refl _ _)))))
      go_wp2_with fail
      refine Calls.mono (H1.out _ (by first | exact Same.refl _ _ | exact Same.drewN (Same.refl _ _) _) _) ?_
      rintro r w1 ⟨rfl, u1, s1⟩
      have U1 : Hid _ := u1
      have S1 : Hid _ := s1
      clear u1 s1
      go_wp2_with fail
      go_ret2
      exact ⟨rfl, U1.out, (Kept.to (Same.drewN (Same.refl _ _) _) _).trans' S1.out⟩
  · have hf' : (ft != 0) = true := by simpa using hf
    have H : Hid _ := h
    rw [rNumQ_ft hf]
    clear h hf c0 c1
    go_enter Try.func47, Try.ntmps47
    go_wp2_with fail
    go_quiet (fail)
    go_wp2_with fail
    go_ret2
    exact ⟨rfl, H.out.on (Same.drewN (Same.refl _ _) _), Same.drewN (Same.refl _ _) _⟩

/-- What Byte answers, and leaves. -/
def rByte (l : List Int) (pl : Nat) (ft : Int) : (Int × Int) × (Nat × Int) :=
  if ft ≠ 0 then ((0, ft), (pl, ft)) else if l.length ≤ pl then ((0, 51), (pl, 51)) else ((l.getD pl 0, 0), (pl + 1, 0))
set_option maxRecDepth 100000 in
set_option maxHeartbeats 1600000 in
theorem byte_any (h : Cu w cb a cap l pl ft) : Calls Try.prog 67 #[.pointer (some ⟨cb, 0, none⟩)] w fun e w' => e = .returned (.tuple #[.int .u8 (rByte l pl ft).1.1, .int .i64 (rByte l pl ft).1.2]) ∧ Cu w' cb a cap l (rByte l pl ft).2.1 (rByte l pl ft).2.2 ∧ Same (fun k => k = cb) w w' := by
  obtain ⟨c0, c1, c2, -, -⟩ := h.cells
  have hlt := h.lt
  have hple := h.ple
  by_cases hf : ft = 0
  · have hf' : (ft != 0) = false := by simpa using hf
    have HL : Hid _ := left_any h
    have H1 : Hid (∀ W, Kept w W → ∀ z, _) := fun W (k : Kept w W) z => fail_any (h.on k) z
    have H2 : Hid (∀ W, Kept w W → ∀ n (hn : pl + n ≤ l.length), _) := fun W (k : Kept w W) n (hn : pl + n ≤ l.length) => pass_any (h.on k) n hn
    by_cases he : l.length ≤ pl
    · have e0 : l.length - pl = 0 := by omega
      have er : rByte l pl ft = ((0, 51), (pl, 51)) := by
        unfold rByte
        rw [if_neg (by simpa using hf), if_pos he]
      rw [e0] at HL
      rw [er]
      clear h c0 c1 H2 er
      go_enter Try.func67, Try.ntmps67
      go_wp2_with fail
      refine Calls.mono HL.out ?_
      rintro r w1 ⟨rfl, k1⟩
      have K1 : Hid _ := k1
      clear k1
      go_wp2_with fail
      refine Calls.mono (H1.out _ K1.out _) ?_
      rintro r w2 ⟨rfl, u2, s2⟩
      have U2 : Hid _ := u2
      have S2 : Hid _ := s2
      clear u2 s2
      go_wp2_with fail
      go_ret2
      exact ⟨rfl, U2.out, (Kept.to K1.out _).trans' S2.out⟩
    · have er : rByte l pl ft = ((l.getD pl 0, 0), (pl + 1, 0)) := by
        unfold rByte
        rw [if_neg (by simpa using hf), if_neg he]
      obtain ⟨x, hx⟩ : ∃ x, l[pl]? = some x := ⟨_, List.getElem?_eq_getElem (by omega)⟩
      have ex : l.getD pl 0 = x := by simp [List.getD, hx]
      rw [er, ex]
      obtain ⟨d, ed⟩ : ∃ d, d = l.length - pl := ⟨_, rfl⟩
      rw [← ed] at HL
      have hd0 : ¬ ((d : Int) = 0) := by omega
      have hd1 : ((d : Int) == 0) = false := by simp; omega
      have HP : Hid (pl + 1 ≤ l.length) := by show pl + 1 ≤ l.length; omega
      have HX : Hid (((l.drop pl).take 1)[0]? = some x) := by
        rw [List.getElem?_take_of_lt (by decide), List.getElem?_drop]
        exact hx
      have HL1 : Hid (((l.drop pl).take 1).length = 1) := length_part l HP.out
      subst hf
      clear h c0 c1 H1 er ed he hx
      go_enter Try.func67, Try.ntmps67
      go_wp2_with fail
      refine Calls.mono HL.out ?_
      rintro r w1 ⟨rfl, k1⟩
      have K1 : Hid _ := k1
      clear k1
      go_wp2_with fail
      refine Calls.mono (H2.out _ K1.out 1 HP.out) ?_
      rintro r w2 ⟨v, rfl, ⟨a', rfl, hb, -, -, -⟩, u2, s2⟩
      obtain ⟨b, off, rfl, -, q⟩ := hb 0 x HX.out
      rw [Nat.add_zero] at q
      rw [HL1.out]
      have U2 : Hid _ := u2
      have S2 : Hid _ := s2
      clear u2 s2 hb
      go_wp2_with fail
      go_ret2
      exact ⟨rfl, U2.out, (Kept.to K1.out _).trans' S2.out⟩
  · have hf' : (ft != 0) = true := by simpa using hf
    have H : Hid _ := h
    have er : rByte l pl ft = ((0, ft), (pl, ft)) := if_pos hf
    rw [er]
    clear h hf c0 c1 er
    go_enter Try.func67, Try.ntmps67
    go_wp2_with fail
    go_quiet (fail)
    go_wp2_with fail
    go_ret2
    exact ⟨rfl, H.out.on (Same.drewN (Same.refl _ _) _), Same.drewN (Same.refl _ _) _⟩

/-- What Take answers, and leaves. -/
def rTake (l : List Int) (pl : Nat) (ft n : Int) : (List Int × Int) × (Nat × Int) :=
  if ft ≠ 0 then (([], ft), (pl, ft)) else if n < 0 then (([], 53), (pl, 53)) else if ((l.length - pl : Nat) : Int) < n then (([], 51), (pl, 51)) else (((l.drop pl).take n.toNat, 0), (pl + n.toNat, 0))
end

theorem rByte_ft {l : List Int} {pl : Nat} {ft : Int} (h : ft ≠ 0) : rByte l pl ft = ((0, ft), (pl, ft)) := if_pos h
theorem rTake_ft {l : List Int} {pl : Nat} {ft n : Int} (h : ft ≠ 0) : rTake l pl ft n = (([], ft), (pl, ft)) := if_pos h
/-- A new cursor, in blocks from base on. -/
def NewCu (base : Nat) (l : List Int) (v : Value) (w' : World) : Prop := ∃ cb a cap, v = .pointer (some ⟨cb, 0, none⟩) ∧ Cu w' cb a cap l 0 0 ∧ base ≤ cb ∧ ∀ g, a = some ⟨g, 0, none⟩ → base ≤ g ∧ g < w'.heap.size
set_option maxRecDepth 100000 in
theorem open_any (w : World) (oa : Option Addr) (c : Nat) (l : List Int) (hl : BytesAt w oa l) (hnil : oa = none → l.length = 0 ∧ c = 0) (hb : l.length ≤ 140737488355328) (hby : Byts l) :
    Calls Try.prog 46 #[.slice oa l.length c] w fun e w' => ∃ v, e = .returned v ∧ NewCu w.heap.size l v w' ∧ Kept w w' := by
  have HC : Hid _ := clone_any w oa c l hl hnil hb
  have HBY : Hid _ := hby
  have HB : Hid _ := hb
  clear hl hnil hb hby
  go_enter Try.func46, Try.ntmps46
  go_wp2_with fail
  refine Calls.mono HC.out ?_
  rintro r w1 ⟨v, rfl, o1, k1⟩
  obtain ⟨a, cap, rfl, hd, hlc, hn, ha, hsp⟩ := OwnB.bytes o1
  have HN : Hid (NewCu w.heap.size l (.pointer (some ⟨w1.heap.size, 0, none⟩)) (w1.alloc (curO a l.length cap 0 0))) := by
    refine ⟨w1.heap.size, a, cap, rfl, ⟨heap_new w1 _, hd.kept ((Same.refl (fun _ => False) w1).alloc _) (fun _ _ h => h), hlc, Nat.zero_le _, ?_, HBY.out, HB.out⟩, k1.size, fun g e => ⟨(ha g 0 e).1, by have := (OwnB.block o1 (k := g) (by rw [e]; rfl)).2; simp; omega⟩⟩
    rcases o1.2 with ⟨h', h0⟩ | ⟨g, c', cur, h', hb', hg, _⟩
    · simp only [Value.slice.injEq] at h'
      exact .inl ⟨h'.1, h'.2.1, h'.2.2⟩
    · simp only [Value.slice.injEq] at h'
      refine .inr ⟨g, h'.1, fun e => ?_⟩
      have := lt_of_heap hg
      omega
  have K1 : Hid _ := k1
  clear o1 k1 hd hlc hn ha hsp
  generalize l.length = n at HN ⊢
  go_wp2_with fail
  go_ret
  exact ⟨_, rfl, HN.out, K1.out.alloc _⟩
end Go.Proofs.Ytflemfohnpjeaaa
