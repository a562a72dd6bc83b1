/- What is proved: one reading call on a cursor and on the document's cursor beside it: the law's step answers true, and both stand alike behind it; no condition. -/
import Derived.Test.YtfedenfnkimngaaWRefS
import Derived.Test.YtfedenfnkimngaaWStickL
import Derived.Lib.ConvBytes
namespace Go.Proofs.Ytfedenfnkimngaa
open Go.RowKit

/-- A cursor and the document's, alike and apart, in blocks from base on. -/
def Both (base : Nat) (w : World) (cb rb : Nat) (l : List Int) (pl : Nat) (ft : Int) : Prop :=
  ∃ a cap a' cap', Cu w cb a cap l pl ft ∧ RC w rb a' cap' l pl ft ∧ (∀ g, a = some ⟨g, 0, none⟩ → base ≤ g ∧ g ≠ rb) ∧ (∀ g, a' = some ⟨g, 0, none⟩ → base ≤ g ∧ g ≠ cb) ∧ base ≤ cb ∧ base ≤ rb ∧ cb ≠ rb
theorem Both.on {base : Nat} {w w' : World} {cb rb : Nat} {l : List Int} {pl : Nat} {ft : Int} (h : Both base w cb rb l pl ft) (k : Kept w w') : Both base w' cb rb l pl ft := by
  obtain ⟨a, cap, a', cap', h1, h2, h3⟩ := h
  exact ⟨a, cap, a', cap', h1.on k, h2.on k, h3⟩

set_option maxRecDepth 100000 in
theorem left_draw {w : World} {cb : Nat} {a : Option Addr} {cap : Nat} {l : List Int} {pl : Nat} {ft : Int} (h : Cu w cb a cap l pl ft) : Calls Try.prog 13 #[.pointer (some ⟨cb, 0, none⟩)] w fun e w' => e = .returned (.int .i64 ((l.length - pl : Nat) : Int)) ∧ ∃ m, w' = w.drewN m := by
  obtain ⟨c0, c1, -, -, -⟩ := h.cells
  have hp := h.ple
  have hl := h.len
  obtain ⟨n, en⟩ : ∃ n, n = l.length := ⟨_, rfl⟩
  rw [← en] at c0 hp hl ⊢
  obtain ⟨d, ed⟩ : ∃ d, d = n - pl := ⟨_, rfl⟩
  have hd : (n : Int) - (pl : Int) = (d : Int) := by omega
  rw [← ed]
  clear h en ed
  go_enter Try.func13, Try.ntmps13
  go_wp2_with fail
  go_quiet (fail)
  go_wp2_with fail
  go_ret
  exact ⟨rfl, _, rfl⟩

/-- What the last line of a step asks of the world behind the calls. -/
structure Tail (w : World) (cb rb L pl : Nat) (ft : Int) : Prop where
  off : ∀ n, Calls Try.prog 12 #[.pointer (some ⟨cb, 0, none⟩)] (w.drewN n) fun e w' => e = .returned (.int .i64 pl) ∧ w' = w.drewN n
  left : ∀ n, Calls Try.prog 13 #[.pointer (some ⟨cb, 0, none⟩)] (w.drewN n) fun e w' => e = .returned (.int .i64 ((L - pl : Nat) : Int)) ∧ ∃ m, w' = (w.drewN n).drewN m
  fault : ∀ n, Calls Try.prog 14 #[.pointer (some ⟨cb, 0, none⟩)] (w.drewN n) fun e w' => e = .returned (.int .i64 ft) ∧ w' = w.drewN n
theorem Tail.of {w : World} {cb rb : Nat} {a a' : Option Addr} {cap cap' : Nat} {l : List Int} {pl : Nat} {ft : Int} (h : Cu w cb a cap l pl ft) (_ : RC w rb a' cap' l pl ft) : Tail w cb rb l.length pl ft :=
  ⟨fun _ => offset_any (h.on (Same.drewN (Same.refl _ _) _)), fun _ => left_draw (h.on (Same.drewN (Same.refl _ _) _)), fun _ => fault_any (h.on (Same.drewN (Same.refl _ _) _))⟩

theorem rByte_range {l : List Int} (hl : Byts l) (pl : Nat) (ft : Int) : 0 ≤ (rByte l pl ft).1.1 ∧ (rByte l pl ft).1.1 < 256 := by
  unfold rByte
  split
  · exact ⟨Int.le_refl _, (by decide : (0 : Int) < 256)⟩
  · split
    · exact ⟨Int.le_refl _, (by decide : (0 : Int) < 256)⟩
    · rename_i h
      have : l.getD pl 0 ∈ l := by
        rw [List.getD, List.getElem?_eq_getElem (by omega)]
        exact List.getElem_mem _
      exact hl _ this
def opO (k A B : Int) : Obj := .cells #[.int .i64 k, .int .i64 A, .int .i64 B] 31 (0, 0)

theorem rPl_num {l : List Int} {pl : Nat} (hb : Byts l) (h : pl ≤ l.length) (ft B : Int) : (rNum l pl ft B).2.1 ≤ l.length := by
  have HO := fun e => (num_one (k := 8) (l := l.drop pl) (by decide) (hb.drop pl) e).2.1
  rw [List.length_drop] at HO
  unfold rNum rNumQ
  split
  · exact h
  · split
    · exact h
    · split
      · exact h
      · rename_i h1 _
        have := HO (by simpa using h1)
        show pl + (num 8 (l.drop pl)).2.1 ≤ l.length
        omega
theorem rPl_text {l : List Int} {pl : Nat} (h : pl ≤ l.length) (ft A B : Int) : (rText l pl ft A B).2.1 ≤ l.length := by
  unfold rText rTextQ
  split
  · exact h
  · split
    · exact h
    · split
      · exact h
      · split
        · exact h
        · show pl + (num 8 (l.drop pl)).2.1 + (num 8 (l.drop pl)).1 ≤ l.length
          omega
theorem rPl_take {l : List Int} {pl : Nat} (h : pl ≤ l.length) (ft n : Int) : (rTake l pl ft n).2.1 ≤ l.length := by
  unfold rTake
  split
  · exact h
  · split
    · exact h
    · split
      · exact h
      · show pl + n.toNat ≤ l.length
        omega
theorem rPl_byte {l : List Int} {pl : Nat} (h : pl ≤ l.length) (ft : Int) : (rByte l pl ft).2.1 ≤ l.length := by
  unfold rByte
  split
  · exact h
  · split
    · exact h
    · show pl + 1 ≤ l.length; omega
theorem rText_byts {l : List Int} (hb : Byts l) (pl : Nat) (ft A B : Int) : Byts (rText l pl ft A B).1.1 := by
  unfold rText rTextQ
  split
  · exact Byts.nil
  · split
    · exact Byts.nil
    · split
      · exact Byts.nil
      · split
        · exact Byts.nil
        · exact (hb.drop _).take _
theorem rText_len (l : List Int) (pl : Nat) (ft A B : Int) : (rText l pl ft A B).1.1.length ≤ l.length := by
  unfold rText rTextQ
  split
  · simp
  · split
    · simp
    · split
      · simp
      · split
        · simp
        · show ((l.drop _).take _).length ≤ l.length
          simp
          omega
theorem rTake_len (l : List Int) (pl : Nat) (ft n : Int) : (rTake l pl ft n).1.1.length ≤ l.length := by
  unfold rTake
  split
  · simp
  · split
    · simp
    · split
      · simp
      · show ((l.drop _).take _).length ≤ l.length
        simp
        omega
/-- The bytes of a string, in a row of their own. -/
theorem string_bytes (w : World) (l : List Int) (hb : Byts l) : ∃ w' c, (convert 9 22 (.string (strOfNums l))).run Try.prog w = .ok (.slice (some ⟨w.heap.size, 0, none⟩) l.length c) w' ∧ BytesAt w' (some ⟨w.heap.size, 0, none⟩) l ∧ Kept w w' := by
  have hr := Lib.run_convert_string_bytes (P := Try.prog) w 9 22 5 (strOfNums l) Try.underlying9 Try.underlying22 Try.underlying5
  rw [strOfNums_size] at hr
  refine ⟨_, _, hr, fun i x hx => ?_, ⟨rfl, rfl, rfl, by rw [Lib.bytesWorld_size]; omega, fun k hk _ => Lib.bytesWorld_at_old w _ _ k hk⟩⟩
  have hi := (List.getElem?_eq_some_iff.1 hx).1
  refine ⟨w.heap.size, 0, rfl, by rw [Lib.bytesWorld_size]; omega, ?_⟩
  rw [Nat.zero_add, Lib.bytesWorld_cell w _ _ i (by rw [strOfNums_size]; exact hi), strOfNums_data]
  have hxr := hb.get hx
  have e : (l.map fun n => UInt8.ofNat n.toNat).getD i 0 = UInt8.ofNat x.toNat := by
    rw [List.getD, List.getElem?_map, hx]
    rfl
  rw [e]
  congr 2
  simp
  omega

set_option maxRecDepth 100000 in
theorem step_0 {base : Nat} {w : World} {cb rb : Nat} {l : List Int} {pl : Nat} {ft : Int} (h : Both base w cb rb l pl ft) (k A B : Int) (hk : k < 1 ∨ 4 < k) :
    Calls Try.prog 11 #[.pointer (some ⟨cb, 0, none⟩), .pointer (some ⟨rb, 0, none⟩), .agg #[.int .i64 k, .int .i64 A, .int .i64 B]] w fun e w' => e = .returned (.bool true) ∧ (∃ pl' ft', Both base w' cb rb l pl' ft') ∧ Same (fun k => k = cb ∨ k = rb) w w' := by
  have H : Hid _ := h
  clear h
  by_cases h1 : k < 1
  · have d1 : decide (k < 1) = true := decide_eq_true h1
    clear hk
    go_enter Try.func11, Try.ntmps11
    go_wp2_with fail
    go_ret
    exact ⟨rfl, ⟨pl, ft, Both.on H.out ((Same.refl _ w).alloc _)⟩, Kept.to ((Same.refl _ w).alloc _) _⟩
  · have d1 : decide (k < 1) = false := decide_eq_false h1
    have h2 : 4 < k := by omega
    have d2 : decide (4 < k) = true := decide_eq_true h2
    clear hk
    go_enter Try.func11, Try.ntmps11
    go_wp2_with fail
    go_ret
    exact ⟨rfl, ⟨pl, ft, Both.on H.out ((Same.refl _ w).alloc _)⟩, Kept.to ((Same.refl _ w).alloc _) _⟩
set_option maxRecDepth 100000 in
set_option maxHeartbeats 3200000 in
theorem step_1 {base : Nat} {w : World} {cb rb : Nat} {l : List Int} {pl : Nat} {ft : Int} (h : Both base w cb rb l pl ft) (A B : Int) :
    Calls Try.prog 11 #[.pointer (some ⟨cb, 0, none⟩), .pointer (some ⟨rb, 0, none⟩), .agg #[.int .i64 1, .int .i64 A, .int .i64 B]] w fun e w' => e = .returned (.bool true) ∧ (∃ pl' ft', Both base w' cb rb l pl' ft') ∧ Same (fun k => k = cb ∨ k = rb) w w' := by
  obtain ⟨a, cap, a', cap', hu, hr, ha, ha', hcb, hrb, hne⟩ := h
  have hnot : ∀ (x : Bool) (w : World), (Op.unary .not (.bool x)).run Try.prog w = .ok (.bool (!x)) w := fun _ _ => rfl
  have hX : (w.alloc (opO 1 A B)).heap[w.heap.size]? = some (opO 1 A B) := heap_new w _
  have k0 : Kept w (w.alloc (opO 1 A B)) := (Same.refl _ w).alloc _
  have HS : Hid _ := step_byte (hr.on k0) A B
  have hlen := hu.len
  have HU0 : Hid _ := hu.on k0
  have HLT : Hid (cb < w.heap.size ∧ rb < w.heap.size) := ⟨hu.lt, hr.lt⟩
  have HPL : Hid ((rByte l pl ft).2.1 ≤ l.length) := rPl_byte hu.ple ft
  obtain ⟨v0, v1⟩ := rByte_range hu.byts pl ft
  have HB : Hid (∀ W, Cu W cb a cap l pl ft → _) := fun W (u : Cu W cb a cap l pl ft) => byte_any u
  generalize rByte l pl ft = z at HS HB v0 v1 HPL
  obtain ⟨⟨v, e⟩, q, f⟩ := z
  simp only at HS HB v0 v1 HPL
  have n1 : (e != e) = false := by simp
  have e1 : ((q : Int) == (q : Int)) = true := by simp
  have e3 : (f == f) = true := by simp
  have n2 : (v != v) = false := by simp
  have HA : Hid _ := ha
  have HA' : Hid _ := ha'
  have HX : Hid _ := hX
  clear hu hr k0 ha ha' hX
  go_enter Try.func11, Try.ntmps11
  go_wp2_with fail
  refine Calls.mono HS.out ?_
  rintro r w1 ⟨rfl, r1, s1⟩
  have hx1 : w1.heap[w.heap.size]? = some (opO 1 A B) := (s1.block _ (lt_of_heap HX.out) (by have := HLT.out; omega)).trans HX.out
  have g0 : w1.cell? ⟨w.heap.size, 0, none⟩ = some (.int .i64 1) := (cell_of hx1 0).trans rfl
  have u1 : Cu w1 cb a cap l pl ft := HU0.out.kept s1 hne (fun g e => (HA.out g e).2)
  have HB1 : Hid _ := HB.out _ u1
  have R1 : Hid _ := r1
  have S1 : Hid (Same (fun k => k = rb) w w1) := (Kept.to ((Same.refl _ w).alloc _) _).trans' s1
  clear r1 s1 u1 hx1
  go_wp2_with fail
  refine Calls.mono HB1.out ?_
  rintro r w2 ⟨rfl, u2, s2⟩
  have r2 : RC w2 rb a' cap' l q f := RC.kept R1.out s2 (fun e => hne e.symm) (fun g e => (HA'.out g e).2)
  have FIN : Hid ((∃ pl' ft', Both base w2 cb rb l pl' ft') ∧ Same (fun k => k = cb ∨ k = rb) w w2) :=
    ⟨⟨q, f, a, cap, a', cap', u2, r2, HA.out, HA'.out, hcb, hrb, hne⟩, (S1.out.mono (fun _ _ e => .inr e)).trans s2 (fun _ _ e => .inl e)⟩
  have HT : Hid _ := Tail.of u2 r2
  obtain ⟨c0, c1, c2, -, -⟩ := r2.cells
  have hlt2 := r2.lt
  obtain ⟨L, eL⟩ : ∃ L, L = l.length := ⟨_, rfl⟩
  rw [← eL] at c0 HT hlen HPL
  obtain ⟨d, ed⟩ : ∃ d, d = L - q := ⟨_, rfl⟩
  have hd : (L : Int) - (q : Int) = (d : Int) := by have := HPL.out; omega
  have HTL : Hid (∀ n, Calls Try.prog 13 #[.pointer (some ⟨cb, 0, none⟩)] (w2.drewN n) fun e w' => e = .returned (.int .i64 (d : Int)) ∧ ∃ m, w' = (w2.drewN n).drewN m) := by
    have := HT.out.left
    rw [← ed] at this
    exact this
  have hd2 : (d : Int) ≤ 140737488355328 := by omega
  have e2 : ((d : Int) == (d : Int)) = true := by simp
  clear u2 s2 r2 ed eL g0
  go_wp2_with fail
  go_quiet (first | (go_at_call 12; refine Calls.quiet_of_same (HT.out.off _)) | (go_at_call 13; refine Calls.quiet_of (HTL.out _)) | (go_at_call 14; refine Calls.quiet_of_same (HT.out.fault _)))
  go_wp2_with fail
  go_ret
  obtain ⟨⟨p', f', hb'⟩, hs'⟩ := FIN.out
  exact ⟨rfl, ⟨p', f', hb'.on (Same.drewN (Same.refl _ _) _)⟩, hs'.drewN _⟩

set_option maxRecDepth 100000 in
set_option maxHeartbeats 3200000 in
theorem step_2 {base : Nat} {w : World} {cb rb : Nat} {l : List Int} {pl : Nat} {ft : Int} (h : Both base w cb rb l pl ft) (A B : Int) :
    Calls Try.prog 11 #[.pointer (some ⟨cb, 0, none⟩), .pointer (some ⟨rb, 0, none⟩), .agg #[.int .i64 2, .int .i64 A, .int .i64 B]] w fun e w' => e = .returned (.bool true) ∧ (∃ pl' ft', Both base w' cb rb l pl' ft') ∧ Same (fun k => k = cb ∨ k = rb) w w' := by
  obtain ⟨a, cap, a', cap', hu, hr, ha, ha', hcb, hrb, hne⟩ := h
  have hnot : ∀ (x : Bool) (w : World), (Op.unary .not (.bool x)).run Try.prog w = .ok (.bool (!x)) w := fun _ _ => rfl
  have hX : (w.alloc (opO 2 A B)).heap[w.heap.size]? = some (opO 2 A B) := heap_new w _
  have k0 : Kept w (w.alloc (opO 2 A B)) := (Same.refl _ w).alloc _
  have HS : Hid _ := step_num (hr.on k0) A B
  have hlen := hu.len
  have HU0 : Hid _ := hu.on k0
  have HLT : Hid (cb < w.heap.size ∧ rb < w.heap.size) := ⟨hu.lt, hr.lt⟩
  have HPL : Hid ((rNum l pl ft B).2.1 ≤ l.length) := rPl_num hu.byts hu.ple ft B
  have HB : Hid (∀ W, Cu W cb a cap l pl ft → _) := fun W (u : Cu W cb a cap l pl ft) => number_any u B
  generalize rNum l pl ft B = z at HS HB  HPL
  obtain ⟨⟨v, e⟩, q, f⟩ := z
  simp only at HS HB  HPL
  have n1 : (e != e) = false := by simp
  have e1 : ((q : Int) == (q : Int)) = true := by simp
  have e3 : (f == f) = true := by simp
  have n2 : (v != v) = false := by simp
  have HA : Hid _ := ha
  have HA' : Hid _ := ha'
  have HX : Hid _ := hX
  clear hu hr k0 ha ha' hX
  go_enter Try.func11, Try.ntmps11
  go_wp2_with fail
  refine Calls.mono HS.out ?_
  rintro r w1 ⟨rfl, r1, s1⟩
  have hx1 : w1.heap[w.heap.size]? = some (opO 2 A B) := (s1.block _ (lt_of_heap HX.out) (by have := HLT.out; omega)).trans HX.out
  have g0 : w1.cell? ⟨w.heap.size, 0, none⟩ = some (.int .i64 2) := (cell_of hx1 0).trans rfl
  have g2 : w1.cell? ⟨w.heap.size, 2, none⟩ = some (.int .i64 B) := (cell_of hx1 2).trans rfl
  have u1 : Cu w1 cb a cap l pl ft := HU0.out.kept s1 hne (fun g e => (HA.out g e).2)
  have HB1 : Hid _ := HB.out _ u1
  have R1 : Hid _ := r1
  have S1 : Hid (Same (fun k => k = rb) w w1) := (Kept.to ((Same.refl _ w).alloc _) _).trans' s1
  clear r1 s1 u1 hx1
  go_wp2_with fail
  refine Calls.mono HB1.out ?_
  rintro r w2 ⟨rfl, u2, s2⟩
  have r2 : RC w2 rb a' cap' l q f := RC.kept R1.out s2 (fun e => hne e.symm) (fun g e => (HA'.out g e).2)
  have FIN : Hid ((∃ pl' ft', Both base w2 cb rb l pl' ft') ∧ Same (fun k => k = cb ∨ k = rb) w w2) :=
    ⟨⟨q, f, a, cap, a', cap', u2, r2, HA.out, HA'.out, hcb, hrb, hne⟩, (S1.out.mono (fun _ _ e => .inr e)).trans s2 (fun _ _ e => .inl e)⟩
  have HT : Hid _ := Tail.of u2 r2
  obtain ⟨c0, c1, c2, -, -⟩ := r2.cells
  have hlt2 := r2.lt
  obtain ⟨L, eL⟩ : ∃ L, L = l.length := ⟨_, rfl⟩
  rw [← eL] at c0 HT hlen HPL
  obtain ⟨d, ed⟩ : ∃ d, d = L - q := ⟨_, rfl⟩
  have hd : (L : Int) - (q : Int) = (d : Int) := by have := HPL.out; omega
  have HTL : Hid (∀ n, Calls Try.prog 13 #[.pointer (some ⟨cb, 0, none⟩)] (w2.drewN n) fun e w' => e = .returned (.int .i64 (d : Int)) ∧ ∃ m, w' = (w2.drewN n).drewN m) := by
    have := HT.out.left
    rw [← ed] at this
    exact this
  have hd2 : (d : Int) ≤ 140737488355328 := by omega
  have e2 : ((d : Int) == (d : Int)) = true := by simp
  clear u2 s2 r2 ed eL g0 g2
  go_wp2_with fail
  go_quiet (first | (go_at_call 12; refine Calls.quiet_of_same (HT.out.off _)) | (go_at_call 13; refine Calls.quiet_of (HTL.out _)) | (go_at_call 14; refine Calls.quiet_of_same (HT.out.fault _)))
  go_wp2_with fail
  go_ret
  obtain ⟨⟨p', f', hb'⟩, hs'⟩ := FIN.out
  exact ⟨rfl, ⟨p', f', hb'.on (Same.drewN (Same.refl _ _) _)⟩, hs'.drewN _⟩

set_option maxRecDepth 100000 in
set_option maxHeartbeats 3200000 in
theorem step_3 {base : Nat} {w : World} {cb rb : Nat} {l : List Int} {pl : Nat} {ft : Int} (h : Both base w cb rb l pl ft) (A B : Int) :
    Calls Try.prog 11 #[.pointer (some ⟨cb, 0, none⟩), .pointer (some ⟨rb, 0, none⟩), .agg #[.int .i64 3, .int .i64 A, .int .i64 B]] w fun e w' => e = .returned (.bool true) ∧ (∃ pl' ft', Both base w' cb rb l pl' ft') ∧ Same (fun k => k = cb ∨ k = rb) w w' := by
  obtain ⟨a, cap, a', cap', hu, hr, ha, ha', hcb, hrb, hne⟩ := h
  have hnot : ∀ (x : Bool) (w : World), (Op.unary .not (.bool x)).run Try.prog w = .ok (.bool (!x)) w := fun _ _ => rfl
  have hX : (w.alloc (opO 3 A B)).heap[w.heap.size]? = some (opO 3 A B) := heap_new w _
  have k0 : Kept w (w.alloc (opO 3 A B)) := (Same.refl _ w).alloc _
  have HS : Hid _ := step_text (hr.on k0) A B
  have hlen := hu.len
  have HU0 : Hid _ := hu.on k0
  have HLT : Hid (cb < w.heap.size ∧ rb < w.heap.size) := ⟨hu.lt, hr.lt⟩
  have HPL : Hid ((rText l pl ft A B).2.1 ≤ l.length) := rPl_text hu.ple ft A B
  have HBY : Hid (Byts (rText l pl ft A B).1.1) := rText_byts hu.byts pl ft A B
  have hzl := rText_len l pl ft A B
  have HB : Hid (∀ W, Cu W cb a cap l pl ft → _) := fun W (u : Cu W cb a cap l pl ft) => text_any u A B
  generalize rText l pl ft A B = z at HS HB HBY hzl HPL
  obtain ⟨⟨v, e⟩, q, f⟩ := z
  simp only at HS HB HBY hzl HPL
  have n1 : (e != e) = false := by simp
  have e1 : ((q : Int) == (q : Int)) = true := by simp
  have e3 : (f == f) = true := by simp
  have HSM : Hid (∀ W oa ob ca cb', BytesAt W oa v → BytesAt W ob v → _) := fun W oa ob ca cb' (hx : BytesAt W oa v) (hy : BytesAt W ob v) => same_true W oa ob ca cb' v hx hy (by omega)
  have HCV : Hid (∀ W, _) := fun W => string_bytes W v HBY.out
  generalize v.length = N at HS HSM HCV
  clear hzl
  have HA : Hid _ := ha
  have HA' : Hid _ := ha'
  have HX : Hid _ := hX
  clear hu hr k0 ha ha' hX
  go_enter Try.func11, Try.ntmps11
  go_wp2_with fail
  refine Calls.mono HS.out ?_
  rintro r w1 ⟨ap, cp, rfl, bp, np, r1, s1⟩
  have hx1 : w1.heap[w.heap.size]? = some (opO 3 A B) := (s1.block _ (lt_of_heap HX.out) (by have := HLT.out; omega)).trans HX.out
  have g0 : w1.cell? ⟨w.heap.size, 0, none⟩ = some (.int .i64 3) := (cell_of hx1 0).trans rfl
  have g1 : w1.cell? ⟨w.heap.size, 1, none⟩ = some (.int .i64 A) := (cell_of hx1 1).trans rfl
  have g2 : w1.cell? ⟨w.heap.size, 2, none⟩ = some (.int .i64 B) := (cell_of hx1 2).trans rfl
  have u1 : Cu w1 cb a cap l pl ft := HU0.out.kept s1 hne (fun g e => (HA.out g e).2)
  have HB1 : Hid _ := HB.out _ u1
  have R1 : Hid _ := r1
  have S1 : Hid (Same (fun k => k = rb) w w1) := (Kept.to ((Same.refl _ w).alloc _) _).trans' s1
  have BP : Hid _ := bp
  have NP : Hid _ := np
  clear r1 s1 u1 hx1 bp np
  go_wp2_with fail
  refine Calls.mono HB1.out ?_
  rintro r w2 ⟨rfl, u2, s2⟩
  have r2 : RC w2 rb a' cap' l q f := RC.kept R1.out s2 (fun e => hne e.symm) (fun g e => (HA'.out g e).2)
  have bp2 : BytesAt w2 ap v := BytesAt.kept BP.out s2 (fun k hk e => by obtain ⟨_, off, e'⟩ := hk; exact (HA'.out k (NP.out k off e').1).2 e)
  obtain ⟨w3, cc, hcv, b3, k3⟩ := HCV.out w2
  have FIN : Hid ((∃ pl' ft', Both base w3 cb rb l pl' ft') ∧ Same (fun k => k = cb ∨ k = rb) w w3) :=
    ⟨⟨q, f, a, cap, a', cap', u2.on k3, r2.on k3, HA.out, HA'.out, hcb, hrb, hne⟩, ((S1.out.mono (fun _ _ e => .inr e)).trans s2 (fun _ _ e => .inl e)).trans' (Kept.to k3 _)⟩
  have HT : Hid _ := Tail.of (u2.on k3) (r2.on k3)
  obtain ⟨c0, c1, c2, -, -⟩ := (r2.on k3).cells
  have hlt2 := (r2.on k3).lt
  have HM : Hid _ := HSM.out w3 _ ap cc cp b3 (bp2.kept k3 (fun _ _ h => h))
  obtain ⟨L, eL⟩ : ∃ L, L = l.length := ⟨_, rfl⟩
  rw [← eL] at c0 HT hlen HPL
  obtain ⟨d, ed⟩ : ∃ d, d = L - q := ⟨_, rfl⟩
  have hd : (L : Int) - (q : Int) = (d : Int) := by have := HPL.out; omega
  have HTL : Hid (∀ n, Calls Try.prog 13 #[.pointer (some ⟨cb, 0, none⟩)] (w3.drewN n) fun e w' => e = .returned (.int .i64 (d : Int)) ∧ ∃ m, w' = (w3.drewN n).drewN m) := by
    have := HT.out.left
    rw [← ed] at this
    exact this
  have hd2 : (d : Int) ≤ 140737488355328 := by omega
  have e2 : ((d : Int) == (d : Int)) = true := by simp
  clear u2 s2 r2 ed eL g0 g1 g2 b3 k3 bp2
  go_wp2_with fail
  refine Calls.mono HM.out ?_
  rintro r w4 ⟨rfl, rfl⟩
  go_wp2_with fail
  go_quiet (first | (go_at_call 12; refine Calls.quiet_of_same (HT.out.off _)) | (go_at_call 13; refine Calls.quiet_of (HTL.out _)) | (go_at_call 14; refine Calls.quiet_of_same (HT.out.fault _)))
  go_wp2_with fail
  go_ret
  obtain ⟨⟨p', f', hb'⟩, hs'⟩ := FIN.out
  exact ⟨rfl, ⟨p', f', hb'.on (Same.drewN (Same.refl _ _) _)⟩, hs'.drewN _⟩

end Go.Proofs.Ytfedenfnkimngaa
