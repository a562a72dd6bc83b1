/- What is proved: the document's Finished; what both scanners tell is the same where both stand at one state; how each goes on in memory while the other stays; no condition. -/
import Derived.Test.YtmajfclkhjnahaaLRs
import Derived.Test.YtmajfclkhjnahaaLTell
import Derived.BigQuiet
namespace Go.Proofs.Ytmajfclkhjnahaa
open Go.RowKit


section
variable {base : Nat} {w : World} {sb rb : Nat} {v : Value} {oa : Option Addr} {c : Nat} {d : List Int} {en : Bool} {s : Sc}
set_option maxRecDepth 100000 in
set_option maxHeartbeats 1600000 in
theorem rfin_any (h : Rs w rb oa c d en s) : Calls Try.prog 24 #[.pointer (some ⟨rb, 0, none⟩)] w fun x w' => x = .returned (.bool (decide (s.ft = true ∧ en = true ∧ s.pl = d.length ∧ s.er = 0))) ∧ ∃ k, w' = w.drewN k := by
  obtain ⟨c0, c1, c2, -, c4, c5⟩ := h.cells
  have hlt := h.lt
  obtain ⟨n, en'⟩ : ∃ n, n = d.length := ⟨_, rfl⟩
  obtain ⟨pl, ct, ft, er⟩ := s
  simp only at c2 c4 c5 ⊢
  rw [← en'] at c0 ⊢
  clear h en'
  cases ft with
  | false =>
    rw [show decide (false = true ∧ en = true ∧ pl = n ∧ er = 0) = false from decide_eq_false (fun c => by cases c.1)]
    go_enter Try.func24, Try.ntmps24
    go_wp2_with fail
    go_quiet (fail)
    go_wp2_with fail
    go_ret
    exact ⟨rfl, nq, rfl⟩
  | true =>
    cases en with
    | false =>
      rw [show decide (true = true ∧ false = true ∧ pl = n ∧ er = 0) = false from decide_eq_false (fun c => by cases c.2.1)]
      go_enter Try.func24, Try.ntmps24
      go_wp2_with fail
      go_quiet (fail)
      go_wp2_with fail
      go_ret
      exact ⟨rfl, nq, rfl⟩
    | true =>
      by_cases hn : pl = n
      · subst hn
        have hpp : ((pl : Int) == (pl : Int)) = true := by simp
        by_cases he : er = 0
        · subst he
          rw [show decide (true = true ∧ true = true ∧ pl = pl ∧ (0 : Int) = 0) = true from decide_eq_true ⟨rfl, rfl, rfl, rfl⟩]
          go_enter Try.func24, Try.ntmps24
          go_wp2_with fail
          go_quiet (fail)
          go_wp2_with fail
          go_ret
          exact ⟨rfl, nq, rfl⟩
        · have he' : (er == 0) = false := by simpa using he
          rw [show decide (true = true ∧ true = true ∧ pl = pl ∧ er = 0) = false from decide_eq_false (fun c => he c.2.2.2)]
          clear he
          go_enter Try.func24, Try.ntmps24
          go_wp2_with fail
          go_quiet (fail)
          go_wp2_with fail
          go_ret
          exact ⟨rfl, nq, rfl⟩
      · have hn' : ((pl : Int) == (n : Int)) = false := by simpa using fun c => hn (by omega)
        rw [show decide (true = true ∧ true = true ∧ pl = n ∧ er = 0) = false from decide_eq_false (fun c => hn c.2.2.1)]
        clear hn
        go_enter Try.func24, Try.ntmps24
        go_wp2_with fail
        go_quiet (fail)
        go_wp2_with fail
        go_ret
        exact ⟨rfl, nq, rfl⟩
/-- Finished is the same. -/
theorem fin_same (hp : s.pl ≤ d.length) : decide (partOf s = 2 ∧ en = true ∧ (restOf d s).length = 0) = decide (s.ft = true ∧ en = true ∧ s.pl = d.length ∧ s.er = 0) := by
  by_cases he : s.er = 0
  · rw [rest_0 he, List.length_drop]
    cases hf : s.ft with
    | true =>
      rw [part_ft he hf]
      congr 1
      simp only [he, true_and, and_true]
      apply propext
      constructor
      · rintro ⟨a, b⟩
        exact ⟨a, by omega⟩
      · rintro ⟨a, b⟩
        exact ⟨a, by omega⟩
    | false =>
      rw [decide_eq_false, decide_eq_false]
      · rintro ⟨a, -⟩
        cases a
      · rintro ⟨a, -⟩
        by_cases h0 : s.pl = 0
        · rw [part_0 he hf h0] at a
          cases a
        · rw [part_1 he hf h0] at a
          cases a
  · rw [part_er he, decide_eq_false, decide_eq_false]
    · rintro ⟨-, -, -, a⟩
      exact he a
    · rintro ⟨a, -⟩
      cases a
set_option maxRecDepth 100000 in
set_option maxHeartbeats 3200000 in
theorem tells7_any (h : At base w sb v d en s) (hr : Rs w rb oa c d en s) : Calls Try.prog 11 #[.pointer (some ⟨sb, 0, none⟩), .pointer (some ⟨rb, 0, none⟩)] w fun x w' => x = .returned (.bool true) ∧ Kept w w' := by
  obtain ⟨-, -, c2, c3, -, -⟩ := hr.cells
  have hlt := hr.lt
  have HO : Hid (∀ n, _) := fun n => soffset_any (h.sn.on ((Same.refl _ w).drewN n))
  have HC : Hid (∀ n, _) := fun n => scount_any (h.sn.on ((Same.refl _ w).drewN n))
  have HF : Hid (∀ n, _) := fun n => sfin_any (h.sn.on ((Same.refl _ w).drewN n))
  have HG : Hid (∀ n, _) := fun n => rfin_any (hr.on ((Same.refl _ w).drewN n))
  rw [fin_same h.ple] at HF
  obtain ⟨b, eb⟩ : ∃ b, b = decide (s.ft = true ∧ en = true ∧ s.pl = d.length ∧ s.er = 0) := ⟨_, rfl⟩
  rw [← eb] at HF HG
  obtain ⟨pl, ct, ft, er⟩ := s
  simp only at c2 c3 HO HC
  clear h hr eb
  have hpp : ((pl : Int) == (pl : Int)) = true := by simp
  have hcc : ((ct : Int) == (ct : Int)) = true := by simp
  have hbb : (b == b) = true := by cases b <;> rfl
  go_enter Try.func11, Try.ntmps11
  go_wp2_with fail
  go_quiet (first | (go_at_call 21; exact Calls.quiet_of_same (HO.out _)) | (go_at_call 22; exact Calls.quiet_of_same (HC.out _)) | (go_at_call 23; exact Calls.quiet_of_same (HF.out _)) | (go_at_call 24; exact Calls.quiet_of (HG.out _)))
  go_wp2_with fail
  go_ret
  exact ⟨rfl, (Same.refl _ w).drewN nq⟩
end


/-- The code's scanner in block sb over the bytes dA at sA, the document's in block rb over the bytes d at s, apart of one another and new since w. -/
structure Sg (w W : World) (sb rb : Nat) (vs vd : Value) (dA : List Int) (eA : Bool) (sA : Sc) (d : List Int) (en : Bool) (s : Sc) : Prop where
  at_ : At w.heap.size W sb vs dA eA sA
  row : Tl w.heap.size W vd d
  obj : W.heap[rb]? = some (.cells #[vd, .bool en, .int .i64 (s.pl : Int), .int .i64 (s.ct : Int), .bool s.ft, .int .i64 s.er] 29 (0, 0))
  cts : s.ct ≤ 4096
  ple : s.pl ≤ d.length
  kept : Kept w W
  sbw : w.heap.size ≤ sb
  rbw : w.heap.size ≤ rb
  ne : sb ≠ rb
  vsr : ∀ k, vs.ownBlock = some k → k ≠ rb
  vdr : ∀ k, vd.ownBlock = some k → k ≠ rb ∧ k ≠ sb
  ap : ∀ k, vs.ownBlock = some k → vd.ownBlock = some k → False
section
variable {w W W' : World} {sb rb : Nat} {vs vd : Value} {dA : List Int} {eA : Bool} {sA : Sc} {d : List Int} {en : Bool} {s : Sc}
theorem Sg.rlt (h : Sg w W sb rb vs vd dA eA sA d en s) : rb < W.heap.size := lt_of_heap h.obj
theorem Sg.on (h : Sg w W sb rb vs vd dA eA sA d en s) (k : Kept W W') : Sg w W' sb rb vs vd dA eA sA d en s :=
  ⟨h.at_.on k, h.row.on k, (k.block _ h.rlt (fun h => h)).trans h.obj, h.cts, h.ple, h.kept.trans' k, h.sbw, h.rbw, h.ne, h.vsr, h.vdr, h.ap⟩
/-- The code's scanner goes on, the document's stays. -/
theorem Sg.code {vs' : Value} {dA' : List Int} {eA' : Bool} {sA' : Sc} (h : Sg w W sb rb vs vd dA eA sA d en s) (hs : Same (fun k => k = sb ∨ vs.ownBlock = some k) W W') (ha : At w.heap.size W' sb vs' dA' eA' sA') (hv : ∀ k, vs'.ownBlock = some k → vs.ownBlock = some k ∨ W.heap.size ≤ k) : Sg w W' sb rb vs' vd dA' eA' sA' d en s := by
  have hrlt := h.rlt
  have hvd : ∀ k, vd.ownBlock = some k → ¬ (k = sb ∨ vs.ownBlock = some k) := fun k e c => by
    rcases c with c | c
    · exact (h.vdr k e).2 c
    · exact h.ap k c e
  refine ⟨ha, h.row.kept hs hvd, (hs.block _ hrlt ?_).trans h.obj, h.cts, h.ple, h.kept.trans hs ?_, h.sbw, h.rbw, h.ne, fun k e c => ?_, h.vdr, fun k e c => ?_⟩
  · rintro (c | c)
    · exact h.ne c.symm
    · exact h.vsr _ c rfl
  · rintro i hi (c | c)
    · have := h.sbw
      omega
    · have := (h.at_.sn.row.block c).1
      omega
  · subst c
    rcases hv _ e with c | c
    · exact h.vsr _ c rfl
    · omega
  · rcases hv _ e with c' | c'
    · exact h.ap k c' c
    · have := (h.row.block c).2
      omega
/-- A reading of the code's. -/
theorem Sg.left {sA' : Sc} (h : Sg w W sb rb vs vd dA eA sA d en s) (hl : Left w.heap.size W sb vs dA eA sA' W') : ∃ vs', Sg w W' sb rb vs' vd dA eA sA' d en s := by
  obtain ⟨⟨vs', a, b⟩, c⟩ := hl
  exact ⟨vs', h.code (c.mono fun _ _ e => .inl e) a fun k e => .inl (b k e)⟩
/-- The end is said to the code's. -/
theorem Sg.over (h : Sg w W sb rb vs vd dA eA sA d en s) (hs : Sn w.heap.size W' sb vs (partOf sA) (restOf dA sA) sA.pl sA.ct true sA.er) (hk : Same (fun k => k = sb) W W') : Sg w W' sb rb vs vd dA true sA d en s :=
  h.code (hk.mono fun _ _ e => .inl e) ⟨hs, h.at_.ple, h.at_.len, h.at_.byts, h.at_.ftp⟩ fun _ e => .inl e
/-- A piece is fed to the code's. -/
theorem Sg.feed {p : List Int} (h : Sg w W sb rb vs vd dA false sA d en s) (hb : (dA ++ p).length ≤ 211106232532992) (hby : Byts p) (hf : FeedR w.heap.size W sb vs (partOf sA) (restOf dA sA) sA.pl sA.ct false sA.er p W') : ∃ vs', Sg w W' sb rb vs' vd (dA ++ p) false sA d en s := by
  have hple := h.at_.ple
  have hpl2 : sA.pl ≤ (dA ++ p).length := by rw [List.length_append]; omega
  unfold FeedR at hf
  by_cases h0 : sA.er = 0
  · have hp3 : ¬ (partOf sA = 3) := by
      unfold partOf
      rw [if_neg (by simpa using h0)]
      split
      · decide
      · split <;> decide
    rw [if_neg (by simpa using hp3)] at hf
    obtain ⟨v', s1, b1, k1⟩ := hf
    have hr : restOf dA sA ++ p = restOf (dA ++ p) sA := by rw [rest_0 h0, rest_0 h0, List.drop_append_of_le_length hple]
    rw [hr] at s1
    exact ⟨v', h.code k1 ⟨s1, hpl2, hb, h.at_.byts.append hby, h.at_.ftp⟩ b1⟩
  · rw [if_pos (.inr (part_er h0))] at hf
    subst hf
    have hsn := h.at_.sn
    have hr : restOf dA sA = restOf (dA ++ p) sA := by rw [rest_er h0, rest_er h0]
    rw [hr] at hsn
    exact ⟨vs, h.code (Same.refl _ _) ⟨hsn, hpl2, hb, h.at_.byts.append hby, h.at_.ftp⟩ fun _ e => .inl e⟩
/-- The document's scanner, as its contracts ask it. -/
theorem Sg.rs (h : Sg w W sb rb vs vd dA eA sA d en s) (hl : d.length ≤ 1048576) (hby : Byts d) : ∃ oa c, vd = .slice oa d.length c ∧ Rs W rb oa c d en s := by
  obtain ⟨oa, c, e, hd, hc, -, hn, -⟩ := h.row.bytes
  refine ⟨oa, c, e, ?_, ⟨hd, hn, hc, hby, by unfold reachBytes; omega⟩, fun k hk => ?_, h.ple, h.cts⟩
  · have ho := h.obj
    rw [e] at ho
    exact ho
  · obtain ⟨-, off, rfl⟩ := hk
    exact (h.vdr k (by rw [e]; rfl)).1
/-- The document's scanner goes on, the code's stays. -/
theorem Sg.doc {vd' : Value} {d' : List Int} {en' : Bool} {s' : Sc} (h : Sg w W sb rb vs vd dA eA sA d en s) (hs : Same (fun k => k = rb ∨ vd.ownBlock = some k) W W') (hr : Tl w.heap.size W' vd' d') (ho : W'.heap[rb]? = some (.cells #[vd', .bool en', .int .i64 (s'.pl : Int), .int .i64 (s'.ct : Int), .bool s'.ft, .int .i64 s'.er] 29 (0, 0))) (hc : s'.ct ≤ 4096) (hp : s'.pl ≤ d'.length) (hv : ∀ k, vd'.ownBlock = some k → vd.ownBlock = some k ∨ W.heap.size ≤ k) : Sg w W' sb rb vs vd' dA eA sA d' en' s' := by
  have hrlt := h.rlt
  have hslt := h.at_.sn.lt
  refine ⟨h.at_.kept hs ?_ ?_, hr, ho, hc, hp, h.kept.trans hs ?_, h.sbw, h.rbw, h.ne, h.vsr, fun k e => ?_, fun k e c => ?_⟩
  · rintro (c | c)
    · exact h.ne c
    · exact (h.vdr _ c).2 rfl
  · rintro k e (c | c)
    · exact h.vsr k e c
    · exact h.ap k e c
  · rintro i hi (c | c)
    · have := h.rbw
      omega
    · have := (h.row.block c).1
      omega
  · rcases hv _ e with c | c
    · exact h.vdr k c
    · exact ⟨by omega, by omega⟩
  · rcases hv _ c with c' | c'
    · exact h.ap k e c'
    · have := (h.at_.sn.row.block e).2
      omega
/-- A reading of the document's. -/
theorem Sg.next {oa : Option Addr} {c : Nat} {s' : Sc} (h : Sg w W sb rb vs (.slice oa d.length c) dA eA sA d en s) (hr : Rs W' rb oa c d en s') (hs : Same (fun k => k = rb) W W') : Sg w W' sb rb vs (.slice oa d.length c) dA eA sA d en s' :=
  h.doc (hs.mono fun _ _ e => .inl e) (h.row.kept hs fun k e => (h.vdr k e).1) hr.obj hr.cts hr.ple fun _ e => .inl e
/-- The end is said to the document's. -/
theorem Sg.ended (h : Sg w W sb rb vs vd dA eA sA d en s) : Sg w (W.setCell ⟨rb, 1, none⟩ (.bool true)) sb rb vs vd dA eA sA d true s :=
  h.doc ((one_set W rb 1 _).mono fun _ _ e => .inl e) (h.row.kept (one_set W rb 1 _) fun k e => (h.vdr k e).1) (setCell_at h.obj 1 _) h.cts h.ple fun _ e => .inl e
/-- The document's bytes are put behind. -/
theorem Sg.more {W1 : World} {vd' : Value} {p : List Int} (h : Sg w W sb rb vs vd dA eA sA d en s) (hr : Tl w.heap.size W1 vd' (d ++ p)) (hs : Same (fun k => vd.ownBlock = some k) W W1) (hv : ∀ k, vd'.ownBlock = some k → vd.ownBlock = some k ∨ W.heap.size ≤ k) : Sg w (W1.setCell ⟨rb, 0, none⟩ vd') sb rb vs vd' dA eA sA (d ++ p) en s := by
  have hrlt := h.rlt
  have ho := (hs.block _ hrlt (fun e => (h.vdr _ e).1 rfl)).trans h.obj
  have hne : ∀ k, vd'.ownBlock = some k → k ≠ rb := fun k e => by
    rcases hv k e with c | c
    · exact (h.vdr k c).1
    · omega
  refine h.doc (Same.setCell (S := fun k => k = rb ∨ vd.ownBlock = some k) (hs.mono fun _ _ e => .inr e) _ (.inr (.inl rfl)) _) (hr.kept (one_set W1 rb 0 _) hne) (setCell_at ho 0 _) h.cts (by rw [List.length_append]; have := h.ple; omega) hv
end
end Go.Proofs.Ytmajfclkhjnahaa
