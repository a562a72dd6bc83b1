/- What is proved: plain facts on the two scanners side by side in memory: how each goes on while the other stays; no condition. -/
import Derived.Test.YtcknpjopbmogiaaLScM
namespace Go.Proofs.Ytcknpjopbmogiaa
open Go.RowKit

/-- The code's scanner in block sb over the bytes dA at sA, the document's in block rb over the bytes d at s, apart of one another and new since w. -/
structure Sg (w W : World) (sb rb : Nat) (vs vd : Value) (dA : List Int) (eA : Bool) (sA : Sc) (d : List Int) (en : Bool) (s : Sc) : Prop where
  at_ : At w.heap.size W sb vs dA eA sA
  row : Tl w.heap.size W vd d
  obj : W.heap[rb]? = some (.cells #[vd, .bool en, .int .i64 (s.pl : Int), .int .i64 (s.ct : Int), .bool s.ft, .int .i64 s.er] 29 (0, 0))
  cts : s.ct ≤ 4096
  ple : s.pl ≤ d.length
  kept : Kept w W
  sbw : w.heap.size ≤ sb
  rbw : w.heap.size ≤ rb
  ne : sb ≠ rb
  vsr : ∀ k, vs.ownBlock = some k → k ≠ rb
  vdr : ∀ k, vd.ownBlock = some k → k ≠ rb ∧ k ≠ sb
  ap : ∀ k, vs.ownBlock = some k → vd.ownBlock = some k → False
section
variable {w W W' : World} {sb rb : Nat} {vs vd : Value} {dA : List Int} {eA : Bool} {sA : Sc} {d : List Int} {en : Bool} {s : Sc}
theorem Sg.rlt (h : Sg w W sb rb vs vd dA eA sA d en s) : rb < W.heap.size := lt_of_heap h.obj
theorem Sg.on (h : Sg w W sb rb vs vd dA eA sA d en s) (k : Kept W W') : Sg w W' sb rb vs vd dA eA sA d en s :=
  ⟨h.at_.on k, h.row.on k, (k.block _ h.rlt (fun h => h)).trans h.obj, h.cts, h.ple, h.kept.trans' k, h.sbw, h.rbw, h.ne, h.vsr, h.vdr, h.ap⟩
/-- The code's scanner goes on, the document's stays. -/
theorem Sg.code {vs' : Value} {dA' : List Int} {eA' : Bool} {sA' : Sc} (h : Sg w W sb rb vs vd dA eA sA d en s) (hs : Same (fun k => k = sb ∨ vs.ownBlock = some k) W W') (ha : At w.heap.size W' sb vs' dA' eA' sA') (hv : ∀ k, vs'.ownBlock = some k → vs.ownBlock = some k ∨ W.heap.size ≤ k) : Sg w W' sb rb vs' vd dA' eA' sA' d en s := by
  have hrlt := h.rlt
  have hvd : ∀ k, vd.ownBlock = some k → ¬ (k = sb ∨ vs.ownBlock = some k) := fun k e c => by
    rcases c with c | c
    · exact (h.vdr k e).2 c
    · exact h.ap k c e
  refine ⟨ha, h.row.kept hs hvd, (hs.block _ hrlt ?_).trans h.obj, h.cts, h.ple, h.kept.trans hs ?_, h.sbw, h.rbw, h.ne, fun k e c => ?_, h.vdr, fun k e c => ?_⟩
  · rintro (c | c)
    · exact h.ne c.symm
    · exact h.vsr _ c rfl
  · rintro i hi (c | c)
    · have := h.sbw
      omega
    · have := (h.at_.sn.row.block c).1
      omega
  · subst c
    rcases hv _ e with c | c
    · exact h.vsr _ c rfl
    · omega
  · rcases hv _ e with c' | c'
    · exact h.ap k c' c
    · have := (h.row.block c).2
      omega
/-- A reading of the code's. -/
theorem Sg.left {sA' : Sc} (h : Sg w W sb rb vs vd dA eA sA d en s) (hl : Left w.heap.size W sb vs dA eA sA' W') : ∃ vs', Sg w W' sb rb vs' vd dA eA sA' d en s := by
  obtain ⟨⟨vs', a, b⟩, c⟩ := hl
  exact ⟨vs', h.code (c.mono fun _ _ e => .inl e) a fun k e => .inl (b k e)⟩
/-- The end is said to the code's. -/
theorem Sg.over (h : Sg w W sb rb vs vd dA eA sA d en s) (hs : Sn w.heap.size W' sb vs (partOf sA) (restOf dA sA) sA.pl sA.ct true sA.er) (hk : Same (fun k => k = sb) W W') : Sg w W' sb rb vs vd dA true sA d en s :=
  h.code (hk.mono fun _ _ e => .inl e) ⟨hs, h.at_.ple, h.at_.len, h.at_.byts, h.at_.ftp⟩ fun _ e => .inl e
/-- A piece is fed to the code's. -/
theorem Sg.feed {p : List Int} (h : Sg w W sb rb vs vd dA false sA d en s) (hb : (dA ++ p).length ≤ 211106232532992) (hby : Byts p) (hf : FeedR w.heap.size W sb vs (partOf sA) (restOf dA sA) sA.pl sA.ct false sA.er p W') : ∃ vs', Sg w W' sb rb vs' vd (dA ++ p) false sA d en s := by
  have hple := h.at_.ple
  have hpl2 : sA.pl ≤ (dA ++ p).length := by rw [List.length_append]; omega
  unfold FeedR at hf
  by_cases h0 : sA.er = 0
  · have hp3 : ¬ (partOf sA = 3) := by
      unfold partOf
      rw [if_neg (by simpa using h0)]
      split
      · decide
      · split <;> decide
    rw [if_neg (by simpa using hp3)] at hf
    obtain ⟨v', s1, b1, k1⟩ := hf
    have hr : restOf dA sA ++ p = restOf (dA ++ p) sA := by rw [rest_0 h0, rest_0 h0, List.drop_append_of_le_length hple]
    rw [hr] at s1
    exact ⟨v', h.code k1 ⟨s1, hpl2, hb, h.at_.byts.append hby, h.at_.ftp⟩ b1⟩
  · rw [if_pos (.inr (part_er h0))] at hf
    subst hf
    have hsn := h.at_.sn
    have hr : restOf dA sA = restOf (dA ++ p) sA := by rw [rest_er h0, rest_er h0]
    rw [hr] at hsn
    exact ⟨vs, h.code (Same.refl _ _) ⟨hsn, hpl2, hb, h.at_.byts.append hby, h.at_.ftp⟩ fun _ e => .inl e⟩
/-- The document's scanner, as its contracts ask it. -/
theorem Sg.rs (h : Sg w W sb rb vs vd dA eA sA d en s) (hl : d.length ≤ 1048576) (hby : Byts d) : ∃ oa c, vd = .slice oa d.length c ∧ Rs W rb oa c d en s := by
  obtain ⟨oa, c, e, hd, hc, -, hn, -⟩ := h.row.bytes
  refine ⟨oa, c, e, ?_, ⟨hd, hn, hc, hby, by unfold reachBytes; omega⟩, fun k hk => ?_, h.ple, h.cts⟩
  · have ho := h.obj
    rw [e] at ho
    exact ho
  · obtain ⟨-, off, rfl⟩ := hk
    exact (h.vdr k (by rw [e]; rfl)).1
/-- The document's scanner goes on, the code's stays. -/
theorem Sg.doc {vd' : Value} {d' : List Int} {en' : Bool} {s' : Sc} (h : Sg w W sb rb vs vd dA eA sA d en s) (hs : Same (fun k => k = rb ∨ vd.ownBlock = some k) W W') (hr : Tl w.heap.size W' vd' d') (ho : W'.heap[rb]? = some (.cells #[vd', .bool en', .int .i64 (s'.pl : Int), .int .i64 (s'.ct : Int), .bool s'.ft, .int .i64 s'.er] 29 (0, 0))) (hc : s'.ct ≤ 4096) (hp : s'.pl ≤ d'.length) (hv : ∀ k, vd'.ownBlock = some k → vd.ownBlock = some k ∨ W.heap.size ≤ k) : Sg w W' sb rb vs vd' dA eA sA d' en' s' := by
  have hrlt := h.rlt
  have hslt := h.at_.sn.lt
  refine ⟨h.at_.kept hs ?_ ?_, hr, ho, hc, hp, h.kept.trans hs ?_, h.sbw, h.rbw, h.ne, h.vsr, fun k e => ?_, fun k e c => ?_⟩
  · rintro (c | c)
    · exact h.ne c
    · exact (h.vdr _ c).2 rfl
  · rintro k e (c | c)
    · exact h.vsr k e c
    · exact h.ap k e c
  · rintro i hi (c | c)
    · have := h.rbw
      omega
    · have := (h.row.block c).1
      omega
  · rcases hv _ e with c | c
    · exact h.vdr k c
    · exact ⟨by omega, by omega⟩
  · rcases hv _ c with c' | c'
    · exact h.ap k e c'
    · have := (h.at_.sn.row.block e).2
      omega
/-- A reading of the document's. -/
theorem Sg.next {oa : Option Addr} {c : Nat} {s' : Sc} (h : Sg w W sb rb vs (.slice oa d.length c) dA eA sA d en s) (hr : Rs W' rb oa c d en s') (hs : Same (fun k => k = rb) W W') : Sg w W' sb rb vs (.slice oa d.length c) dA eA sA d en s' :=
  h.doc (hs.mono fun _ _ e => .inl e) (h.row.kept hs fun k e => (h.vdr k e).1) hr.obj hr.cts hr.ple fun _ e => .inl e
/-- The end is said to the document's. -/
theorem Sg.ended (h : Sg w W sb rb vs vd dA eA sA d en s) : Sg w (W.setCell ⟨rb, 1, none⟩ (.bool true)) sb rb vs vd dA eA sA d true s :=
  h.doc ((one_set W rb 1 _).mono fun _ _ e => .inl e) (h.row.kept (one_set W rb 1 _) fun k e => (h.vdr k e).1) (setCell_at h.obj 1 _) h.cts h.ple fun _ e => .inl e
/-- The document's bytes are put behind. -/
theorem Sg.more {W1 : World} {vd' : Value} {p : List Int} (h : Sg w W sb rb vs vd dA eA sA d en s) (hr : Tl w.heap.size W1 vd' (d ++ p)) (hs : Same (fun k => vd.ownBlock = some k) W W1) (hv : ∀ k, vd'.ownBlock = some k → vd.ownBlock = some k ∨ W.heap.size ≤ k) : Sg w (W1.setCell ⟨rb, 0, none⟩ vd') sb rb vs vd' dA eA sA (d ++ p) en s := by
  have hrlt := h.rlt
  have ho := (hs.block _ hrlt (fun e => (h.vdr _ e).1 rfl)).trans h.obj
  have hne : ∀ k, vd'.ownBlock = some k → k ≠ rb := fun k e => by
    rcases hv k e with c | c
    · exact (h.vdr k c).1
    · omega
  refine h.doc (Same.setCell (S := fun k => k = rb ∨ vd.ownBlock = some k) (hs.mono fun _ _ e => .inr e) _ (.inr (.inl rfl)) _) (hr.kept (one_set W1 rb 0 _) hne) (setCell_at ho 0 _) h.cts (by rw [List.length_append]; have := h.ple; omega) hv
end
end Go.Proofs.Ytcknpjopbmogiaa
