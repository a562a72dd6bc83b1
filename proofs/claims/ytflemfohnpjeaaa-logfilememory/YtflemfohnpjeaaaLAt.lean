/- What is proved: plain facts on a scanner in memory that stands where a reading does: its next states; no condition. -/
import Derived.Test.YtflemfohnpjeaaaLHead
namespace Go.Proofs.Ytflemfohnpjeaaa
open Go.RowKit

theorem res_ct {fn : Func} {a t u : Nat} {P : Program} {w : World} {tmps : Array Value} {ad : Addr} {v : Value} (h : fn.results = #[.cell a t, .tmp u]) (ha : tmps.getD a undef = .pointer (some ad)) (hv : (loadVar t ad).run P w = .ok v w) : (results fn tmps).run P w = .ok (.tuple #[v, tmps.getD u undef]) w := by
  simp only [Array.getD_eq_getD_getElem?] at ha ⊢
  simp [results, h, ha, hv, asAddr]
theorem res_ctt {fn : Func} {a t u s : Nat} {P : Program} {w : World} {tmps : Array Value} {ad : Addr} {v : Value} (h : fn.results = #[.cell a t, .tmp u, .tmp s]) (ha : tmps.getD a undef = .pointer (some ad)) (hv : (loadVar t ad).run P w = .ok v w) : (results fn tmps).run P w = .ok (.tuple #[v, tmps.getD u undef, tmps.getD s undef]) w := by
  simp only [Array.getD_eq_getD_getElem?] at ha ⊢
  simp [results, h, ha, hv, asAddr]

/-- The foot, without a look behind it. -/
def foot0 (d : List Int) (en : Bool) (s : Sc) : Sc :=
  let q := num 8 (d.drop (s.pl + 1))
  if q.2.2 ≠ 0 then s.stop en (s.pl + 1) q.2.2
  else if 4096 < q.1 then { s with pl := s.pl + 1, er := 53 }
  else if q.1 ≠ s.ct then { s with pl := s.pl + 1, er := 72 }
  else { s with pl := s.pl + 1 + q.2.1, ft := true }
/-- The body of m bytes, z bytes on. -/
def body0 (d : List Int) (s : Sc) (z m : Nat) : Option TxM × Sc :=
  match decode ((d.drop (s.pl + z)).take m) with
  | .error (p, e) => (none, { s with pl := s.pl + z + p, er := e })
  | .ok t => (some t, { s with pl := s.pl + z + m, ct := s.ct + 1 })
def entry0 (d : List Int) (en : Bool) (s : Sc) : Option TxM × Sc :=
  let q := num 8 (d.drop s.pl)
  if q.2.2 ≠ 0 then (none, s.stop en s.pl q.2.2)
  else if 512 < q.1 then (none, { s with er := 53 })
  else if q.1 = 0 then (none, foot0 d en s)
  else if 4096 ≤ s.ct then (none, { s with er := 71 })
  else if d.length < s.pl + q.2.1 + q.1 then (none, s.stop en s.pl 51)
  else body0 d s q.2.1 q.1
/-- The look behind the foot. -/
def behind (d : List Int) (s : Sc) : Sc := if s.er = 0 ∧ s.ft = true ∧ s.pl < d.length then { s with er := 61 } else s
theorem behind_not {d : List Int} {s : Sc} (h : s.ft = false) : behind d s = s := by
  unfold behind
  rw [if_neg (by simp [h])]
theorem stop_ft (s : Sc) (en : Bool) (p : Nat) (e : Int) : (s.stop en p e).ft = s.ft := by
  unfold Sc.stop
  split <;> rfl
theorem foot_eq {d : List Int} {en : Bool} {s : Sc} (h0 : s.er = 0) (hf : s.ft = false) : foot d en s = behind d (foot0 d en s) := by
  unfold foot foot0
  generalize num 8 (d.drop (s.pl + 1)) = q
  obtain ⟨n, z, e⟩ := q
  simp only
  by_cases c1 : e ≠ 0
  · rw [if_pos c1, if_pos c1, behind_not (by rw [stop_ft]; exact hf)]
  rw [if_neg c1, if_neg c1]
  by_cases c2 : 4096 < n
  · rw [if_pos c2, if_pos c2, behind_not (by exact hf)]
  rw [if_neg c2, if_neg c2]
  by_cases c3 : n ≠ s.ct
  · rw [if_pos c3, if_pos c3, behind_not (by exact hf)]
  rw [if_neg c3, if_neg c3]
  unfold behind
  simp only [h0, true_and]
theorem entry_eq {d : List Int} {en : Bool} {s : Sc} (h0 : s.er = 0) (hf : s.ft = false) : entry d en s = ((entry0 d en s).1, behind d (entry0 d en s).2) := by
  unfold entry entry0
  rw [foot_eq h0 hf]
  generalize num 8 (d.drop s.pl) = q
  obtain ⟨n, z, e⟩ := q
  simp only
  by_cases c1 : e ≠ 0
  · rw [if_pos c1, if_pos c1, behind_not (by rw [stop_ft]; exact hf)]
  rw [if_neg c1, if_neg c1]
  by_cases c2 : 512 < n
  · rw [if_pos c2, if_pos c2, behind_not (by exact hf)]
  rw [if_neg c2, if_neg c2]
  by_cases c3 : n = 0
  · rw [if_pos c3, if_pos c3]
  rw [if_neg c3, if_neg c3]
  by_cases c4 : 4096 ≤ s.ct
  · rw [if_pos c4, if_pos c4, behind_not (by exact hf)]
  rw [if_neg c4, if_neg c4]
  by_cases c5 : d.length < s.pl + z + n
  · rw [if_pos c5, if_pos c5, behind_not (by rw [stop_ft]; exact hf)]
  rw [if_neg c5, if_neg c5]
  unfold body0
  cases decode ((d.drop (s.pl + z)).take n) with
  | error pe => rw [behind_not (by exact hf)]
  | ok t => rw [behind_not (by exact hf)]
def partOf (s : Sc) : Int := if s.er ≠ 0 then 3 else if s.ft then 2 else if s.pl = 0 then 0 else 1
def restOf (d : List Int) (s : Sc) : List Int := if s.er ≠ 0 then [] else d.drop s.pl
/-- The scanner in block sb stands at s, the bytes d were fed to it. -/
structure At (base : Nat) (w : World) (sb : Nat) (v : Value) (d : List Int) (en : Bool) (s : Sc) : Prop where
  sn : Sn base w sb v (partOf s) (restOf d s) s.pl s.ct en s.er
  ple : s.pl ≤ d.length
  len : d.length ≤ 211106232532992
  byts : Byts d
  ftp : s.er = 0 → s.ft = true → s.pl ≠ 0
/-- What a call that reads leaves: the scanner at s', its bytes in the block that they were in. -/
def Left (base : Nat) (w : World) (sb : Nat) (v : Value) (d : List Int) (en : Bool) (s' : Sc) (w' : World) : Prop :=
  (∃ v', At base w' sb v' d en s' ∧ ∀ k, v'.ownBlock = some k → v.ownBlock = some k) ∧ Same (fun k => k = sb) w w'
section
variable {base : Nat} {w w' : World} {sb : Nat} {v : Value} {d : List Int} {en : Bool} {s : Sc}
theorem part_er {s : Sc} (h : s.er ≠ 0) : partOf s = 3 := if_pos h
theorem part_ft {s : Sc} (h : s.er = 0) (hf : s.ft = true) : partOf s = 2 := by
  unfold partOf
  rw [if_neg (by simpa using h), hf]
  rfl
theorem part_0 {s : Sc} (h : s.er = 0) (hf : s.ft = false) (hp : s.pl = 0) : partOf s = 0 := by
  unfold partOf
  rw [if_neg (by simpa using h), hf, if_pos hp]
  rfl
theorem part_1 {s : Sc} (h : s.er = 0) (hf : s.ft = false) (hp : s.pl ≠ 0) : partOf s = 1 := by
  unfold partOf
  rw [if_neg (by simpa using h), hf, if_neg hp]
  rfl
theorem rest_er {d : List Int} {s : Sc} (h : s.er ≠ 0) : restOf d s = [] := if_pos h
theorem rest_0 {d : List Int} {s : Sc} (h : s.er = 0) : restOf d s = d.drop s.pl := if_neg (by simpa using h)
theorem At.kept {S : Nat → Prop} (h : At base w sb v d en s) (hs : Same S w w') (h1 : ¬ S sb) (h2 : ∀ k, v.ownBlock = some k → ¬ S k) : At base w' sb v d en s := ⟨h.sn.kept hs h1 h2, h.ple, h.len, h.byts, h.ftp⟩
theorem At.on (h : At base w sb v d en s) (hs : Kept w w') : At base w' sb v d en s := ⟨h.sn.on hs, h.ple, h.len, h.byts, h.ftp⟩
theorem Left.old {w0 : World} {s' : Sc} (k : Kept w w0) (h : Left base w0 sb v d en s' w') : Left base w sb v d en s' w' := ⟨h.1, (Kept.to k _).trans' h.2⟩
theorem Left.refl (h : At base w sb v d en s) (k : Kept w w') : Left base w sb v d en s w' := ⟨⟨v, h.on k, fun _ e => e⟩, Kept.to k _⟩
theorem Left.next {w1 : World} {v1 : Value} {s2 : Sc} (h1 : ∀ k, v1.ownBlock = some k → v.ownBlock = some k) (h2 : Same (fun k => k = sb) w w1) (h : Left base w1 sb v1 d en s2 w') : Left base w sb v d en s2 w' := by
  obtain ⟨⟨v', a, b⟩, c⟩ := h
  exact ⟨⟨v', a, fun k e => h1 k (b k e)⟩, h2.trans' c⟩
/-- A fault at place p. -/
theorem Left.fail {p : Nat} {e : Int} {part : Int} {s' : Sc} (hd : d.length ≤ 211106232532992) (hby : Byts d) (hp : p ≤ d.length) (he : e ≠ 0) (h1 : s'.pl = p) (h2 : s'.er = e) {ct : Nat} (h3 : s'.ct = ct) (hpart : part = 3) (h : Sn base w' sb (.slice none 0 0) part [] p ct en e) (hs : Same (fun k => k = sb) w w') : Left base w sb v d en s' w' := by
  subst h1 h2 h3 hpart
  exact ⟨⟨_, ⟨by rw [part_er he, rest_er he]; exact h, hp, hd, hby, fun c => absurd c he⟩, fun k e => (by cases e)⟩, hs⟩
theorem Left.lack {n : Nat} (h : At base w sb v d en s) (h0 : s.er = 0) (hp : s.pl + n ≤ d.length) (hl : Lk base w sb v (partOf s) (restOf d s) s.pl s.ct en 0 n w') : Left base w sb v d en (s.stop en (s.pl + n) 51) w' := by
  rcases hl with ⟨rfl, h1, h2⟩ | ⟨rfl, h1, h2⟩
  · unfold Sc.stop
    rw [if_neg (by simp)]
    exact Left.fail (e := 51) h.len h.byts hp (by omega) rfl rfl rfl rfl h1 h2
  · unfold Sc.stop
    rw [if_pos ⟨rfl, rfl⟩]
    exact ⟨⟨v, ⟨by rw [h0]; exact h1, h.ple, h.len, h.byts, h.ftp⟩, fun _ e => e⟩, Kept.to h2 _⟩
theorem stop_ne (s : Sc) (en : Bool) (p : Nat) {e : Int} (h : e ≠ 51) : s.stop en p e = { s with pl := p, er := e } := by
  unfold Sc.stop
  rw [if_neg (fun c => h c.1)]
end
end Go.Proofs.Ytflemfohnpjeaaa
