/- What is proved: a scanner's Next: what it answers and leaves; the bounds that a machine's memory sets. -/
import Derived.Test.YtflemfohnpjeaaaLRead
namespace Go.Proofs.Ytflemfohnpjeaaa
open Go.RowKit

/-- What Next answers and leaves. -/
def NextR (base : Nat) (w : World) (sb : Nat) (v : Value) (d : List Int) (en : Bool) (r : Option TxM × Sc) (x : Ending) (w' : World) : Prop :=
  ∃ tv, x = .returned (.tuple #[tv, .bool r.1.isSome, .int .i64 r.2.er]) ∧ NxV w.heap.size w' r.1 tv ∧ Left base w sb v d en r.2 w'
def hd7 (d : List Int) (en : Bool) (s : Sc) : Sc := match mg head4 d 0 with
  | some (p, e) => s.stop en p e
  | none => { s with pl := 4 }
theorem behind_yes {d : List Int} {s : Sc} (h : s.er = 0 ∧ s.ft = true) (hl : s.pl < d.length) : behind d s = { s with er := 61 } := by
  unfold behind
  rw [if_pos ⟨h.1, h.2, hl⟩]
theorem behind_no {d : List Int} {s : Sc} (h : ¬ ((s.er = 0 ∧ s.ft = true) ∧ s.pl < d.length)) : behind d s = s := by
  unfold behind
  rw [if_neg (fun c => h ⟨⟨c.1, c.2.1⟩, c.2.2⟩)]
section
variable {base : Nat} {w w' : World} {sb : Nat} {v : Value} {d : List Int} {en : Bool} {s : Sc}
theorem head_left (h : At base w sb v d en s) (h0 : s.er = 0) (hf : s.ft = false) (hp : s.pl = 0) (hH : HeadR base w sb v (restOf d s) s.pl s.ct en w') : Left base w sb v d en (hd7 d en s) w' := by
  have hr : restOf d s = d := by rw [rest_0 h0, hp, List.drop_zero]
  unfold HeadR at hH
  unfold hd7
  rw [hr, hp] at hH
  cases hm : mg head4 d 0 with
  | none =>
    rw [hm] at hH
    obtain ⟨⟨v', s1, b1⟩, k1⟩ := hH
    have h4 : 4 ≤ d.length := by
      have := congrArg List.length (mg_none hm)
      simp [head4] at this
      omega
    refine Left.pass (n := 4) (p := 1) (w1 := w) h h0 (by omega) (by simp only [hp]) rfl h0 (part_1 h0 hf (by simp)) (by simp) (Same.refl _ w) ?_ b1 k1
    rw [hr, hp, h0]
    exact s1
  | some pe =>
    obtain ⟨p, e⟩ := pe
    rw [hm] at hH
    obtain ⟨m1, m2, m3⟩ := mg_some hm
    simp only at hH ⊢
    by_cases c : e = 51
    · subst c
      rw [if_pos rfl] at hH
      have := Left.lack (n := p) h h0 (by omega) (by rw [part_0 h0 hf hp, hr, hp]; exact hH)
      rw [hp, Nat.zero_add] at this
      exact this
    · rw [if_neg c, Nat.zero_add] at hH
      rw [stop_ne _ _ _ c]
      exact Left.fail (p := p) (e := e) h.len h.byts (by omega) (by omega) rfl rfl rfl rfl hH.1 hH.2
set_option maxRecDepth 100000 in
set_option maxHeartbeats 1600000 in
theorem next_er (h : At base w sb v d en s) (h0 : s.er ≠ 0) : Calls Try.prog 13 #[.pointer (some ⟨sb, 0, none⟩)] w fun x w' => NextR base w sb v d en (none, s) x w' := by
  obtain ⟨c0, -, -, -, -, c5⟩ := h.sn.cells
  rw [part_er h0] at c0
  have hlt := h.sn.lt
  have H : Hid _ := h
  have hv : Hid (∀ k, v.ownBlock = some k → k < w.heap.size) := fun k e => h.below e
  clear h h0
  go_enter Try.func13, Try.ntmps13
  go_wp2_with fail
  go_region
  go_wp2_with fail
  refine bodyPost_ret (res_ctt (a := 2) (t := 40) (u := 3) (s := 4) rfl rfl (loadVar_tx (w := (w.alloc (.cells txz 40 (0, 0))).drew) (heap_new w _))) rfl ?_
  exact ⟨_, rfl, rfl, Left.refl H.out (((Same.refl _ w).alloc _).drew)⟩
/-- What stands when an entry is to be read: the box of the answer, the scanner at s. -/
structure Bef (base : Nat) (w W : World) (sb : Nat) (v v0 : Value) (d : List Int) (en : Bool) (s : Sc) : Prop where
  at_ : At base W sb v0 d en s
  own : ∀ k, v0.ownBlock = some k → v.ownBlock = some k
  same : Same (fun k => k = sb) w W
  box : W.heap[w.heap.size]? = some (.cells txz 40 (0, 0))
  lt : sb < w.heap.size
  below : ∀ k, v.ownBlock = some k → k < w.heap.size
/-- What stands behind it: the answer lies in its box. -/
structure Beh (base : Nat) (w W : World) (sb : Nat) (v v2 : Value) (d : List Int) (en : Bool) (s2 : Sc) (o : Option TxM) (t : TxM) (a : Option Addr) (n c : Nat) : Prop where
  at_ : At base W sb v2 d en s2
  own : ∀ k, v2.ownBlock = some k → v.ownBlock = some k
  same : Same (fun k => k = sb) w W
  box : W.heap[w.heap.size]? = some (.cells #[.int .i64 t.f0, .int .i64 t.f1, .int .i64 t.f2, .int .i64 t.f3, .int .i64 t.f4, .int .i64 t.f5, .int .i64 t.f6, .slice a n c] 40 (0, 0))
  ans : NxV (w.heap.size + 1) W o (.agg #[.int .i64 t.f0, .int .i64 t.f1, .int .i64 t.f2, .int .i64 t.f3, .int .i64 t.f4, .int .i64 t.f5, .int .i64 t.f6, .slice a n c])
  lt : sb < w.heap.size
  below : ∀ k, v.ownBlock = some k → k < w.heap.size
theorem Bef.start (h : At base w sb v d en s) : Bef base w (w.alloc (.cells txz 40 (0, 0))) sb v v d en s := ⟨h.on ((Same.refl _ w).alloc _), fun _ e => e, (Same.refl _ w).alloc _, heap_new w _, h.sn.lt, fun _ e => h.below e⟩
theorem Bef.next {W W1 : World} {v0 : Value} {s1 : Sc} (h : Bef base w W sb v v0 d en s) (hl : Left base W sb v0 d en s1 W1) : ∃ v1, Bef base w W1 sb v v1 d en s1 := by
  obtain ⟨⟨v1, a1, b1⟩, k1⟩ := hl
  exact ⟨v1, a1, fun k e => h.own k (b1 k e), h.same.trans' k1, (k1.block _ (lt_of_heap h.box) (fun e => Nat.lt_irrefl _ (e ▸ h.lt))).trans h.box, h.lt, h.below⟩
theorem Bef.put {W W1 : World} {v0 : Value} {s1 : Sc} {o : Option TxM} {t : TxM} {a : Option Addr} {n c : Nat} (h : Bef base w W sb v v0 d en s) (hl : Left base W sb v0 d en s1 W1) (hn : NxV W.heap.size W1 o (.agg #[.int .i64 t.f0, .int .i64 t.f1, .int .i64 t.f2, .int .i64 t.f3, .int .i64 t.f4, .int .i64 t.f5, .int .i64 t.f6, .slice a n c])) :
    ∃ v1, Beh base w (put8 W1 w.heap.size (.int .i64 t.f0) (.int .i64 t.f1) (.int .i64 t.f2) (.int .i64 t.f3) (.int .i64 t.f4) (.int .i64 t.f5) (.int .i64 t.f6) (.slice a n c)) sb v v1 d en s1 o t a n c := by
  obtain ⟨v1, b⟩ := h.next hl
  have hs := put8_same W1 w.heap.size (.int .i64 t.f0) (.int .i64 t.f1) (.int .i64 t.f2) (.int .i64 t.f3) (.int .i64 t.f4) (.int .i64 t.f5) (.int .i64 t.f6) (.slice a n c)
  have hlt := lt_of_heap h.box
  refine ⟨v1, b.at_.kept hs (fun e => Nat.lt_irrefl _ (e ▸ h.lt)) (fun k e e2 => Nat.lt_irrefl _ (e2 ▸ h.below k (b.own k e))), b.own, b.same.trans hs (fun i hi e => absurd hi (by rw [e]; exact Nat.lt_irrefl _)), put8_at b.box _ _ _ _ _ _ _ _, ?_, h.lt, h.below⟩
  exact NxV.kept (hn.lower hlt) hs fun k hk (e : k = w.heap.size) => by omega
theorem Beh.next {W W1 : World} {v2 : Value} {s2 s3 : Sc} {o : Option TxM} {t : TxM} {a : Option Addr} {n c : Nat} (h : Beh base w W sb v v2 d en s2 o t a n c) (hl : Left base W sb v2 d en s3 W1) : ∃ v3, Beh base w W1 sb v v3 d en s3 o t a n c := by
  obtain ⟨⟨v1, a1, b1⟩, k1⟩ := hl
  have hlt := h.lt
  exact ⟨v1, a1, fun k e => h.own k (b1 k e), h.same.trans' k1, (k1.block _ (lt_of_heap h.box) (fun e => Nat.lt_irrefl _ (e ▸ h.lt))).trans h.box, h.ans.kept k1 (fun k hk (e : k = sb) => by omega), h.lt, h.below⟩
theorem Beh.to {W W' : World} {v2 : Value} {s2 : Sc} {o : Option TxM} {t : TxM} {a : Option Addr} {n c : Nat} (h : Beh base w W sb v v2 d en s2 o t a n c) (hs : Same (fun k => k = w.heap.size) W W') (hb : W'.heap[w.heap.size]? = some (.cells #[.int .i64 t.f0, .int .i64 t.f1, .int .i64 t.f2, .int .i64 t.f3, .int .i64 t.f4, .int .i64 t.f5, .int .i64 t.f6, .slice a n c] 40 (0, 0))) : Beh base w W' sb v v2 d en s2 o t a n c :=
  ⟨h.at_.kept hs (fun e => Nat.lt_irrefl _ (e ▸ h.lt)) (fun k e e2 => Nat.lt_irrefl _ (e2 ▸ h.below k (h.own k e))), h.own, h.same.trans hs (fun i hi e => absurd hi (by rw [e]; exact Nat.lt_irrefl _)), hb, NxV.kept h.ans hs fun k hk (e : k = w.heap.size) => by omega, h.lt, h.below⟩
theorem Beh.drew1 {W : World} {v2 : Value} {s2 : Sc} {o : Option TxM} {t : TxM} {a : Option Addr} {n c : Nat} (h : Beh base w W sb v v2 d en s2 o t a n c) : Beh base w W.drew sb v v2 d en s2 o t a n c := h.to (Same.refl _ W).drew h.box
theorem Beh.re {W : World} {v2 : Value} {s2 : Sc} {o : Option TxM} {t : TxM} {a : Option Addr} {n c : Nat} (h : Beh base w W sb v v2 d en s2 o t a n c) : Beh base w (put8 W w.heap.size (.int .i64 t.f0) (.int .i64 t.f1) (.int .i64 t.f2) (.int .i64 t.f3) (.int .i64 t.f4) (.int .i64 t.f5) (.int .i64 t.f6) (.slice a n c)).drew sb v v2 d en s2 o t a n c :=
  (h.to (put8_same W w.heap.size _ _ _ _ _ _ _ _) (put8_at h.box _ _ _ _ _ _ _ _)).drew1
/-- What is answered then. -/
theorem Beh.done {W : World} {v2 : Value} {s2 : Sc} {o : Option TxM} {t : TxM} {a : Option Addr} {n c : Nat} (h : Beh base w W sb v v2 d en s2 o t a n c) : NextR base w sb v d en (o, s2) (.returned (.tuple #[.agg #[.int .i64 t.f0, .int .i64 t.f1, .int .i64 t.f2, .int .i64 t.f3, .int .i64 t.f4, .int .i64 t.f5, .int .i64 t.f6, .slice a n c], .bool o.isSome, .int .i64 s2.er])) W :=
  ⟨_, rfl, h.ans.lower (Nat.le_succ _), ⟨v2, h.at_, h.own⟩, h.same⟩
set_option maxRecDepth 100000 in
set_option maxHeartbeats 3200000 in
theorem next_ent (h : At base w sb v d en s) (h0 : s.er = 0) (hf : s.ft = false) (hp : s.pl ≠ 0) : Calls Try.prog 13 #[.pointer (some ⟨sb, 0, none⟩)] w fun x w' => NextR base w sb v d en (entry d en s) x w' := by
  have BF : Hid _ := Bef.start h
  have HEN : Hid _ := sentry_any BF.out.at_ h0 hf hp
  obtain ⟨c0, -, -, -, -, -⟩ := h.sn.cells
  rw [part_1 h0 hf hp] at c0
  have hlt := h.sn.lt
  have HE : Hid _ := entry_eq (d := d) (en := en) h0 hf
  clear h h0 hf hp
  go_enter Try.func13, Try.ntmps13
  go_wp2_with fail
  refine Calls.mono HEN.out ?_
  rintro x w2 ⟨tv, rfl, n2, l2⟩
  obtain ⟨u, ua, un, uc, rfl⟩ := n2.agg
  obtain ⟨v2, bh⟩ := Bef.put BF.out l2 n2
  have g2 := box_stays l2 BF.out.box (fun e => Nat.lt_irrefl _ (e ▸ hlt))
  obtain ⟨⟨m0, m1, m2, m3, m4, m5, m6, m7⟩, f0, f1, f2, f3, f4, f5, f6, f7⟩ := tx_obj g2
  have hb2 := lt_of_heap g2
  have BH : Hid _ := bh
  obtain ⟨vx, ax, -⟩ := l2.1
  obtain ⟨xa, xc, rfl, -⟩ := ax.sn.row.bytes
  obtain ⟨y0, y1, -, -, -, y5⟩ := ax.sn.cells
  have hlt2 := ax.sn.lt
  have AX : Hid _ := ax
  generalize hbo : (entry0 d en s).1.isSome = bo
  have HBO : Hid _ := hbo
  generalize hs2 : (entry0 d en s).2 = s2 at BH AX y0 y1 y5
  have HS2 : Hid _ := hs2
  clear n2 l2 bh g2 ax hbo hs2
  by_cases hb : s2.er = 0 ∧ s2.ft = true
  · have hp2 : partOf s2 = 2 := part_ft hb.1 hb.2
    rw [hp2] at y0
    have hr2 : (restOf d s2).length = d.length - s2.pl := by rw [rest_0 hb.1, List.length_drop]
    have hple2 := AX.out.ple
    obtain ⟨L2, eL2⟩ : ∃ L2, L2 = (restOf d s2).length := ⟨_, rfl⟩
    rw [← eL2] at y1
    have HB : Hid _ := hb
    by_cases hl2 : s2.pl < d.length
    · have hl3 : 0 < L2 := by omega
      have HL2 : Hid _ := hl2
      have HFL : Hid (Calls Try.prog 23 #[.pointer (some ⟨sb, 0, none⟩), .int .i64 0, .int .i64 61] _ _) := sfail_any BH.out.at_.sn 0 (by have := AX.out.len; omega) 61
      clear hb hp2 hr2 hple2 eL2 hl2
      go_wp2_with fail
      refine Calls.mono HFL.out ?_
      rintro x w3 ⟨rfl, s3, k3⟩
      obtain ⟨v3, b3⟩ := Beh.next BH.out (s3 := { s2 with er := 61 }) (Left.fail (e := 61) AX.out.len AX.out.byts AX.out.ple (by omega) rfl rfl rfl rfl s3 k3)
      have z5 := b3.at_.sn.cells.2.2.2.2.2
      obtain ⟨⟨p0, p1, p2, p3, p4, p5, p6, p7⟩, q0, q1, q2, q3, q4, q5, q6, q7⟩ := tx_obj b3.box
      have hb3 := lt_of_heap b3.box
      have hlt3 := b3.at_.sn.lt
      have B3 : Hid _ := b3
      clear s3 k3 b3
      go_wp2_with fail
      go_region
      go_wp2_with fail
      refine bodyPost_ret (res_ctt (a := 2) (t := 40) (u := 3) (s := 4) rfl rfl (loadVar_tx (Beh.re B3.out).box)) rfl ?_
      have hd := (Beh.re B3.out).done
      rw [HBO.out] at hd
      rw [HE.out, HS2.out, behind_yes HB.out HL2.out]
      exact hd
    · obtain rfl : L2 = 0 := by omega
      have HL2 : Hid _ := hl2
      clear hb hp2 hr2 hple2 eL2 hl2
      go_wp2_with fail
      go_region
      go_wp2_with fail
      refine bodyPost_ret (res_ctt (a := 2) (t := 40) (u := 3) (s := 4) rfl rfl (loadVar_tx (Beh.re BH.out).box)) rfl ?_
      have hd := (Beh.re BH.out).done
      rw [HBO.out] at hd
      rw [HE.out, HS2.out, behind_no (fun c => HL2.out c.2)]
      exact hd
  · have hp2 : (partOf s2 == 2) = false := by
      unfold partOf
      by_cases c : s2.er = 0
      · rw [if_neg (by simpa using c), if_neg (fun f => hb ⟨c, f⟩)]
        split <;> rfl
      · rw [if_pos c]
        rfl
    have HB : Hid _ := hb
    clear hb
    go_wp2_with fail
    go_region
    go_wp2_with fail
    refine bodyPost_ret (res_ctt (a := 2) (t := 40) (u := 3) (s := 4) rfl rfl (loadVar_tx (Beh.re BH.out).box)) rfl ?_
    have hd := (Beh.re BH.out).done
    rw [HBO.out] at hd
    rw [HE.out, HS2.out, behind_no (fun c => HB.out c.1)]
    exact hd
set_option maxRecDepth 100000 in
set_option maxHeartbeats 3200000 in
theorem next_ft (h : At base w sb v d en s) (h0 : s.er = 0) (hf : s.ft = true) : Calls Try.prog 13 #[.pointer (some ⟨sb, 0, none⟩)] w fun x w' => NextR base w sb v d en (none, behind d s) x w' := by
  obtain ⟨xa, xc, rfl, -⟩ := h.sn.row.bytes
  obtain ⟨c0, c1, -, -, -, c5⟩ := h.sn.cells
  rw [part_ft h0 hf] at c0
  have hlt := h.sn.lt
  have H : Hid _ := h
  have BF : Hid _ := Bef.start h
  have hr2 : (restOf d s).length = d.length - s.pl := by rw [rest_0 h0, List.length_drop]
  have hple := h.ple
  obtain ⟨L2, eL2⟩ : ∃ L2, L2 = (restOf d s).length := ⟨_, rfl⟩
  rw [← eL2] at c1
  have HB : Hid (s.er = 0 ∧ s.ft = true) := ⟨h0, hf⟩
  by_cases hl2 : s.pl < d.length
  · have hl3 : 0 < L2 := by omega
    have HL2 : Hid _ := hl2
    have HFL : Hid (Calls Try.prog 23 #[.pointer (some ⟨sb, 0, none⟩), .int .i64 0, .int .i64 61] _ _) := sfail_any BF.out.at_.sn 0 (by have := h.len; omega) 61
    clear h h0 hf hr2 hple eL2 hl2
    go_enter Try.func13, Try.ntmps13
    go_wp2_with fail
    refine Calls.mono HFL.out ?_
    rintro x w3 ⟨rfl, s3, k3⟩
    obtain ⟨v3, b3⟩ := Bef.next BF.out (s1 := { s with er := 61 }) (Left.fail (e := 61) H.out.len H.out.byts H.out.ple (by omega) rfl rfl rfl rfl s3 k3)
    have z5 := b3.at_.sn.cells.2.2.2.2.2
    obtain ⟨⟨p0, p1, p2, p3, p4, p5, p6, p7⟩, q0, q1, q2, q3, q4, q5, q6, q7⟩ := tx_obj b3.box
    have hb3 := lt_of_heap b3.box
    have hlt3 := b3.at_.sn.lt
    have B3 : Hid (Beh base w w3 sb _ v3 d en { s with er := 61 } none t0 none 0 0) := ⟨b3.at_, b3.own, b3.same, b3.box, rfl, b3.lt, b3.below⟩
    clear s3 k3 b3
    go_wp2_with fail
    go_region
    go_wp2_with fail
    refine bodyPost_ret (res_ctt (a := 2) (t := 40) (u := 3) (s := 4) rfl rfl (loadVar_tx (Beh.re B3.out).box)) rfl ?_
    rw [behind_yes HB.out HL2.out]
    exact (Beh.re B3.out).done
  · obtain rfl : L2 = 0 := by omega
    have HL2 : Hid _ := hl2
    clear h h0 hf hr2 hple eL2 hl2
    go_enter Try.func13, Try.ntmps13
    go_wp2_with fail
    go_region
    go_wp2_with fail
    refine bodyPost_ret (res_ctt (a := 2) (t := 40) (u := 3) (s := 4) rfl rfl (loadVar_tx (w := (w.alloc (.cells txz 40 (0, 0))).drew) (heap_new w _))) rfl ?_
    rw [behind_no (fun c => HL2.out c.2)]
    exact ⟨_, rfl, rfl, Left.refl H.out (((Same.refl _ w).alloc _).drew)⟩
set_option maxRecDepth 100000 in
set_option maxHeartbeats 3200000 in
theorem next_hd (h : At base w sb v d en s) (h0 : s.er = 0) (hf : s.ft = false) (hp : s.pl = 0) : Calls Try.prog 13 #[.pointer (some ⟨sb, 0, none⟩)] w fun x w' => NextR base w sb v d en (next7 d en s) x w' := by
  have BF0 : Hid _ := Bef.start h
  have hsn := BF0.out.at_.sn
  rw [part_0 h0 hf hp, h0] at hsn
  have HHD : Hid _ := shead_any hsn
  obtain ⟨c0, -, -, -, -, -⟩ := h.sn.cells
  rw [part_0 h0 hf hp] at c0
  have hlt := h.sn.lt
  have H0 : Hid _ := h0
  have HF : Hid _ := hf
  have HP : Hid _ := hp
  have HN7 : Hid (next7 d en s = match mg head4 d 0 with
    | some (p, e) => (none, s.stop en p e)
    | none => goOn d en { s with pl := 4 }) := by
    show next7 d en s = _
    unfold next7
    rw [if_neg (by simpa using h0), if_pos hp]
    cases mg head4 d 0 with
    | none => rfl
    | some pe => rfl
  clear h h0 hf hp hsn
  go_enter Try.func13, Try.ntmps13
  go_wp2_with fail
  refine Calls.mono HHD.out ?_
  rintro x w1 ⟨rfl, hH⟩
  have hL := head_left BF0.out.at_ H0.out HF.out HP.out hH
  obtain ⟨v1, bf⟩ := BF0.out.next hL
  cases hm : mg head4 d 0 with
  | none =>
    have e7 : hd7 d en s = { s with pl := 4 } := by unfold hd7; rw [hm]
    rw [e7] at bf
    have HE : Hid (next7 d en s = ((entry0 d en { s with pl := 4 }).1, behind d (entry0 d en { s with pl := 4 }).2)) := by
      show next7 d en s = _
      rw [HN7.out, hm, ← entry_eq (by exact H0.out) (by exact HF.out)]
      exact go_entry HF.out
    have HEN : Hid _ := sentry_any bf.at_ H0.out HF.out (by show (4 : Nat) ≠ 0; decide)
    have y0' := bf.at_.sn.cells.1
    rw [part_1 (s := { s with pl := 4 }) H0.out HF.out (by show (4 : Nat) ≠ 0; decide)] at y0'
    have hlt1 := bf.at_.sn.lt
    have hb1 := lt_of_heap bf.box
    have BF : Hid _ := bf
    clear hH hL hm e7 bf HN7 BF0 HHD c0
    generalize ({ s with pl := 4 } : Sc) = s1 at HE HEN BF
    go_wp2_with fail
    refine Calls.mono HEN.out ?_
    rintro x w2 ⟨tv, rfl, n2, l2⟩
    obtain ⟨u, ua, un, uc, rfl⟩ := n2.agg
    obtain ⟨v2, bh⟩ := Bef.put BF.out l2 n2
    have g2 := box_stays l2 BF.out.box (fun e => Nat.lt_irrefl _ (e ▸ hlt))
    obtain ⟨⟨m0, m1, m2, m3, m4, m5, m6, m7⟩, f0, f1, f2, f3, f4, f5, f6, f7⟩ := tx_obj g2
    have hb2 := lt_of_heap g2
    have BH : Hid _ := bh
    obtain ⟨vx, ax, -⟩ := l2.1
    obtain ⟨xa, xc, rfl, -⟩ := ax.sn.row.bytes
    obtain ⟨y0, y1, -, -, -, y5⟩ := ax.sn.cells
    have hlt2 := ax.sn.lt
    have AX : Hid _ := ax
    generalize hbo : (entry0 d en s1).1.isSome = bo
    have HBO : Hid _ := hbo
    generalize hs2 : (entry0 d en s1).2 = s2 at BH AX y0 y1 y5
    have HS2 : Hid _ := hs2
    clear n2 l2 bh g2 ax hbo hs2
    by_cases hb : s2.er = 0 ∧ s2.ft = true
    · have hp2 : partOf s2 = 2 := part_ft hb.1 hb.2
      rw [hp2] at y0
      have hr2 : (restOf d s2).length = d.length - s2.pl := by rw [rest_0 hb.1, List.length_drop]
      have hple2 := AX.out.ple
      obtain ⟨L2, eL2⟩ : ∃ L2, L2 = (restOf d s2).length := ⟨_, rfl⟩
      rw [← eL2] at y1
      have HB : Hid _ := hb
      by_cases hl2 : s2.pl < d.length
      · have hl3 : 0 < L2 := by omega
        have HL2 : Hid _ := hl2
        have HFL : Hid (Calls Try.prog 23 #[.pointer (some ⟨sb, 0, none⟩), .int .i64 0, .int .i64 61] _ _) := sfail_any BH.out.at_.sn 0 (by have := AX.out.len; omega) 61
        clear hb hp2 hr2 hple2 eL2 hl2
        go_wp2_with fail
        refine Calls.mono HFL.out ?_
        rintro x w3 ⟨rfl, s3, k3⟩
        obtain ⟨v3, b3⟩ := Beh.next BH.out (s3 := { s2 with er := 61 }) (Left.fail (e := 61) AX.out.len AX.out.byts AX.out.ple (by omega) rfl rfl rfl rfl s3 k3)
        have z5 := b3.at_.sn.cells.2.2.2.2.2
        obtain ⟨⟨p0, p1, p2, p3, p4, p5, p6, p7⟩, q0, q1, q2, q3, q4, q5, q6, q7⟩ := tx_obj b3.box
        have hb3 := lt_of_heap b3.box
        have hlt3 := b3.at_.sn.lt
        have B3 : Hid _ := b3
        clear s3 k3 b3
        go_wp2_with fail
        go_region
        go_wp2_with fail
        refine bodyPost_ret (res_ctt (a := 2) (t := 40) (u := 3) (s := 4) rfl rfl (loadVar_tx (Beh.re B3.out).box)) rfl ?_
        have hd := (Beh.re B3.out).done
        rw [HBO.out] at hd
        rw [HE.out, HS2.out, behind_yes HB.out HL2.out]
        exact hd
      · obtain rfl : L2 = 0 := by omega
        have HL2 : Hid _ := hl2
        clear hb hp2 hr2 hple2 eL2 hl2
        go_wp2_with fail
        go_region
        go_wp2_with fail
        refine bodyPost_ret (res_ctt (a := 2) (t := 40) (u := 3) (s := 4) rfl rfl (loadVar_tx (Beh.re BH.out).box)) rfl ?_
        have hd := (Beh.re BH.out).done
        rw [HBO.out] at hd
        rw [HE.out, HS2.out, behind_no (fun c => HL2.out c.2)]
        exact hd
    · have hp2 : (partOf s2 == 2) = false := by
        unfold partOf
        by_cases c : s2.er = 0
        · rw [if_neg (by simpa using c), if_neg (fun f => hb ⟨c, f⟩)]
          split <;> rfl
        · rw [if_pos c]
          rfl
      have HB : Hid _ := hb
      clear hb
      go_wp2_with fail
      go_region
      go_wp2_with fail
      refine bodyPost_ret (res_ctt (a := 2) (t := 40) (u := 3) (s := 4) rfl rfl (loadVar_tx (Beh.re BH.out).box)) rfl ?_
      have hd := (Beh.re BH.out).done
      rw [HBO.out] at hd
      rw [HE.out, HS2.out, behind_no (fun c => HB.out c.1)]
      exact hd
  | some pe =>
    obtain ⟨p, e⟩ := pe
    have e7 : hd7 d en s = s.stop en p e := by unfold hd7; rw [hm]
    rw [e7] at bf
    have HE : Hid (next7 d en s = (none, s.stop en p e)) := by
      show next7 d en s = _
      rw [HN7.out, hm]
    have hft : (s.stop en p e).ft = false := by rw [stop_ft]; exact HF.out
    have hp1 : (partOf (s.stop en p e) == 1) = false ∧ (partOf (s.stop en p e) == 2) = false := by
      unfold partOf
      rw [hft]
      unfold Sc.stop
      split
      · rw [if_neg (by simpa using H0.out), if_neg (by simp), if_pos HP.out]
        exact ⟨rfl, rfl⟩
      · have := (mg_some hm).1
        rw [if_pos (by show e ≠ 0; omega)]
        exact ⟨rfl, rfl⟩
    obtain ⟨hp1, hp2⟩ := hp1
    generalize s.stop en p e = s1 at bf HE hp1 hp2
    obtain ⟨y0, -, -, -, -, y5⟩ := bf.at_.sn.cells
    have hlt1 := bf.at_.sn.lt
    obtain ⟨⟨p0, p1, p2, p3, p4, p5, p6, p7⟩, q0, q1, q2, q3, q4, q5, q6, q7⟩ := tx_obj bf.box
    have hb1 := lt_of_heap bf.box
    have B3 : Hid (Beh base w w1 sb _ v1 d en s1 none t0 none 0 0) := ⟨bf.at_, bf.own, bf.same, bf.box, rfl, bf.lt, bf.below⟩
    clear hH hL hm e7 bf HN7 BF0 HHD c0 hft
    go_wp2_with fail
    go_region
    go_wp2_with fail
    refine bodyPost_ret (res_ctt (a := 2) (t := 40) (u := 3) (s := 4) rfl rfl (loadVar_tx (Beh.re B3.out).box)) rfl ?_
    rw [HE.out]
    exact (Beh.re B3.out).done
/-- Next, whatever the scanner stands at. -/
theorem snext_any (h : At base w sb v d en s) : Calls Try.prog 13 #[.pointer (some ⟨sb, 0, none⟩)] w fun x w' => NextR base w sb v d en (next7 d en s) x w' := by
  by_cases h0 : s.er = 0
  · by_cases hf : s.ft = true
    · have hp := h.ftp h0 hf
      have e : next7 d en s = (none, behind d s) := by
        rw [next_go h0 hp, go_foot hf]
        unfold behind
        by_cases c : s.pl < d.length
        · rw [if_pos c, if_pos ⟨h0, hf, c⟩]
        · rw [if_neg c, if_neg (fun k => c k.2.2)]
      rw [e]
      exact next_ft h h0 hf
    · have hf : s.ft = false := by simpa using hf
      by_cases hp : s.pl = 0
      · exact next_hd h h0 hf hp
      · rw [next_go h0 hp, go_entry hf]
        exact next_ent h h0 hf hp
  · have e : next7 d en s = (none, s) := by
      unfold next7
      rw [if_pos h0]
    rw [e]
    exact next_er h h0
end
end Go.Proofs.Ytflemfohnpjeaaa
