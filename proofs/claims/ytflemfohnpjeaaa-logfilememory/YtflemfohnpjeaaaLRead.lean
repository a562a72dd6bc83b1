/- What is proved: a scanner's readEntry: what it answers and leaves; the bounds that a machine's memory sets. -/
import Derived.Test.YtflemfohnpjeaaaLBody
namespace Go.Proofs.Ytflemfohnpjeaaa
open Go.RowKit

section
variable {base : Nat} {w w' : World} {sb : Nat} {v : Value} {d : List Int} {en : Bool} {s : Sc}
theorem box_stays {w0 w1 : World} {s' : Sc} (h : Left base w0 sb v d en s' w1) {b : Nat} {x : Obj} (hx : w0.heap[b]? = some x) (hb : ¬ b = sb) : w1.heap[b]? = some x := (h.2.block _ (lt_of_heap hx) hb).trans hx
theorem read_none {w1 : World} {s' : Sc} (hL : Left base (w.alloc (.cells txz 40 (0, 0))) sb v d en s' w1) (hlt : sb < w.heap.size) (hv : ∀ k, v.ownBlock = some k → k < w.heap.size) :
    ReadR base w sb v d en (none, s') (.returned (.tuple #[.agg #[.int .i64 0, .int .i64 0, .int .i64 0, .int .i64 0, .int .i64 0, .int .i64 0, .int .i64 0, .slice none 0 0], .bool false])) (put8 w1 w.heap.size (.int .i64 0) (.int .i64 0) (.int .i64 0) (.int .i64 0) (.int .i64 0) (.int .i64 0) (.int .i64 0) (.slice none 0 0)) :=
  ⟨_, rfl, rfl, (Left.old ((Same.refl _ w).alloc _) hL).after hlt hv (put8_new (Nat.le_refl _) _ _ _ _ _ _ _ _)⟩
theorem NxV.agg {o : Option TxM} {tv : Value} (h : NxV base w o tv) : ∃ (t : TxM) (a : Option Addr) (n c : Nat), tv = .agg #[.int .i64 t.f0, .int .i64 t.f1, .int .i64 t.f2, .int .i64 t.f3, .int .i64 t.f4, .int .i64 t.f5, .int .i64 t.f6, .slice a n c] := by
  cases o with
  | none => exact ⟨t0, none, 0, 0, h⟩
  | some t =>
    obtain ⟨a, c, e, -⟩ := h
    exact ⟨t, a, _, c, e⟩
theorem NxV.kept {S : Nat → Prop} {o : Option TxM} {tv : Value} (h : NxV base w o tv) (hs : Same S w w') (hn : ∀ k, base ≤ k → ¬ S k) : NxV base w' o tv := by
  cases o with
  | none => exact h
  | some t =>
    obtain ⟨a, c, e, o⟩ := h
    exact ⟨a, c, e, o.kept hs fun k hk => hn k (o.block hk).1⟩
theorem NxV.lower {base' : Nat} {o : Option TxM} {tv : Value} (h : NxV base w o tv) (hb : base' ≤ base) : NxV base' w o tv := by
  cases o with
  | none => exact h
  | some t =>
    obtain ⟨a, c, e, o⟩ := h
    exact ⟨a, c, e, o.lower hb⟩
theorem foot_size {r : List Int} {z : Nat} (hb : Byts r) (h : num 8 r = (0, z, 0)) : z = 1 := by
  have h1 := num_one (k := 8) (l := r) (Nat.le_refl _) hb
  rw [h] at h1
  obtain ⟨f1, f2, -⟩ := h1 rfl
  have : (form 0).length = z := by rw [f1, List.length_take]; exact Nat.min_eq_left f2
  rw [← this, form_small (by decide)]
  rfl
set_option maxRecDepth 100000 in
set_option maxHeartbeats 1600000 in
theorem sentry_any (h : At base w sb v d en s) (h0 : s.er = 0) (hf : s.ft = false) (hp : s.pl ≠ 0) : Calls Try.prog 22 #[.pointer (some ⟨sb, 0, none⟩)] w fun x w' => ReadR base w sb v d en (entry0 d en s) x w' := by
  have hr : restOf d s = d.drop s.pl := rest_0 h0
  have hrl : (restOf d s).length = d.length - s.pl := by rw [hr, List.length_drop]
  have hple := h.ple
  have hlen := h.len
  obtain ⟨a, cap, rfl, -, -⟩ := h.sn.row.bytes
  have hlt := h.sn.lt
  have hv : Hid (∀ k, (Value.slice a (restOf d s).length cap).ownBlock = some k → k < w.heap.size) := fun k e => h.below e
  have h' := h.on ((Same.refl _ w).alloc (.cells txz 40 (0, 0)))
  have H : Hid _ := h'
  have H0 : Hid _ := h0
  have HF : Hid _ := hf
  have HP : Hid _ := hp
  have HN : Hid (Calls Try.prog 35 #[.pointer (some ⟨sb, 0, none⟩), .int .i64 0, .int .i64 512] (w.alloc (.cells txz 40 (0, 0))) fun x w' => NumR base (w.alloc (.cells txz 40 (0, 0))) sb (.slice a (restOf d s).length cap) (partOf s) (restOf d s) s.pl s.ct en s.er 0 512 x w') := snum_any h'.sn 0 512 (Nat.zero_le _)
  obtain ⟨m, z, e, hq⟩ : ∃ m z e, num 8 (d.drop s.pl) = (m, z, e) := ⟨_, _, _, rfl⟩
  have HQ1 : Hid (num 8 ((restOf d s).drop 0) = (m, z, e)) := by rw [hr, List.drop_zero]; exact hq
  have hone := num_one (k := 8) (l := d.drop s.pl) (Nat.le_refl _) (h.byts.drop _)
  rw [hq, List.length_drop] at hone
  have HO : Hid _ := hone
  have he0 : entry0 d en s = if e ≠ 0 then (none, s.stop en s.pl e) else if 512 < m then (none, { s with er := 53 }) else if m = 0 then (none, foot0 d en s) else if 4096 ≤ s.ct then (none, { s with er := 71 }) else if d.length < s.pl + z + m then (none, s.stop en s.pl 51) else body0 d s z m := by
    unfold entry0
    rw [hq]
  have HE0 : Hid _ := he0
  have HCT : Hid _ := h.sn.cts
  have HPL : Hid _ := hple
  have HZ1 : Hid (m = 0 → e = 0 → z = 1) := fun e1 e2 => by subst e1 e2; exact foot_size (h.byts.drop _) hq
  have hnw : Hid (¬ w.heap.size = sb) := by show ¬ _; omega
  have hct : (s.ct : Int) ≤ 4096 := by have := h.sn.cts; omega
  clear hr hq hone he0 hf h0 h h' hp
  obtain ⟨R, eR⟩ : ∃ R, R = (restOf d s).length := ⟨_, rfl⟩
  have ER : Hid _ := eR
  go_enter Try.func22, Try.ntmps22
  go_wp2_with fail
  refine Calls.mono HN.out ?_
  intro x w1 hN
  rcases NumR.kinds hN HQ1.out with ⟨rfl, hm, rfl, s1, k1⟩ | ⟨rfl, hk⟩
  · obtain ⟨-, o1, o2, o8, -⟩ := HO.out rfl
    have c3' : w1.cell? ⟨sb, 3, none⟩ = some (.int .i64 (s.ct : Int)) := s1.cells.2.2.2.1
    have c1' : w1.cell? ⟨sb, 1, none⟩ = some (.slice a R cap) := by rw [ER.out]; exact s1.cells.2.1
    have hltw := s1.lt
    have K1 : Hid _ := k1
    have A1 : Hid (At base w1 sb (.slice a (restOf d s).length cap) d en s) := H.out.on k1
    have G1 : Hid (w1.heap[w.heap.size]? = some (.cells txz 40 (0, 0))) := (k1.block _ (by simp [World.size_alloc]) (fun h => h)).trans (heap_new w _)
    have HM : Hid _ := hm
    have HZL : Hid _ := o1
    clear hN s1 k1 HN HQ1
    by_cases hm0 : m = 0
    · subst hm0
      obtain rfl : z = 1 := HZ1.out rfl rfl
      have HT : Hid _ := stotal_any A1.out H0.out HF.out (by have := HPL.out; omega)
      clear hm o1 o2 o8
      go_wp2_with fail
      refine Calls.mono HT.out ?_
      rintro x w2 ⟨rfl, l1⟩
      have g2 := box_stays l1 G1.out hnw.out
      obtain ⟨⟨m0, m1, m2, m3, m4, m5, m6, m7⟩, f0, f1, f2, f3, f4, f5, f6, f7⟩ := tx_obj g2
      have hb1 := lt_of_heap g2
      have G2 : Hid _ := g2
      have L1 : Hid _ := l1.old K1.out
      clear l1 g2
      go_wp2_with fail
      refine bodyPost_ret (res_ct (a := 2) (t := 40) (u := 3) rfl rfl (loadVar_tx (put8_at G2.out _ _ _ _ _ _ _ _))) rfl ?_
      rw [HE0.out, if_neg (by decide), if_neg (by decide), if_pos trivial]
      exact read_none L1.out hlt hv.out
    · have hm1 : ((m : Int) == 0) = false := by simpa using fun c => hm0 (by omega)
      have HM0 : Hid _ := hm0
      by_cases hc : s.ct = 4096
      · have hc1 : ((s.ct : Int) == 4096) = true := by rw [hc]; rfl
        have HC : Hid _ := hc
        have HFL : Hid (Calls Try.prog 23 #[.pointer (some ⟨sb, 0, none⟩), .int .i64 0, .int .i64 71] w1 _) := sfail_any A1.out.sn 0 (by omega) 71
        clear hm o1 o2 o8 hm0 hc
        go_wp2_with fail
        refine Calls.mono HFL.out ?_
        rintro x w2 ⟨rfl, s2, k2⟩
        have l1 : Left base w1 sb (.slice a (restOf d s).length cap) d en { s with er := 71 } w2 := Left.fail (e := 71) A1.out.len A1.out.byts A1.out.ple (by omega) rfl rfl rfl rfl s2 k2
        have g2 := box_stays l1 G1.out hnw.out
        obtain ⟨⟨m0, m1, m2, m3, m4, m5, m6, m7⟩, f0, f1, f2, f3, f4, f5, f6, f7⟩ := tx_obj g2
        have hb1 := lt_of_heap g2
        have G2 : Hid _ := g2
        have L1 : Hid _ := l1.old K1.out
        clear l1 g2 s2 k2
        go_wp2_with fail
        refine bodyPost_ret (res_ct (a := 2) (t := 40) (u := 3) rfl rfl (loadVar_tx (put8_at G2.out _ _ _ _ _ _ _ _))) rfl ?_
        rw [HE0.out, if_neg (by decide), if_neg (Nat.not_lt.2 HM.out), if_neg HM0.out, if_pos (Nat.le_of_eq HC.out.symm)]
        exact read_none L1.out hlt hv.out
      · have hc1 : ((s.ct : Int) == 4096) = false := by simpa using fun c => hc (by omega)
        have HC : Hid (¬ 4096 ≤ s.ct) := by show ¬ _; have := HCT.out; omega
        obtain ⟨D, eD⟩ : ∃ D, D = R - z := ⟨_, rfl⟩
        have hD : (R : Int) - (z : Int) = (D : Int) := by omega
        have hRi : (R : Int) ≤ 211106232532992 := by omega
        have hzi : (z : Int) ≤ 8 := by omega
        have hmi : (m : Int) ≤ 512 := by omega
        by_cases hl : D < m
        · have hl1 : decide ((m : Int) > (D : Int)) = true := decide_eq_true (by omega)
          have HL : Hid (d.length < s.pl + z + m) := by show _ < _; have := HPL.out; omega
          have HK : Hid (Calls Try.prog 33 #[.pointer (some ⟨sb, 0, none⟩), .int .i64 0] w1 _) := slack_any A1.out.sn 0 (by omega)
          clear hm o1 o2 o8 hm0 hc eD
          go_wp2_with fail
          refine Calls.mono HK.out ?_
          rintro x w2 ⟨rfl, s2⟩
          have l1 : Left base w1 sb (.slice a (restOf d s).length cap) d en (s.stop en s.pl 51) w2 := Left.lack (n := 0) A1.out H0.out A1.out.ple (by have := s2; rw [H0.out] at this; exact this)
          have g2 := box_stays l1 G1.out hnw.out
          obtain ⟨⟨m0, m1, m2, m3, m4, m5, m6, m7⟩, f0, f1, f2, f3, f4, f5, f6, f7⟩ := tx_obj g2
          have hb1 := lt_of_heap g2
          have G2 : Hid _ := g2
          have L1 : Hid _ := l1.old K1.out
          clear l1 g2 s2
          go_wp2_with fail
          refine bodyPost_ret (res_ct (a := 2) (t := 40) (u := 3) rfl rfl (loadVar_tx (put8_at G2.out _ _ _ _ _ _ _ _))) rfl ?_
          rw [HE0.out, if_neg (by decide), if_neg (Nat.not_lt.2 HM.out), if_neg HM0.out, if_neg HC.out, if_pos HL.out]
          exact read_none L1.out hlt hv.out
        · have hl1 : decide ((m : Int) > (D : Int)) = false := decide_eq_false (by omega)
          have HL : Hid (¬ d.length < s.pl + z + m) := by show ¬ _; have := HPL.out; omega
          have HB : Hid _ := sbody_any A1.out H0.out HF.out HP.out (Nat.not_le.1 HC.out) z m (by omega) HM.out (by have := HPL.out; omega)
          obtain ⟨Z, eZ⟩ : ∃ Z, Z = z + m := ⟨_, rfl⟩
          rw [← eZ] at HB
          have hZ : (z : Int) + (m : Int) = (Z : Int) := by omega
          have hZi : (Z : Int) ≤ 520 := by omega
          clear hm o1 o2 o8 hm0 hc eD eZ
          go_wp2_with fail
          refine Calls.mono HB.out ?_
          rintro x w2 ⟨tv, rfl, n2, l1⟩
          have g2 := box_stays l1 G1.out hnw.out
          obtain ⟨⟨m0, m1, m2, m3, m4, m5, m6, m7⟩, f0, f1, f2, f3, f4, f5, f6, f7⟩ := tx_obj g2
          have hb1 := lt_of_heap g2
          have G2 : Hid _ := g2
          have L1 : Hid _ := l1.old K1.out
          obtain ⟨u, ua, un, uc, rfl⟩ := n2.agg
          have N2 : Hid _ := n2
          generalize hbo : (body0 d s z m).1.isSome = bo
          have HBO : Hid _ := hbo
          clear l1 g2 n2 hbo
          go_wp2_with fail
          refine bodyPost_ret (res_ct (a := 2) (t := 40) (u := 3) rfl rfl (loadVar_tx (put8_at G2.out _ _ _ _ _ _ _ _))) rfl ?_
          rw [HE0.out, if_neg (by decide), if_neg (Nat.not_lt.2 HM.out), if_neg HM0.out, if_neg HC.out, if_neg HL.out]
          have hw1 := lt_of_heap G1.out
          refine ⟨_, ?_, NxV.lower (NxV.kept N2.out (put8_same w2 w.heap.size _ _ _ _ _ _ _ _) (fun k hk (e : k = w.heap.size) => by omega)) (Nat.le_of_lt hw1), (Left.old ((Same.refl _ w).alloc _) L1.out).after hlt hv.out (put8_new (Nat.le_refl _) _ _ _ _ _ _ _ _)⟩
          rw [HBO.out]
          rfl
  · obtain ⟨l1, l2⟩ := num_left H.out H0.out (by exact HPL.out) hk
    have g1 := box_stays l1 (heap_new w _) hnw.out
    obtain ⟨⟨m0, m1, m2, m3, m4, m5, m6, m7⟩, f0, f1, f2, f3, f4, f5, f6, f7⟩ := tx_obj g1
    have hb1 := lt_of_heap g1
    have G1 : Hid _ := g1
    have L1 : Hid _ := l1
    have L2 : Hid _ := l2
    clear hN hk l1 l2 g1
    go_wp2_with fail
    refine bodyPost_ret (res_ct (a := 2) (t := 40) (u := 3) rfl rfl (loadVar_tx (put8_at G1.out _ _ _ _ _ _ _ _))) rfl ?_
    rw [HE0.out]
    by_cases c : e = 0
    · have l1 := L1.out
      rw [if_neg (by simpa using c)] at l1
      rw [if_neg (by simpa using c), if_pos (L2.out c)]
      exact read_none l1 hlt hv.out
    · have l1 := L1.out
      rw [if_pos c] at l1 ⊢
      exact read_none l1 hlt hv.out
end
end Go.Proofs.Ytflemfohnpjeaaa
