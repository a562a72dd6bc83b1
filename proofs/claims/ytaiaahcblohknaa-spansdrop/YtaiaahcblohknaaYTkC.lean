/- What is proved: take, where the span lies on the left; the forest lies in memory. -/
import Derived.Test.YtaiaahcblohknaaYTkA
namespace Go.Proofs.Ytaiaahcblohknaa
open Go.RowKit

set_option maxRecDepth 100000 in
set_option maxHeartbeats 6400000 in
theorem take_left (fb nb cap fr : Nat) (mv : Value) (c e : Int) (x : Sp) (p : Nat) (L : PT) (s : Sp) (R : PT) (w : World) (N : List Nd) (h : Ar w fb nb cap fr mv c e N) (hT : Lay N (.node p L s R)) (h0 : N[0]? = some nd0) (hd : (PT.node p L s R).pl.Nodup) (hx : x ∈ (PT.node p L s R).tr.list) (hsr : Srt (PT.node p L s R).tr.list) (hz : (PT.node p L s R).tr.sz < 4611686018427387904) (hxs : ¬ x = s) (hsl : sl x s = true) (ihl : (∀ (w : World) (N : List Nd), Ar w fb nb cap fr mv c e N → Lay N L → N[0]? = some nd0 → L.pl.Nodup → x ∈ L.tr.list → Srt L.tr.list → L.tr.sz < 4611686018427387904 → Calls Try.prog 33 #[.pointer (some ⟨fb, 0, none⟩), .int .i64 (L.root : Nat), spV x] w (TakeP w fb nb cap fr mv c e N L x))) :
    Calls Try.prog 33 #[.pointer (some ⟨fb, 0, none⟩), .int .i64 ((PT.node p L s R).root : Nat), spV x] w (TakeP w fb nb cap fr mv c e N (.node p L s R) x) := by
  have hg := hT.hg hd h0
  have hs : (PT.node p L s R).tr.sz = L.tr.sz + R.tr.sz + 1 := Tr.sz_node _ _ _
  obtain ⟨hpL, hpR, dL, dR, dLR⟩ := hg.parts
  have sp := Tr.srt_parts (show Srt (Tr.node L.tr s R.tr).list from hsr)
  clear hsr
  have l1 : (p : Int) < (N.length : Int) := by have := (h.node hg.at_).2; omega
  have HS : Hid (∀ W, Kept w W → _) := fun W k => side14 (h.on k) p (ndOf L s R) hg.at_ x
  have HC : Hid (∀ W, Kept w W → Lnk W fb nb cap N.length p (ndOf L s R) ∧ W.cell? ⟨nb, p * 8, none⟩ = some (.int .i64 s.f) ∧ W.cell? ⟨nb, p * 8 + 1, none⟩ = some (.int .i64 s.t) ∧ W.cell? ⟨nb, p * 8 + 2, none⟩ = some (.int .i64 s.i)) := fun W k =>
    ⟨(h.on k).lnk hg.at_ rfl, (((h.on k).node hg.at_).1).span⟩
  have K0 : Hid _ := (Same.refl (fun _ => False) w).alloc (spO x)
  have HG : Hid _ := heap_new w (spO x)
  have hlb := h.cells.2.1
  have hln := h.cells.2.2
  have hm : x ∈ L.tr.list ∨ x = s ∨ x ∈ R.tr.list := by
    have : x ∈ L.tr.list ++ s :: R.tr.list := hx
    simpa using this
  have HB : Hid (∀ W N2 L' R' n2 fr2, Ar W fb nb cap fr2 mv c e N2 → Hg N2 p L' s R' n2 → L'.tr.sz + R'.tr.sz + 1 < 4611686018427387904 → _) := fun W N2 L' R' n2 fr2 hA9 hg9 hz9 => balance14 hA9 hg9 hz9
  have hxA : x ∈ L.tr.list := by
    rcases hm with h9 | h9 | h9
    · exact h9
    · exact absurd h9 hxs
    · exact absurd (sl_asymm (sp.2.2.2 x h9)) (by rw [hsl]; decide)
  have HR : Hid (∀ W, Kept w W → Calls Try.prog 33 #[.pointer (some ⟨fb, 0, none⟩), .int .i64 (L.root : Nat), spV x] W fun r w2 => ∃ v fr2 : Nat, r = .returned (.int .i64 v) ∧ Lnk w2 fb nb cap N.length p (ndOf L s R) ∧ Hid (∃ X' N1 q, X'.root = v ∧ TakeR w w2 fb nb cap fr mv c e N L x X' N1 q ∧ q = fr2 ∧ N1[p]? = some (ndOf L s R) ∧ Hg (N1.set p { ndOf L s R with l := v }) p X' s R { ndOf L s R with l := v })) := fun W k => by
    refine (ihl W N (h.on k) hg.ll h0 dL hxA sp.1 (by omega)).mono ?_
    rintro r w2 ⟨X', N1, q, rfl, F⟩
    have pm := pl_perm F.prs
    have sub : ∀ z, z ∈ X'.pl → z ∈ L.pl := fun z h5 => pm.mem_iff.2 (by simp [h5])
    have ndX : X'.pl.Nodup := (List.nodup_cons.1 (pm.nodup_iff.1 dL)).2
    obtain ⟨g1, g2⟩ := hg.relinkL F.ch F.lay hpL hg.ll.zero_out (fun z h5 => (fun e => dLR z e h5))
      (by
        refine List.nodup_append.2 ⟨ndX, List.nodup_cons.2 ⟨hpR, dR⟩, fun z h5 y hy e => ?_⟩
        subst e
        rcases List.mem_cons.1 hy with rfl | hy
        · exact hpL (sub z h5)
        · exact dLR z (sub z h5) hy)
    exact ⟨_, q, rfl, F.ar.lnk g1 F.ch.len, X', N1, q, rfl, F.from_ k, rfl, g1, g2⟩
  have HZ : Hid (∀ (X' : PT) (q : Nat), L.prs.Perm ((q, x) :: X'.prs) → (X'.tr.sz + R.tr.sz) + 1 < 4611686018427387904) := fun X' q e2 => by
    have := (pl_perm e2).length_eq
    rw [PT.pl_length, List.length_cons, PT.pl_length] at this
    omega
  have HF : Hid (∀ (w2 w3 : World) (v : Nat) (r : Ending) (X' : PT) (N1 : List Nd) (q : Nat), TakeR w w2 fb nb cap fr mv c e N L x X' N1 q → BalP (w2.setCell ⟨nb, p * 8 + 3, none⟩ (.int .i64 v)) fb nb cap q mv c e (N1.set p { ndOf L s R with l := v }) p X' s R r w3 → TakeP w fb nb cap fr mv c e N (.node p L s R) x r w3) := fun w2 w3 v r X' N1 q F B => by
    obtain ⟨T', N', rfl, F2, t1, t2⟩ := B
    have pm := pl_perm F.prs
    have sub : ∀ z, z ∈ X'.pl → z ∈ L.pl := fun z h5 => pm.mem_iff.2 (by simp [h5])
    have hqA : q ∈ L.pl := pm.mem_iff.2 (by simp)
    have hqX : q ∉ X'.pl := (List.nodup_cons.1 (pm.nodup_iff.1 dL)).1
    have ht : T'.pl = X'.pl ++ p :: R.pl := by simp [PT.pl, t2]
    have hqT : q ∉ T'.pl := fun e => by
        rw [ht] at e
        simp only [List.mem_append, List.mem_cons] at e
        rcases e with e | e | e
        · exact hqX e
        · exact hpL (e ▸ hqA)
        · exact dLR q hqA e
    have hqp : q ≠ p := fun e => hpL (e ▸ hqA)
    refine ⟨T', N', q, rfl, F2.ar, (Same.setCell F.same ⟨nb, p * 8 + 3, none⟩ (.inr (.inl rfl)) _).trans' (F2.same.mono fun _ _ h => .inl h), F2.lay, ?_, by rw [t1, F.tr]; exact (del_less hsl).symm, ?_, ?_⟩
    · refine ((F.ch.mono (fun z h5 => by rw [PT.pl_node]; simp [h5])).trans (Ch.set N1 (by rw [PT.pl_node]; simp) _)).trans (F2.ch.mono fun z h5 => ?_)
      · rw [ht] at h5
        rw [PT.pl_node]
        simp only [List.mem_append, List.mem_cons] at h5 ⊢
        rcases h5 with h5 | h5 | h5
        · exact .inl (sub z h5)
        · exact .inr (.inl h5)
        · exact .inr (.inr h5)
    · show (L.prs ++ (p, s) :: R.prs).Perm ((q, x) :: T'.prs)
      rw [t2]
      exact F.prs.append_right _
    · rw [F2.ch.get q hqT, set_there hqp]
      exact F.free
  rw [show (ndOf L s R).s = s from rfl, hsl] at HS
  simp only [sd_true] at HS
  have EC : Hid (∀ W : World, W.cell? ⟨nb, p * 8 + 3, none⟩ = some (.int .i64 ((ndOf L s R).l : Nat)) → W.cell? ⟨nb, p * 8 + 3, none⟩ = some (.int .i64 (L.root : Nat))) := fun W hW => hW
  clear h hT h0 hd hx hz hg hs hm hpL hpR dL dR dLR hsl ihl sp hxA
  show Calls Try.prog 33 #[.pointer (some ⟨fb, 0, none⟩), .int .i64 (p : Int), spV x] w _
  have EQ := eql_sp s x
  have dne : decide (s = x) = false := decide_eq_false fun e => hxs e.symm
  rw [dne] at EQ
  clear dne hxs
  obtain ⟨xf, xt, xi⟩ := x
  obtain ⟨sf, st, si⟩ := s
  simp only at EQ
  unfold spV at HR HS ⊢
  simp only at HR HS ⊢
  go_enter Try.func33, Try.ntmps33
  go_upto_region 1 with fail
  generalize w.alloc (spO ⟨xf, xt, xi⟩) = W at K0 HG ⊢
  generalize hgg : w.heap.size = g at HG hlb hln ⊢
  clear hgg
  obtain ⟨⟨f0, -, -, -⟩, y0, y1, y2⟩ := HC.out W K0.out
  obtain ⟨b0, b1, b2⟩ := sp_cells HG.out
  simp only at b0 b1 b2 y0 y1 y2
  go_quiet (fail)
  rename Nat => nn
  clear EQ
  have k1 : Kept w (W.drewN nn) := Same.drewN K0.out _
  have hg1 : (W.drewN nn).heap[g]? = _ := HG.out
  clear f0 y0 y1 y2
  generalize W.drewN nn = W1 at k1 hg1 ⊢
  clear b0 b1 b2
  obtain ⟨b0, b1, b2⟩ := sp_cells hg1
  simp only at b0 b1 b2
  have K1 : Hid _ := k1
  have HG1 : Hid _ := hg1
  clear k1 hg1
  go_wp2_with fail
  refine Calls.mono (HS.out _ K1.out) ?_
  rintro r w1 ⟨rfl, kk⟩
  have KK : Hid (Kept w w1) := Same.trans' K1.out kk
  clear b0 b1 b2
  obtain ⟨b0, b1, b2⟩ := sp_cells ((kk.block g (lt_of_heap HG1.out) (fun e => e)).trans HG1.out)
  obtain ⟨⟨f0, c3, c4, zf⟩, -⟩ := HC.out w1 KK.out
  have c9 := EC.out _ c3
  simp only at b0 b1 b2
  clear kk c3 c4 HC HS
  generalize L.root = rr at *
  go_wp2_with fail
  go_region_with ((go_at_call 33; refine Calls.mono (HR.out _ (by (repeat (first | exact KK.out | apply Same.drew | apply Same.drewN)); done)) ?_; rintro r w2 ⟨v, fr2, rfl, ⟨g0, g3, g4, gz⟩, LK⟩))
  all_goals
    obtain ⟨X', N1, q, hv, F, hq, P1, G1⟩ := LK.out
    have HB2 : Hid _ := HB.out _ _ _ _ _ _ (Ar.put F.ar P1 (j := 3) (v := .int .i64 v) (by decide) rfl) G1 (HZ.out X' q F.prs)
    have HF2 : Hid _ := fun r w3 => HF.out w2 w3 v r X' N1 q F
    clear hv F P1 G1 hq LK
    go_wp2_with fail
    refine Calls.mono HB2.out ?_
    rintro r w3 ⟨T', N', rfl, B⟩
    have HB3 : Hid _ := HF2.out _ _ ⟨T', N', rfl, B⟩
    clear B
    generalize T'.root = tr' at HB3 ⊢
    go_wp2_with fail
    go_ret
    exact HB3.out
end Go.Proofs.Ytaiaahcblohknaa
