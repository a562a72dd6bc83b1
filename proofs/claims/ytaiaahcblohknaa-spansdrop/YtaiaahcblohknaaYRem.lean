/- What is proved: Remove takes out a span that the key has and tells so, or leaves the forest as it is; replant lays a key's new root or takes the key out; the forest lies in memory. -/
import Derived.Test.YtaiaahcblohknaaYIns
import Derived.Test.YtaiaahcblohknaaYTk
import Derived.Test.YtaiaahcblohknaaYSoon
import Derived.StillTailTactics
namespace Go.Proofs.Ytaiaahcblohknaa
open Go.RowKit

/-- A key is taken out. -/
theorem Fm.gone {F : Nat → Prop} {w w' : World} {fb nb cap fr mb : Nat} {c e : Int} {N : List Nd} {D : DataW Value} {R : List UInt8 → PT} (h : Fm F w fb nb cap fr mb c e N D R) (k : ByteArray) (ho : w'.ownsMap Try.prog 9 rawE mb (Go.Maps.size D) (D.del (kl k))) (hs : Same (fun b => b = mb) w w') : Fm F w' fb nb cap fr mb c e N (D.del (kl k)) (upd R k.toList .nil) := by
  refine ⟨h.ar.kept hs h.mne.1 h.mne.2, tight ho, fun k' => ?_, h.ff, h.fn, h.fm, fun b hb => Nat.lt_of_lt_of_le (h.lt b hb) hs.size⟩
  by_cases x : k'.toList = k.toList
  · rw [x, upd_same, kl_eq x]
    exact .inl ⟨rfl, Go.Maps.has_del_same⟩
  · rw [upd_other R x]
    rcases h.look k' with ⟨h1, h2⟩ | ⟨h1, h2⟩
    · exact .inl ⟨h1, by rw [Go.Maps.has_del_other (kl_ne x)]; exact h2⟩
    · exact .inr ⟨h1, fun zd => by rw [Go.Maps.atKey_del_other (kl_ne x)]; exact h2 zd⟩
set_option maxRecDepth 100000 in
set_option maxHeartbeats 1600000 in
theorem replant14 {F : Nat → Prop} {w : World} {fb nb cap fr mb : Nat} {c e : Int} {N : List Nd} {D : DataW Value} {R : List UInt8 → PT} (h : Fm F w fb nb cap fr mb c e N D R) (k : ByteArray) (hk : k.size ≤ maxLen) (hsz : Go.Maps.size D < maxLen) (T : PT) (hT : Lay N T) :
    Calls Try.prog 32 #[.pointer (some ⟨fb, 0, none⟩), .string k, .int .i64 (T.root : Nat)] w fun r w' => r = .returned (.tuple #[]) ∧ ∃ D', Fm F w' fb nb cap fr mb c e N D' (upd R k.toList T) ∧ Same (fun b => b = mb) w w' := by
  obtain ⟨⟨-, -, f2, -⟩, hb, -⟩ := h.ar.cells
  by_cases hn : T = .nil
  · subst hn
    have HF : Hid (∀ w', w'.ownsMap Try.prog 9 rawE mb (Go.Maps.size D) (D.del (kl k)) → w.mapTurned w' mb → ∃ D', Fm F w' fb nb cap fr mb c e N D' (upd R k.toList .nil) ∧ Same (fun b => b = mb) w w') := fun w' ho ht => ⟨_, h.gone k ho (same_turned ht), same_turned ht⟩
    have hown := h.own
    have HKO : Hid _ := key_of hk
    clear h hT
    show Calls Try.prog 32 #[.pointer (some ⟨fb, 0, none⟩), .string k, .int .i64 ((0 : Nat) : Int)] w _
    go_enter Try.func32, Try.ntmps32
    go_wp2_with (at_delete; apply Hid.out)
    refine wpList_delete_own _ rfl _ _ 53 9 rfl 3 Try.keyedS Try.underlying53 rawE mb _ D rfl hown _ _ rfl HKO.out ?_
    intro w1 ho1 ht1
    go_wp2_with fail
    refine bodyPost_ret (results_none rfl _ _ _) rfl ?_
    exact ⟨rfl, HF.out _ ho1 ht1⟩
  · have hr0 : ¬ ((T.root : Int) = 0) := by
      have : T.root ≠ 0 := fun e => hn (root_zero hT e)
      omega
    obtain ⟨w', hrun, h2, h3⟩ := h.lays hk hsz T hn
    have H2 : Hid _ := h2
    have H3 : Hid _ := h3
    clear h h2 h3 hn hT
    generalize T.root = tr at *
    go_enter Try.func32, Try.ntmps32
    go_wp2_with fail
    go_end0
    exact ⟨rfl, _, H2.out, H3.out⟩
theorem rdel_none {A : List Ks} {k : ByteArray} {x : Sp} (h : x ∉ kf A k) : rdel A k x = A := by
  unfold rdel
  rw [List.filter_eq_self]
  intro y hy
  by_cases hk : (y.key.toList == k.toList) = true
  · have : y.s ∈ kf A k := List.mem_map.2 ⟨y, List.mem_filter.2 ⟨hy, hk⟩, rfl⟩
    have hne : y.s ≠ x := fun e => h (e ▸ this)
    simp [hne]
  · simp [hk]
theorem kf_length (A : List Ks) (k : ByteArray) : (kf A k).length ≤ A.length := by
  unfold kf
  rw [List.length_map]
  exact List.length_filter_le _ _
/-- How many are left. -/
theorem rdel_length {A : List Ks} {k : ByteArray} {x : Sp} (hs : Srt (kf A k)) (h : x ∈ kf A k) : (rdel A k x).length + 1 = A.length := by
  induction A with
  | nil => simp [kf] at h
  | cons a r ih =>
    rw [kf_cons] at hs h
    by_cases hk : (a.key.toList == k.toList) = true
    · rw [if_pos hk] at hs h
      have hs1 := List.pairwise_cons.1 hs
      by_cases hx : a.s = x
      · have hn : x ∉ kf r k := fun e => by
          have := hs1.1 x e
          rw [hx, sl_irrefl] at this
          cases this
        have e1 : rdel (a :: r) k x = rdel r k x := by unfold rdel; rw [List.filter_cons, if_neg (by simp [hk, hx])]
        rw [e1, rdel_none hn, List.length_cons]
      · have e1 : rdel (a :: r) k x = a :: rdel r k x := by unfold rdel; rw [List.filter_cons, if_pos (by simp [hx])]
        rw [e1, List.length_cons, List.length_cons, ih hs1.2 (by
          rcases List.mem_cons.1 h with e | e
          · exact absurd e.symm hx
          · exact e)]
    · rw [if_neg hk] at hs h
      have e1 : rdel (a :: r) k x = a :: rdel r k x := by unfold rdel; rw [List.filter_cons, if_pos (by simp [hk])]
      rw [e1, List.length_cons, List.length_cons, ih hs h]
/-- Behind a span that was taken out: all but the count. -/
theorem Fm.took {F : Nat → Prop} {w w2 : World} {fb nb cap fr mb : Nat} {c e : Int} {N : List Nd} {D : DataW Value} {R : List UInt8 → PT} {FL : List Nat} {A : List Ks} (h : Fm F w fb nb cap fr mb c e N D R) (hp : Fp N fr R FL A) {k : ByteArray} {x : Sp} {T' : PT} {N' : List Nd} {q : Nat} (t : TakeR w w2 fb nb cap fr (.map (some mb)) c e N (R k.toList) x T' N' q) :
    Fm F w2 fb nb cap q mb c e N' D R ∧ Fp N' q (upd R k.toList T') (q :: FL) (rdel A k x) ∧ Lay N' T' ∧ N'.length = N.length :=
  ⟨h.turn0 t.ar t.same, hp.take t.ch t.lay t.tr t.prs t.free rfl, t.lay, t.ch.len⟩
set_option maxRecDepth 100000 in
set_option maxHeartbeats 3200000 in
theorem remove14 {F : Nat → Prop} {w : World} {fb : Nat} {A : List Ks} {bd : Nat} (h : Fo F w fb A bd) (k : ByteArray) (hk : k.size ≤ maxLen) (x : Sp) (hbd : bd ≤ 3500000000000) :
    Calls Try.prog 14 #[.pointer (some ⟨fb, 0, none⟩), .string k, spV x] w fun r w' => (∃ b, r = .returned (.bool b) ∧ (b = true ↔ x ∈ kf A k)) ∧ StpP F w fb (rdel A k x) bd w' := by
  have HK0 : Hid _ := (Same.refl (fun _ => False) w).alloc (spO x)
  have HG : Hid _ := heap_new w (spO x)
  have HS : Hid _ := h
  have HKL : Hid _ := hk
  obtain ⟨nb, cap, fr, mb, e, N, D, R, FL, hm, hp, he, hr, hN, hA⟩ := h
  have hmem := mem_dec (x := x) (hp.lst k) (hp.srt k)
  have hsz : Go.Maps.size D ≤ A.length := hm.keys_le hp.lst
  have hlen := kf_length A k
  have hszT : (R k.toList).tr.sz ≤ A.length := by unfold Tr.sz; rw [hp.lst]; exact hlen
  have hfd : ∀ W, Kept w W → (Instr.lookup 53 (.map (some mb)) (.string k) false).run Try.prog W = .ok (.int .i64 ((R k.toList).root : Nat)) W := fun W kk => (hm.on kk).find hk
  have HFD : Hid _ := hfd
  have HM : Hid _ := hm
  have HHAS2 : Hid (∀ W1, Kept w W1 → Calls Try.prog 28 #[.pointer (some ⟨fb, 0, none⟩), .int .i64 ((R k.toList).root : Nat), .agg #[.int .i64 x.f, .int .i64 x.t, .int .i64 x.i]] W1 fun r w' => r = .returned (.bool ((R k.toList).tr.has x)) ∧ Kept W1 w') := fun W1 k9 => has14 (hm.on k9).ar (hp.lay k.toList) hp.z x
  have HTK : Hid (x ∈ kf A k → ∀ W, Kept w W → Calls Try.prog 33 #[.pointer (some ⟨fb, 0, none⟩), .int .i64 ((R k.toList).root : Nat), .agg #[.int .i64 x.f, .int .i64 x.t, .int .i64 x.i]] (W.setCell ⟨fb, 3, none⟩ (.int .i64 ((A.length : Int) - 1))).drew fun r w2 => ∃ v : Nat, r = .returned (.int .i64 v) ∧ Hid (Calls Try.prog 32 #[.pointer (some ⟨fb, 0, none⟩), .string k, .int .i64 v] w2 fun r w3 => r = .returned (.tuple #[]) ∧ StpP F w fb (rdel A k x) bd w3)) := fun hx W kk => by
    have h1 := ((hm.on kk).setC ((A.length : Int) - 1)).on (Same.refl _ _).drew
    refine (take14 fb nb cap fr _ _ _ x (R k.toList) _ N h1.ar (hp.lay _) hp.z (hp.nd _) (by rw [hp.lst]; exact hx) (by rw [hp.lst]; exact hp.srt k) (by omega)).mono ?_
    rintro r w2 ⟨T', N', q, rfl, t⟩
    obtain ⟨a1, a2, a3, a4⟩ := h1.took hp t
    refine ⟨_, rfl, ?_⟩
    refine (replant14 a1 k hk (by unfold maxLen; omega) T' a3).mono ?_
    rintro r w3 ⟨rfl, D', b1, b2⟩
    refine ⟨rfl, F, ⟨nb, cap, q, mb, e, N', D', _, _, ?_, a2, fun y hy => he y (List.mem_filter.1 hy).1, fun y hy => hr y (List.mem_filter.1 hy).1, by omega, ?_⟩, fun b hb => .inl hb, ?_⟩
    · have := rdel_length (hp.srt k) hx
      rw [show ((rdel A k x).length : Int) = (A.length : Int) - 1 by omega]
      exact b1
    · have := rdel_length (hp.srt k) hx
      omega
    · have s0 : Same F W (W.setCell ⟨fb, 3, none⟩ (.int .i64 ((A.length : Int) - 1))).drew := Same.drew (Same.setCell (Same.refl _ W) ⟨fb, 3, none⟩ (.inr hm.ff) _)
      exact (((Kept.to kk _).trans' s0).trans' (hm.same_in t.same fun z hz => by rcases hz with hz | hz; exact .inl hz; exact .inr (.inl hz))).trans' (hm.same_in b2 fun z hz => .inr (.inr hz))
  have hal : A.length < 4611686018427387904 := by omega
  by_cases hx : x ∈ kf A k
  · have h3 : (R k.toList).tr.has x = true := hmem.2 hx
    rw [h3] at HHAS2
    have HTK2 : Hid _ := HTK.out hx
    have HX : Hid _ := hx
    have hap : 1 ≤ A.length := Nat.le_trans (List.length_pos_of_mem hx) hlen
    clear hmem hp hm he hr hN hA hsz hlen hszT h3 hx HTK hfd
    obtain ⟨xf, xt, xi⟩ := x
    unfold spV
    simp only at HK0 HG HHAS2 HTK2 ⊢
    generalize (R k.toList).root = rr at *
    generalize A.length = al at *
    go_enter Try.func14, Try.ntmps14
    go_upto_region 1 with fail
    generalize w.alloc (spO ⟨xf, xt, xi⟩) = W at HK0 HG ⊢
    generalize hgg : w.heap.size = g at HG ⊢
    obtain ⟨x0, x1, x2⟩ := sp_cells HG.out
    simp only at x0 x1 x2
    have hfd1 := HFD.out W HK0.out
    obtain ⟨⟨-, -, f2, f3, -⟩, hfl, -⟩ := (Fm.on HM.out HK0.out).ar.cells
    have HBX : Hid (∀ W1, Kept W W1 → Kept W W1 ∧ W1.cell? ⟨g, 0, none⟩ = some (.int .i64 xf) ∧ W1.cell? ⟨g, 1, none⟩ = some (.int .i64 xt) ∧ W1.cell? ⟨g, 2, none⟩ = some (.int .i64 xi)) := fun W1 k9 => ⟨k9, sp_cells ((k9.block g (lt_of_heap HG.out) (fun e => e)).trans HG.out)⟩
    have HH3 : Hid (∀ W1, Kept W W1 → Calls Try.prog 28 #[.pointer (some ⟨fb, 0, none⟩), .int .i64 rr, .agg #[.int .i64 xf, .int .i64 xt, .int .i64 xi]] W1 fun r w' => r = .returned (.bool true) ∧ Kept W w') := fun W1 k9 => (HHAS2.out W1 (Same.trans' HK0.out k9)).mono fun r w' h9 => ⟨h9.1, Same.trans' k9 h9.2⟩
    go_wp2_with fail
    go_region_held3 (fun w' => Kept W w' ∧ w'.cell? ⟨g, 0, none⟩ = some (.int .i64 xf) ∧ w'.cell? ⟨g, 1, none⟩ = some (.int .i64 xt) ∧ w'.cell? ⟨g, 2, none⟩ = some (.int .i64 xi))
      (exact HBX.out _ (by (repeat (first | assumption | exact Same.refl _ _ | apply Same.alloc | apply Same.drew | apply Same.drewN)); done))
      ((go_at_call 28; refine Calls.mono (HH3.out _ (by (repeat (first | assumption | exact Same.refl _ _ | apply Same.alloc | apply Same.drew | apply Same.drewN)); done)) ?_; rintro r w2 ⟨rfl, k3⟩))
    all_goals
      have K3 : Hid (Kept w w2) := Same.trans' HK0.out k3
      clear x0 x1 x2 f2 f3 hfd1
      obtain ⟨-, x0, x1, x2⟩ := HBX.out w2 k3
      have hm2 := Fm.on HM.out K3.out
      obtain ⟨⟨-, -, f2, f3, -⟩, hfl2, -⟩ := hm2.ar.cells
      have zf := fun o => hm2.ar.unfrozen o
      have nfg : ¬ fb = g := by
        have h9 := (Fm.lt HM.out) fb (Fm.ff HM.out)
        omega
      have nfg2 : ¬ g = fb := fun e9 => nfg e9.symm
      have HT9 : Hid _ := HTK2.out w2 K3.out
      have y0 : (w2.setCell ⟨fb, 3, none⟩ (.int .i64 ((al : Int) - 1))).heap[g]? = some (spO ⟨xf, xt, xi⟩) := (Below.heap_setCell _ _ _ _ nfg2).trans ((k3.block g (lt_of_heap HG.out) (fun e => e)).trans HG.out)
      have hap1 : ((al : Int) - 1) ≤ 9223372036854775807 := by omega
      have hap2 : (1 : Int) ≤ (al : Int) := by omega
      clear hm2 k3
      go_upto_region 5 with fail
      generalize w2.setCell ⟨fb, 3, none⟩ (.int .i64 ((al : Int) - 1)) = Y at y0 HT9 ⊢
      clear x0 x1 x2
      obtain ⟨x0, x1, x2⟩ := sp_cells y0
      simp only at x0 x1 x2
      clear y0
      go_region_with ((first
        | (go_at_call 33; refine Calls.mono HT9.out ?_; rintro r w5 ⟨v, rfl, HRP⟩)
        | (go_at_call 32; refine Calls.mono HRP.out ?_; rintro r w6 ⟨rfl, P6⟩; have HP6 : Hid (StpP F w fb _ bd w6) := P6; clear P6)))
      all_goals
        go_wp2_with fail
        go_ret
        exact ⟨⟨true, rfl, ⟨fun _ => HX.out, fun _ => rfl⟩⟩, HP6.out⟩
  · have h3 : (R k.toList).tr.has x = false := by
      cases hc : (R k.toList).tr.has x
      · rfl
      · exact absurd (hmem.1 hc) hx
    rw [h3] at HHAS2
    have HX : Hid _ := hx
    rw [rdel_none hx]
    clear hmem hp hm he hr hN hA hsz hlen hszT h3 hx HTK hfd
    obtain ⟨xf, xt, xi⟩ := x
    unfold spV
    simp only at HK0 HG HHAS2 ⊢
    generalize (R k.toList).root = rr at *
    go_enter Try.func14, Try.ntmps14
    go_upto_region 1 with fail
    generalize w.alloc (spO ⟨xf, xt, xi⟩) = W at HK0 HG ⊢
    generalize hgg : w.heap.size = g at HG ⊢
    obtain ⟨x0, x1, x2⟩ := sp_cells HG.out
    simp only at x0 x1 x2
    have hfd1 := HFD.out W HK0.out
    obtain ⟨⟨-, -, f2, f3, -⟩, hfl, -⟩ := (Fm.on HM.out HK0.out).ar.cells
    have HBX : Hid (∀ W1, Kept W W1 → Kept W W1 ∧ W1.cell? ⟨g, 0, none⟩ = some (.int .i64 xf) ∧ W1.cell? ⟨g, 1, none⟩ = some (.int .i64 xt) ∧ W1.cell? ⟨g, 2, none⟩ = some (.int .i64 xi)) := fun W1 k9 => ⟨k9, sp_cells ((k9.block g (lt_of_heap HG.out) (fun e => e)).trans HG.out)⟩
    have HH3 : Hid (∀ W1, Kept W W1 → Calls Try.prog 28 #[.pointer (some ⟨fb, 0, none⟩), .int .i64 rr, .agg #[.int .i64 xf, .int .i64 xt, .int .i64 xi]] W1 fun r w' => r = .returned (.bool false) ∧ Kept W w') := fun W1 k9 => (HHAS2.out W1 (Same.trans' HK0.out k9)).mono fun r w' h9 => ⟨h9.1, Same.trans' k9 h9.2⟩
    go_wp2_with fail
    go_region_held3 (fun w' => Kept W w' ∧ w'.cell? ⟨g, 0, none⟩ = some (.int .i64 xf) ∧ w'.cell? ⟨g, 1, none⟩ = some (.int .i64 xt) ∧ w'.cell? ⟨g, 2, none⟩ = some (.int .i64 xi))
      (exact HBX.out _ (by (repeat (first | assumption | exact Same.refl _ _ | apply Same.alloc | apply Same.drew | apply Same.drewN)); done))
      ((go_at_call 28; refine Calls.mono (HH3.out _ (by (repeat (first | assumption | exact Same.refl _ _ | apply Same.alloc | apply Same.drew | apply Same.drewN)); done)) ?_; rintro r w2 ⟨rfl, k3⟩))
    all_goals
      have K3 : Hid (Kept w w2) := Same.trans' HK0.out k3
      clear k3
      go_wp2_with fail
      go_ret
      exact ⟨⟨false, rfl, ⟨fun h9 => (by cases h9), fun h9 => absurd h9 HX.out⟩⟩, StpP.stays HS.out K3.out⟩
end Go.Proofs.Ytaiaahcblohknaa
