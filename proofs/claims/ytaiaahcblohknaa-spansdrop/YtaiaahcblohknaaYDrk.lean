/- What is proved: dropKey takes out of one key's tree all that ends at the floor or earlier; the forest lies in memory. -/
import Derived.Test.YtaiaahcblohknaaYRpl
namespace Go.Proofs.Ytaiaahcblohknaa
open Go.RowKit

theorem upd_upd (R : List UInt8 → PT) (k : List UInt8) (T T' : PT) : upd (upd R k T) k T' = upd R k T' := by
  funext k'
  unfold upd
  split <;> rfl
theorem upd_self (R : List UInt8 → PT) (k : List UInt8) : upd R k (R k) = R := by
  funext k'
  unfold upd
  split
  · rename_i h; rw [h]
  · rfl
theorem Fm.sameRoot {F : Nat → Prop} {w : World} {fb nb cap fr mb : Nat} {c e : Int} {N : List Nd} {D : DataW Value} {R : List UInt8 → PT} (h : Fm F w fb nb cap fr mb c e N D R) (k : ByteArray) (T : PT) (hr : T.root = (R k.toList).root) (hT : T ≠ .nil) (hR : R k.toList ≠ .nil) : Fm F w fb nb cap fr mb c e N D (upd R k.toList T) := by
  refine ⟨h.ar, h.own, fun k' => ?_, h.ff, h.fn, h.fm, h.lt⟩
  by_cases hk : k'.toList = k.toList
  · rcases h.look k' with ⟨h1, -⟩ | ⟨-, h2⟩
    · rw [hk] at h1; exact absurd h1 hR
    · refine .inr ⟨by rw [hk, upd_same]; exact hT, fun zd => ?_⟩
      rw [h2 zd, hk, upd_same, hr]
  · rw [upd_other _ hk]
    exact h.look k'
/-- A span of key k that ends at the floor or earlier doesn't stay. -/
def late (k : ByteArray) (fl : Int) (y : Ks) : Bool := !(y.key.toList == k.toList && decide (y.s.t ≤ fl))
theorem late_rdel {A : List Ks} {k : ByteArray} {x : Sp} {fl : Int} (h : x.t ≤ fl) : (rdel A k x).filter (late k fl) = A.filter (late k fl) := by
  unfold rdel
  rw [List.filter_filter]
  refine List.filter_congr fun y _ => ?_
  by_cases h1 : y.key.toList = k.toList
  · by_cases h2 : y.s = x
    · simp [late, h1, h2, h]
    · simp [late, h1, h2]
  · simp [late, h1]
/-- In the midst of dropKey: the map still has the old root, the key's tree is T. -/
def Mid (F : Nat → Prop) (w wr : World) (fb nb cap mb : Nat) (e : Int) (D : DataW Value) (R : List UInt8 → PT) (k : ByteArray) (n0 : Nat) (A : List Ks) (fl : Int) (T : PT) (A' : List Ks) : Prop :=
  ∃ fr N FL, Fm F wr fb nb cap fr mb A'.length e N D R ∧ Fp N fr (upd R k.toList T) FL A' ∧ A'.filter (late k fl) = A.filter (late k fl) ∧ ((∀ y ∈ A', y ∈ A) ∧ A'.length ≤ A.length) ∧ Same (fun z => z = nb ∨ z = fb) w wr ∧ N.length = n0
/-- How many spans the forest says it has. -/
def cntOf (fb : Nat) (w : World) : Nat := match w.cell? ⟨fb, 3, none⟩ with
  | some (.int _ n) => n.toNat
  | _ => 0
theorem Mid.end_ {F : Nat → Prop} {w wr : World} {fb nb cap mb : Nat} {e : Int} {D : DataW Value} {R : List UInt8 → PT} {k : ByteArray} {n0 : Nat} {A : List Ks} {fl : Int} {T : PT} {A' : List Ks} (h : Mid F w wr fb nb cap mb e D R k n0 A fl T A') (hT : T = .nil ∨ fl < T.tr.mn) : A' = A.filter (late k fl) := by
  obtain ⟨fr, N, FL, h1, h2, h3, -⟩ := h
  rw [← h3, List.filter_eq_self.2]
  intro y hy
  by_cases hk : y.key.toList = k.toList
  · have hm : y.s ∈ T.tr.list := by
      have := h2.lst k
      rw [upd_same] at this
      rw [this]
      exact List.mem_map.2 ⟨y, List.mem_filter.2 ⟨hy, by simp [hk]⟩, rfl⟩
    rcases hT with rfl | hT
    · simp [PT.tr, Tr.list] at hm
    · have := Tr.mn_le T.tr y.s hm
      simp only [late, hk, beq_self_eq_true, Bool.true_and, Bool.not_eq_true', decide_eq_false_iff_not]
      omega
  · simp [late, hk]
/-- What dropKey leaves. -/
def DrkP (F : Nat → Prop) (w : World) (fb nb cap mb : Nat) (e : Int) (R : List UInt8 → PT) (k : ByteArray) (n0 : Nat) (A : List Ks) (fl : Int) (r n ct : Nat) (left : Lit → Bool) (v : Nat) (w' : World) : Prop :=
  ∃ T fr' N' FL' D', v = T.root ∧ Fm F w' fb nb cap fr' mb (A.filter (late k fl)).length e N' D' (upd R k.toList T) ∧ Fp N' fr' (upd R k.toList T) FL' (A.filter (late k fl)) ∧ Same F w w' ∧ N'.length = n0 ∧ ∃ ct', Rgs w' mb r n D' left ct' ∧ ct' ≤ ct
theorem Rgs.off {S : Nat → Prop} {w w' : World} {mb r n ct : Nat} {D : DataW Value} {left : Lit → Bool} (h : Rgs w mb r n D left ct) (hs : Same S w w') (h1 : ¬ S mb) (h2 : ¬ S r) : Rgs w' mb r n D left ct := by
  obtain ⟨es, clock, since, seen, c0, hb, F, h3, h4, hr, h5⟩ := h
  exact ⟨es, clock, since, seen, c0, (hs.block mb (lt_of_heap hb) h1).trans hb, F, h3, h4, (hs.block r (lt_of_heap hr) h2).trans hr, h5⟩
theorem nf_in {F : Nat → Prop} {w : World} {fb nb cap fr mb : Nat} {c e : Int} {N : List Nd} {D : DataW Value} {R : List UInt8 → PT} (h : Fm F w fb nb cap fr mb c e N D R) {r : Nat} (hr : ¬ F r) : ¬ (mb = nb ∨ mb = fb) ∧ ¬ (r = nb ∨ r = fb) :=
  ⟨fun e => e.elim (fun e => h.mne.2 e.symm) (fun e => h.mne.1 e.symm), fun e => e.elim (fun e => hr (e ▸ h.fn)) (fun e => hr (e ▸ h.ff))⟩
theorem Mid.fin1 {F : Nat → Prop} {w wr : World} {fb nb cap mb : Nat} {e : Int} {D : DataW Value} {R : List UInt8 → PT} {k : ByteArray} {n0 : Nat} {A : List Ks} {fl : Int} {T : PT} {A' : List Ks} (h : Mid F w wr fb nb cap mb e D R k n0 A fl T A') (hT : T = .nil ∨ fl < T.tr.mn) (hr : T.root = (R k.toList).root) (hR : (R k.toList).root ≠ 0) {r n ct : Nat} {left : Lit → Bool} (hg : Rgs w mb r n D left ct) (hF : ¬ F r) : DrkP F w fb nb cap mb e R k n0 A fl r n ct left T.root wr := by
  have he := h.end_ hT
  obtain ⟨fr, N, FL, h1, h2, -, -, h5, h6⟩ := h
  rw [he] at h1 h2
  exact ⟨T, fr, N, FL, D, rfl, h1.sameRoot k T hr (fun e9 => hR (by rw [← hr, e9]; rfl)) (fun e9 => hR (by rw [e9]; rfl)), h2, h1.same_in h5 fun z hz => hz.elim .inl fun e9 => .inr (.inl e9), h6, ct, hg.off h5 (nf_in h1 hF).1 (nf_in h1 hF).2, Nat.le_refl _⟩
theorem Mid.fin2 {F : Nat → Prop} {w wr : World} {fb nb cap mb : Nat} {e : Int} {D : DataW Value} {R : List UInt8 → PT} {k : ByteArray} {n0 : Nat} {A : List Ks} {fl : Int} {T : PT} {A' : List Ks} (h : Mid F w wr fb nb cap mb e D R k n0 A fl T A') (hT : T = .nil ∨ fl < T.tr.mn) (hk : k.size ≤ maxLen) (hsz : Go.Maps.size D < maxLen) {r n ct : Nat} {left : Lit → Bool} (hg : Rgs w mb r n D left ct) (hF : ¬ F r) (hn : n < maxLen) (hat : Go.Maps.has D (kl k) = true) (hst : (fun z => left z && !z.sameKey (kl k)) = left) :
    Calls Try.prog 32 #[.pointer (some ⟨fb, 0, none⟩), .string k, .int .i64 (T.root : Nat)] wr fun r' w' => r' = .returned (.tuple #[]) ∧ DrkP F w fb nb cap mb e R k n0 A fl r n ct left T.root w' := by
  have he := h.end_ hT
  obtain ⟨fr, N, FL, h1, h2, -, -, h5, h6⟩ := h
  rw [he] at h1 h2
  have hl : Lay N T := by have := h2.lay k.toList; rwa [upd_same] at this
  refine (replantR h1 (hg.off h5 (nf_in h1 hF).1 (nf_in h1 hF).2) hn k hk hsz hat hst T hl).mono ?_
  rintro r' w' ⟨rfl, D', ct', b1, b2, b3, b4⟩
  exact ⟨rfl, T, fr, N, FL, D', rfl, b1, h2, (h1.same_in h5 fun z hz => hz.elim .inl fun e9 => .inr (.inl e9)).trans' (h1.same_in b2 fun z hz => .inr (.inr hz)), h6, ct', b3, b4⟩
theorem Mid.on {F : Nat → Prop} {w wr w' : World} {fb nb cap mb : Nat} {e : Int} {D : DataW Value} {R : List UInt8 → PT} {k : ByteArray} {n0 : Nat} {A : List Ks} {fl : Int} {T : PT} {A' : List Ks} (h : Mid F w wr fb nb cap mb e D R k n0 A fl T A') (kk : Kept wr w') : Mid F w w' fb nb cap mb e D R k n0 A fl T A' := by
  obtain ⟨fr, N, FL, h1, h2, h3, h4, h5, h6⟩ := h
  exact ⟨fr, N, FL, h1.on kk, h2, h3, h4, h5.trans' (Kept.to kk _), h6⟩
theorem Mid.cnt {F : Nat → Prop} {w wr : World} {fb nb cap mb : Nat} {e : Int} {D : DataW Value} {R : List UInt8 → PT} {k : ByteArray} {n0 : Nat} {A : List Ks} {fl : Int} {T : PT} {A' : List Ks} (h : Mid F w wr fb nb cap mb e D R k n0 A fl T A') : cntOf fb wr = A'.length := by
  obtain ⟨fr, N, FL, h1, -⟩ := h
  obtain ⟨⟨-, -, -, c3, -⟩, -⟩ := h1.ar.cells
  unfold cntOf
  rw [c3]
  simp
theorem Mid.take {F : Nat → Prop} {w wr : World} {fb nb cap mb : Nat} {e : Int} {D : DataW Value} {R : List UInt8 → PT} {k : ByteArray} {n0 : Nat} {A : List Ks} {fl : Int} {T : PT} {A' : List Ks} (h : Mid F w wr fb nb cap mb e D R k n0 A fl T A') (hA : A'.length ≤ 3500000000000) {x : Sp} (hx : x ∈ T.tr.list) (hxt : x.t ≤ fl) (W : World) (kk : Kept wr W) :
    Calls Try.prog 33 #[.pointer (some ⟨fb, 0, none⟩), .int .i64 (T.root : Nat), spV x] W fun r w2 => ∃ v : Nat, r = .returned (.int .i64 v) ∧ w2.cell? ⟨fb, 3, none⟩ = some (.int .i64 A'.length) ∧ w2.frozen? ⟨fb, 3, none⟩ = false ∧ fb < w2.heap.size ∧ ∃ T', v = T'.root ∧ Mid F w (w2.setCell ⟨fb, 3, none⟩ (.int .i64 ((A'.length : Int) - 1))) fb nb cap mb e D R k n0 A fl T' (rdel A' k x) ∧ (rdel A' k x).length + 1 = A'.length := by
  obtain ⟨fr, N, FL, h1, h2, h3, h4, h5, h6⟩ := h
  have hl : Lay N T := by have := h2.lay k.toList; rwa [upd_same] at this
  have hls : T.tr.list = kf A' k := by have := h2.lst k; rwa [upd_same] at this
  have hnd : T.pl.Nodup := by have := h2.nd k.toList; rwa [upd_same] at this
  have hsz : T.tr.sz ≤ A'.length := by unfold Tr.sz; rw [hls]; exact kf_length A' k
  refine (take14 fb nb cap fr _ _ _ x T W N (h1.on kk).ar hl h2.z hnd hx (by rw [hls]; exact h2.srt k) (by omega)).mono ?_
  rintro r w2 ⟨T', N', q, rfl, t⟩
  have a1 := (h1.on kk).turn0 t.ar t.same
  obtain ⟨⟨-, -, -, c3, -⟩, hb, -⟩ := a1.ar.cells
  have t2 : TakeR W w2 fb nb cap fr (.map (some mb)) A'.length e N (upd R k.toList T k.toList) x T' N' q := by rw [upd_same]; exact t
  have a2 := h2.take t2.ch t2.lay t2.tr t2.prs t2.free rfl
  rw [upd_upd] at a2
  have hln := rdel_length (h2.srt k) (by rw [← hls]; exact hx : x ∈ kf A' k)
  refine ⟨_, rfl, c3, a1.ar.unfrozen 3, hb, T', rfl, ⟨q, N', q :: FL, ?_, a2, (late_rdel hxt).trans h3, ⟨fun y hy => h4.1 y (List.mem_filter.1 hy).1, by have := h4.2; omega⟩, ?_, by rw [t.ch.len]; exact h6⟩, hln⟩
  · rw [show ((rdel A' k x).length : Int) = (A'.length : Int) - 1 by omega]
    exact a1.setC _
  · exact ((h5.trans' (Kept.to kk _)).trans' t.same).trans' (Same.setCell (Same.refl _ w2) ⟨fb, 3, none⟩ (.inr (.inr rfl)) _)
set_option maxRecDepth 100000 in
set_option maxHeartbeats 3200000 in
theorem dropKey14 {F : Nat → Prop} {w : World} {fb nb cap fr mb : Nat} {e : Int} {N : List Nd} {D : DataW Value} {R : List UInt8 → PT} {FL : List Nat} {A : List Ks} (hm : Fm F w fb nb cap fr mb A.length e N D R) (hp : Fp N fr R FL A) (hr : ∀ y ∈ A, rightS y.s = true) (hA : A.length ≤ 3500000000000) (k : ByteArray) (hk : k.size ≤ maxLen) (fl : Int) (hne : R k.toList ≠ .nil) {r n ct : Nat} {left : Lit → Bool} (hg : Rgs w mb r n D left ct) (hF : ¬ F r) (hn : n < maxLen) (hst : (fun z => left z && !z.sameKey (kl k)) = left) :
    Calls Try.prog 31 #[.pointer (some ⟨fb, 0, none⟩), .string k, .int .i64 ((R k.toList).root : Nat), .int .i64 fl] w fun r' w' => ∃ v : Nat, r' = .returned (.int .i64 v) ∧ DrkP F w fb nb cap mb e R k N.length A fl r n ct left v w' := by
  have HM0 : Hid (Mid F w w fb nb cap mb e D R k N.length A fl (R k.toList) A) := ⟨fr, N, FL, hm, by rw [upd_self]; exact hp, rfl, ⟨fun y hy => hy, Nat.le_refl _⟩, Same.refl _ _, rfl⟩
  have HR : Hid _ := hr
  have HKL : Hid _ := hk
  have HA : Hid _ := hA
  have HSZ : Hid (Go.Maps.size D < maxLen) := by
    have h9 : Go.Maps.size D < maxLen := by have := hm.keys_le hp.lst; unfold maxLen; omega
    exact h9
  have HHAT : Hid (Go.Maps.has D (kl k) = true) := by
    rcases hm.look k with ⟨h1, -⟩ | ⟨-, h2⟩
    · exact absurd h1 hne
    · exact Go.Maps.has_true_of_atKey h2
  have HG : Hid (Rgs w mb r n D left ct) := hg
  have HFR : Hid _ := hF
  have HNM : Hid _ := hn
  have HST : Hid _ := hst
  have HR0 : Hid ((R k.toList).root ≠ 0) := fun e9 => hne (root_zero (hp.lay k.toList) e9)
  obtain ⟨rr, err⟩ : ∃ rr, rr = (R k.toList).root := ⟨_, rfl⟩
  rw [← err]
  have ERR : Hid _ := err
  clear hm hp hr hk hne err hA hg hF hn hst
  go_enter Try.func31, Try.ntmps31
  go_wp2_with fail
  go_loopw [9] (fun v wr => ∃ T A', v = .int .i64 (T.root : Nat) ∧ Mid F w wr fb nb cap mb e D R k N.length A fl T A') (fun _ wr => cntOf fb wr)
  case atStart => exact ⟨R k.toList, A, by rw [show rr = _ from ERR.out], HM0.out⟩
  case round =>
    obtain ⟨T, A', rfl, hM⟩ := hrel
    have HMM : Hid (Mid F w wr fb nb cap mb e D R k N.length A fl T A') := hM
    obtain ⟨fr1, N1, FL1, f1, f2, f3, f4, f5, f6⟩ := hM
    have hlay : Lay N1 T := by have := f2.lay k.toList; rwa [upd_same] at this
    have hls : T.tr.list = kf A' k := by have := f2.lst k; rwa [upd_same] at this
    obtain ⟨n, en, tn⟩ := hlay.tells f2.z
    have c6 := ((f1.ar.node en).1).c6
    rw [tn.fi] at c6
    have l1 : (T.root : Int) < (N1.length : Int) := by have := (f1.ar.node en).2; omega
    obtain ⟨⟨f0, -, f2', f3', -⟩, hb, -⟩ := f1.ar.cells
    have HSN : Hid (T.root ≠ 0 → T.tr.mn ≤ fl → ∀ W', Kept wr W' → Calls Try.prog 41 #[.pointer (some ⟨fb, 0, none⟩), .int .i64 (T.root : Nat)] W' fun r w' => ∃ x, r = .returned (spV x) ∧ (x ∈ T.tr.list ∧ x.t ≤ fl) ∧ Kept W' w') := fun h1 h2 W' k9 => by
      refine (soonest14 (f1.on k9).ar hlay (fun e9 => h1 (by rw [e9]; rfl)) f2.z ?_).mono ?_
      · cases T with
        | nil => exact absurd rfl h1
        | node p l s r =>
          have hs : s ∈ (PT.node p l s r).tr.list := by simp [PT.tr, Tr.list]
          have h3 := Tr.mn_le _ _ hs
          obtain ⟨e9, he, hes⟩ := kf_mem (show s ∈ kf A' k by rw [← hls]; exact hs)
          have h4 := HR.out e9 (f4.1 e9 he)
          simp only [rightS, decide_eq_true_eq, hes] at h4
          omega
      · rintro r w' ⟨x, rfl, q1, q2, q3⟩
        exact ⟨x, rfl, ⟨q1, by omega⟩, q3⟩
    have hA9 : A'.length ≤ A.length := f4.2
    have hA8 : (A'.length : Int) ≤ 3500000000000 := by have h9 : A.length ≤ 3500000000000 := HA.out; omega
    have HTK : Hid (∀ x, (x ∈ T.tr.list ∧ x.t ≤ fl) → ∀ W', Kept wr W' → _) := fun x hx W' k9 => HMM.out.take (by have h9 : A.length ≤ 3500000000000 := HA.out; omega) hx.1 hx.2 W' k9
    have HCN : Hid _ := HMM.out.cnt
    have HZ : Hid (T.root = 0 → T = .nil) := root_zero hlay
    clear HM0 f1 f2 f3 f4 f5 f6 hlay hls en tn
    generalize hmn : T.tr.mn = mn at c6 HSN
    generalize hrt : T.root = tr at *
    have HR1 : Hid (rr ≠ 0) := by rw [show rr = _ from ERR.out]; exact HR0
    by_cases ht : tr = 0
    · subst ht
      have hTn : T = .nil := HZ.out rfl
      have HF2 : Hid _ := HMM.out.fin2 (.inl hTn) HKL.out HSZ.out HG.out HFR.out HNM.out HHAT.out HST.out
      rw [hrt] at HF2
      have hne1 : ¬ (rr = 0) := HR1.out
      have hne2 : ((0 : Int) != (rr : Int)) = true := by simp only [bne_iff_ne, ne_eq]; omega
      clear hrt HSN HTK hTn HCN HZ HMM
      go_wp2_with fail
      refine Calls.mono HF2.out ?_
      rintro r w2 ⟨rfl, h2⟩
      have H2 : Hid _ := h2
      clear h2
      go_wp2_with fail
      go_ret
      exact ⟨0, rfl, H2.out⟩
    · have ht1 : ((tr : Int) != 0) = true := by simp only [bne_iff_ne, ne_eq]; omega
      have ht2 : ¬ ((tr : Int) = 0) := by omega
      by_cases hle : mn ≤ fl
      · have HSN2 : Hid _ := HSN.out ht hle
        clear HSN HZ
        go_upto_region 3 with fail
        go_cut [9] (fun s9 wx => ∃ v : Nat, s9 = .int .i64 v ∧ (wx.cell? ⟨fb, 3, none⟩ = some (.int .i64 A'.length) ∧ wx.frozen? ⟨fb, 3, none⟩ = false ∧ fb < wx.heap.size) ∧ ∃ x T', v = T'.root ∧ Mid F w (wx.setCell ⟨fb, 3, none⟩ (.int .i64 ((A'.length : Int) - 1))) fb nb cap mb e D R k N.length A fl T' (rdel A' k x) ∧ (rdel A' k x).length + 1 = A'.length)
        case first =>
          go_region_held3 (fun _ => True)
            (exact trivial)
            (first
            | (go_at_call 33; refine Calls.mono (HTK.out x HX.out _ (by (repeat (first | assumption | exact K7.out | exact Same.refl _ _ | apply Same.drew | apply Same.drewN)); done)) ?_; rintro r w8 ⟨v, rfl, u3, uf, ub, T', rfl, hM8, hl8⟩; have HM8 : Hid _ := hM8; have HL8 : Hid _ := hl8; clear hM8 hl8)
            | (go_at_call 41; refine Calls.mono (HSN2.out _ (by (repeat (first | assumption | exact Same.refl _ _ | apply Same.drew | apply Same.drewN)); done)) ?_; rintro r w7 ⟨x, rfl, hx, k7⟩; have HX : Hid (x ∈ T.tr.list ∧ x.t ≤ fl) := hx; have K7 : Hid (Kept wr w7) := Same.trans' (by (repeat (first | assumption | exact Same.refl _ _ | apply Same.drew | apply Same.drewN)); done) k7; clear hx k7))
          all_goals
            go_wp2_with fail
            go_meet
            refine ⟨T'.root, rfl, ⟨u3, uf, ub⟩, x, T', rfl, Mid.on HM8.out ?_, HL8.out⟩
            exact Same.refl _ _
        case rest =>
          obtain ⟨v, rfl, ⟨u3, uf, ub⟩, x, T', rfl, hM2, hln⟩ := hcut
          rename World => X
          have HM2 : Hid _ := hM2
          have hA1 : (1 : Int) ≤ (A'.length : Int) := by omega
          clear hM2 HSN2 HTK c6 f0 f2' f3' hb
          go_wp2_with fail
          go_roundw
          case rel => exact ⟨T', _, rfl, HM2.out⟩
          case measure =>
            rw [show cntOf fb wr = _ from HCN.out, Mid.cnt HM2.out]
            omega
      · have hmn2 : fl < T.tr.mn := by omega
        have hle2 : decide (mn ≤ fl) = false := by simpa using hle
        by_cases heq : tr = rr
        · have HF1 : Hid _ := HMM.out.fin1 (.inr hmn2) (by rw [hrt, heq]; exact ERR.out) HR0.out HG.out HFR.out
          rw [hrt] at HF1
          subst heq
          have hq : ((tr : Int) != (tr : Int)) = false := by simp
          clear hrt HSN HTK HCN HZ HMM hmn2 hmn
          go_wp2_with fail
          go_ret
          exact ⟨tr, rfl, HF1.out⟩
        · have HF2 : Hid _ := HMM.out.fin2 (.inr hmn2) HKL.out HSZ.out HG.out HFR.out HNM.out HHAT.out HST.out
          rw [hrt] at HF2
          have hq : ((tr : Int) != (rr : Int)) = true := by simp only [bne_iff_ne, ne_eq]; omega
          clear hrt HSN HTK HCN HZ HMM hmn2 hmn
          go_wp2_with fail
          refine Calls.mono HF2.out ?_
          rintro r w2 ⟨rfl, h2⟩
          have H2 : Hid _ := h2
          clear h2
          go_wp2_with fail
          go_ret
          exact ⟨tr, rfl, H2.out⟩
end Go.Proofs.Ytaiaahcblohknaa
