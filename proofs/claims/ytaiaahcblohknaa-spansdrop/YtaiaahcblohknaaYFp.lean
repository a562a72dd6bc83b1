/- What is proved: plain facts on a forest: one tree a key over one list of nodes, those that are free hanging on one another: what putting in and taking out leave; no condition. -/
import Derived.Test.YtaiaahcblohknaaYFix
namespace Go.Proofs.Ytaiaahcblohknaa

/-- The free nodes, from fr on. -/
def Chn (N : List Nd) : Nat → List Nat → Prop
  | fr, [] => fr = 0
  | fr, p :: ps => fr = p ∧ p ≠ 0 ∧ ∃ n, N[p]? = some n ∧ Chn N n.l ps
theorem Chn.frame {N N' : List Nd} : ∀ {fr : Nat} {l : List Nat}, Chn N fr l → (∀ p ∈ l, N'[p]? = N[p]?) → Chn N' fr l
  | _, [], h, _ => h
  | _, p :: ps, ⟨h1, h2, n, h3, h4⟩, hf => ⟨h1, h2, n, (hf p (by simp)).trans h3, Chn.frame h4 fun q hq => hf q (by simp [hq])⟩
theorem Chn.mem {N : List Nd} : ∀ {fr : Nat} {l : List Nat}, Chn N fr l → ∀ p ∈ l, p ≠ 0 ∧ p < N.length
  | _, [], _, p, hp => by simp at hp
  | _, q :: ps, ⟨h1, h2, n, h3, h4⟩, p, hp => by
    rcases List.mem_cons.1 hp with rfl | hp
    · exact ⟨h2, (List.getElem?_eq_some_iff.1 h3).1⟩
    · exact Chn.mem h4 p hp
theorem kf_congr {k k' : ByteArray} (h : k.toList = k'.toList) (A : List Ks) : kf A k = kf A k' := by unfold kf; rw [h]
/-- A forest. -/
structure Fp (N : List Nd) (fr : Nat) (R : List UInt8 → PT) (FL : List Nat) (A : List Ks) : Prop where
  lay : ∀ k, Lay N (R k)
  bal : ∀ k, (R k).tr.Bal
  lst : ∀ k : ByteArray, (R k.toList).tr.list = kf A k
  nd : ∀ k, (R k).pl.Nodup
  dis : ∀ k k', k ≠ k' → ∀ p ∈ (R k).pl, p ∉ (R k').pl
  z : N[0]? = some nd0
  ch : Chn N fr FL
  fnd : FL.Nodup
  fdis : ∀ k, ∀ p ∈ FL, p ∉ (R k).pl
  wks : Wks A
  srt : ∀ k : ByteArray, Srt (kf A k)
theorem Fp.nil (fr : Nat) (h : fr = 0) : Fp [nd0] fr (fun _ => .nil) [] [] :=
  ⟨fun _ => trivial, fun _ => trivial, fun _ => rfl, fun _ => List.nodup_nil, fun _ _ _ p hp => by simp [PT.pl, PT.prs] at hp, rfl, h, List.nodup_nil, fun _ p hp => by simp at hp, List.Pairwise.nil, fun _ => List.Pairwise.nil⟩
/-- A place is given. -/
structure Grown (N' : List Nd) (fr' : Nat) (R : List UInt8 → PT) (FL' : List Nat) (q : Nat) (x : Sp) : Prop where
  q0 : q ≠ 0
  at_ : N'[q]? = some (ndOf .nil x .nil)
  z : N'[0]? = some nd0
  lay : ∀ k, Lay N' (R k)
  qR : ∀ k, q ∉ (R k).pl
  ch : Chn N' fr' FL'
  qF : q ∉ FL'
  fnd : FL'.Nodup
  fdis : ∀ k, ∀ p ∈ FL', p ∉ (R k).pl
theorem Fp.grow_new {N : List Nd} {R : List UInt8 → PT} {FL : List Nat} {A : List Ks} (h : Fp N 0 R FL A) (x : Sp) : Grown (N ++ [ndOf .nil x .nil]) 0 R [] N.length x := by
  have h0 := (List.getElem?_eq_some_iff.1 h.z).1
  have hold : ∀ p, p < N.length → (N ++ [ndOf .nil x .nil])[p]? = N[p]? := fun p hp => List.getElem?_append_left hp
  exact ⟨by omega, by simp, (hold 0 h0).trans h.z, fun k => (h.lay k).frame fun p hp => hold p ((h.lay k).mem p hp).2, fun k hk => by have := ((h.lay k).mem _ hk).2; omega, rfl, by simp, List.nodup_nil, fun _ p hp => by simp at hp⟩
theorem Fp.grow_free {N : List Nd} {fr : Nat} {R : List UInt8 → PT} {FL : List Nat} {A : List Ks} (h : Fp N fr R FL A) (hf : fr ≠ 0) {m : Nd} (hm : N[fr]? = some m) (x : Sp) : ∃ FL', Grown (N.set fr (ndOf .nil x .nil)) m.l R FL' fr x := by
  have hc := h.ch
  cases hFL : FL with
  | nil => rw [hFL] at hc; exact absurd hc hf
  | cons p ps =>
    rw [hFL] at hc
    obtain ⟨rfl, h2, n, h3, h4⟩ := hc
    obtain rfl : n = m := by rw [hm] at h3; exact (Option.some.inj h3).symm
    have hn := h.fnd
    rw [hFL] at hn
    obtain ⟨n1, n2⟩ := List.nodup_cons.1 hn
    have hq : ∀ k, fr ∉ (R k).pl := fun k => h.fdis k fr (by rw [hFL]; simp)
    exact ⟨ps, h2, set_here hm _, zero_set h.z h2 _, fun k => (h.lay k).frame fun p hp => set_there (ne_in hp (hq k)) _, hq, h4.frame fun p hp => set_there (ne_in hp n1) _, n1, n2, fun k p hp => h.fdis k p (by rw [hFL]; simp [hp])⟩
theorem Fp.free_node {N : List Nd} {fr : Nat} {R : List UInt8 → PT} {FL : List Nat} {A : List Ks} (h : Fp N fr R FL A) (hf : fr ≠ 0) : ∃ m, N[fr]? = some m := by
  have hc := h.ch
  cases hFL : FL with
  | nil => rw [hFL] at hc; exact absurd hc hf
  | cons p ps =>
    rw [hFL] at hc
    obtain ⟨rfl, h2, n, h3, h4⟩ := hc
    exact ⟨n, h3⟩
/-- One key's tree is another. -/
def upd (R : List UInt8 → PT) (k : List UInt8) (T : PT) : List UInt8 → PT := fun k' => if k' = k then T else R k'
theorem upd_same (R : List UInt8 → PT) (k : List UInt8) (T : PT) : upd R k T k = T := if_pos rfl
theorem upd_other (R : List UInt8 → PT) {k k' : List UInt8} (h : k' ≠ k) (T : PT) : upd R k T k' = R k' := if_neg h
/-- A span is put in. -/
theorem Fp.insert {N N' N'' : List Nd} {fr fr' : Nat} {R : List UInt8 → PT} {FL FL' : List Nat} {A : List Ks} (h : Fp N fr R FL A) {k : ByteArray} {x : Sp} {q : Nat} (g : Grown N' fr' R FL' q x) {T' : PT} (hc : Ch T'.pl N' N'') (hl : Lay N'' T') (ht : T'.tr = (R k.toList).tr.ins x) (hp : T'.prs.Perm ((q, x) :: (R k.toList).prs)) (hx : x ∉ kf A k) :
    Fp N'' fr' (upd R k.toList T') FL' (rput A ⟨k, x⟩) := by
  have pm : T'.pl.Perm (q :: (R k.toList).pl) := by
    show (T'.prs.map (fun z => z.1)).Perm (((q, x) :: (R k.toList).prs).map (fun z => z.1))
    exact List.Perm.map _ hp
  have ms : ∀ z, z ∈ T'.pl ↔ z = q ∨ z ∈ (R k.toList).pl := fun z => by rw [pm.mem_iff, List.mem_cons]
  have hS : Srt (R k.toList).tr.list := by rw [h.lst]; exact h.srt k
  have hx' : x ∉ (R k.toList).tr.list := by rw [h.lst]; exact hx
  have hother : ∀ k', k' ≠ k.toList → ∀ p ∈ (R k').pl, p ∉ T'.pl := fun k' hk p hp hq => by
    rcases (ms p).1 hq with e | e
    · exact g.qR k' (e ▸ hp)
    · exact h.dis k' k.toList hk p hp e
  have hfl : ∀ p ∈ FL', p ∉ T'.pl := fun p hp hq => by
    rcases (ms p).1 hq with e | e
    · exact g.qF (e ▸ hp)
    · exact g.fdis _ p hp e
  have z0 : 0 ∉ T'.pl := fun e => by
    rcases (ms 0).1 e with e | e
    · exact g.q0 e.symm
    · exact (h.lay _).zero_out e
  refine ⟨fun k' => ?_, fun k' => ?_, fun k' => ?_, fun k' => ?_, fun k1 k2 hne => ?_, (hc.get 0 z0).trans g.z, g.ch.frame fun p hp => hc.get p (hfl p hp), g.fnd, fun k' p hp => ?_, rput_wks h.wks _, fun k' => ?_⟩
  · by_cases e : k' = k.toList
    · rw [e, upd_same]; exact hl
    · rw [upd_other R e]; exact (g.lay k').frame fun p hp => hc.get p (hother k' e p hp)
  · by_cases e : k' = k.toList
    · rw [e, upd_same, ht]; exact (Tr.ins_bal (h.bal _) x).1
    · rw [upd_other R e]; exact h.bal k'
  · by_cases e : k'.toList = k.toList
    · rw [e, upd_same, ht, Tr.ins_list hS hx', h.lst, kf_congr e, rput_same h.wks rfl]
    · rw [upd_other R e, h.lst, rput_other (fun e' => e e'.symm)]
  · by_cases e : k' = k.toList
    · rw [e, upd_same]; exact pm.nodup_iff.2 (List.nodup_cons.2 ⟨g.qR _, h.nd _⟩)
    · rw [upd_other R e]; exact h.nd k'
  · by_cases e1 : k1 = k.toList
    · have e2 : k2 ≠ k.toList := fun e => hne (e1.trans e.symm)
      rw [e1, upd_same, upd_other R e2]
      exact fun p hp hq => hother k2 e2 p hq hp
    · rw [upd_other R e1]
      by_cases e2 : k2 = k.toList
      · rw [e2, upd_same]; exact hother k1 e1
      · rw [upd_other R e2]; exact h.dis k1 k2 hne
  · by_cases e : k' = k.toList
    · rw [e, upd_same]; exact hfl p hp
    · rw [upd_other R e]; exact g.fdis k' p hp
  · by_cases e : k'.toList = k.toList
    · rw [kf_congr e, rput_same h.wks rfl]; exact putL_srt (h.srt k) hx
    · rw [rput_other (fun e' => e e'.symm)]; exact h.srt k'
/-- Taken out of the document's list. -/
def rdel (A : List Ks) (k : ByteArray) (x : Sp) : List Ks := A.filter fun y => !(y.key.toList == k.toList && decide (y.s = x))
theorem kf_filter_same (A : List Ks) (k : ByteArray) (P : Sp → Bool) : kf (A.filter fun y => !(y.key.toList == k.toList && !P y.s)) k = (kf A k).filter P := by
  induction A with
  | nil => rfl
  | cons a r ih =>
    rw [List.filter_cons, kf_cons]
    by_cases hk : (a.key.toList == k.toList) = true
    · rw [if_pos hk]
      cases hp : P a.s
      · rw [if_neg (by simp [hk]), ih]
        simp [hp]
      · rw [if_pos (by simp), kf_cons, if_pos hk, ih]
        simp [hp]
    · rw [if_neg hk, if_pos (by simp [hk]), kf_cons, if_neg hk, ih]
      rfl
theorem kf_filter_other {A : List Ks} {k k' : ByteArray} (h : k'.toList ≠ k.toList) (P : Sp → Bool) : kf (A.filter fun y => !(y.key.toList == k.toList && !P y.s)) k' = kf A k' := by
  induction A with
  | nil => rfl
  | cons a r ih =>
    rw [List.filter_cons, kf_cons a r]
    by_cases hk : (a.key.toList == k'.toList) = true
    · have h1 : (a.key.toList == k.toList) = false := by
        rw [beq_iff_eq.1 hk]; simpa using h
      rw [if_pos hk, if_pos (by simp [h1]), kf_cons, if_pos hk, ih]
    · rw [if_neg hk]
      split
      · rw [kf_cons, if_neg hk, ih]
      · rw [ih]; rfl
theorem rdel_eq (A : List Ks) (k : ByteArray) (x : Sp) : rdel A k x = A.filter fun y => !(y.key.toList == k.toList && !(decide (y.s ≠ x))) := by
  unfold rdel
  congr 1
  funext y
  by_cases h : y.s = x <;> simp [h]
theorem rdel_same (A : List Ks) (k : ByteArray) (x : Sp) : kf (rdel A k x) k = (kf A k).filter fun y => decide (y ≠ x) := by
  rw [rdel_eq]; exact kf_filter_same A k (fun z => decide (z ≠ x))
theorem rdel_other {A : List Ks} {k k' : ByteArray} (h : k'.toList ≠ k.toList) (x : Sp) : kf (rdel A k x) k' = kf A k' := by
  rw [rdel_eq]; exact kf_filter_other h (fun z => decide (z ≠ x))
/-- A span is taken out. -/
theorem Fp.take {N N' : List Nd} {fr : Nat} {R : List UInt8 → PT} {FL : List Nat} {A : List Ks} (h : Fp N fr R FL A) {k : ByteArray} {x : Sp} {q : Nat} {T' : PT} {n : Nd} (hc : Ch (R k.toList).pl N N') (hl : Lay N' T') (ht : T'.tr = Tr.del Tr.joinG (R k.toList).tr x) (hp : (R k.toList).prs.Perm ((q, x) :: T'.prs)) (hq : N'[q]? = some n) (hn : n.l = fr) :
    Fp N' q (upd R k.toList T') (q :: FL) (rdel A k x) := by
  have pm : (R k.toList).pl.Perm (q :: T'.pl) := by
    show ((R k.toList).prs.map (fun z => z.1)).Perm (((q, x) :: T'.prs).map (fun z => z.1))
    exact List.Perm.map _ hp
  have hqT : q ∈ (R k.toList).pl := pm.mem_iff.2 (by simp)
  have sub : ∀ z, z ∈ T'.pl → z ∈ (R k.toList).pl := fun z hz => pm.mem_iff.2 (by simp [hz])
  obtain ⟨d1, d2⟩ := List.nodup_cons.1 (pm.nodup_iff.1 (h.nd _))
  have hS : Srt (R k.toList).tr.list := by rw [h.lst]; exact h.srt k
  refine ⟨fun k' => ?_, fun k' => ?_, fun k' => ?_, fun k' => ?_, fun k1 k2 hne => ?_, (hc.get 0 (h.lay _).zero_out).trans h.z, ⟨rfl, ((h.lay _).mem q hqT).1, n, hq, by rw [hn]; exact h.ch.frame fun p hp => hc.get p (h.fdis _ p hp)⟩, List.nodup_cons.2 ⟨fun e => h.fdis _ q e hqT, h.fnd⟩, fun k' p hp => ?_, List.Pairwise.sublist List.filter_sublist h.wks, fun k' => ?_⟩
  · by_cases e : k' = k.toList
    · rw [e, upd_same]; exact hl
    · rw [upd_other R e]; exact (h.lay k').frame fun p hp => hc.get p (h.dis k' k.toList e p hp)
  · by_cases e : k' = k.toList
    · rw [e, upd_same, ht]; exact (Tr.del_bal Tr.joinG_ok (h.bal _) x).1
    · rw [upd_other R e]; exact h.bal k'
  · by_cases e : k'.toList = k.toList
    · rw [e, upd_same, ht, Tr.del_list Tr.joinG_ok hS, h.lst, kf_congr e, rdel_same]
    · rw [upd_other R e, h.lst, rdel_other e]
  · by_cases e : k' = k.toList
    · rw [e, upd_same]; exact d2
    · rw [upd_other R e]; exact h.nd k'
  · by_cases e1 : k1 = k.toList
    · have e2 : k2 ≠ k.toList := fun e => hne (e1.trans e.symm)
      rw [e1, upd_same, upd_other R e2]
      exact fun p hp hq => h.dis k2 k.toList e2 p hq (sub p hp)
    · rw [upd_other R e1]
      by_cases e2 : k2 = k.toList
      · rw [e2, upd_same]; exact fun p hp hq => h.dis k1 k.toList e1 p hp (sub p hq)
      · rw [upd_other R e2]; exact h.dis k1 k2 hne
  · by_cases e : k' = k.toList
    · rw [e, upd_same]
      rcases List.mem_cons.1 hp with rfl | hp
      · exact d1
      · exact fun hq => h.fdis _ p hp (sub p hq)
    · rw [upd_other R e]
      rcases List.mem_cons.1 hp with rfl | hp
      · exact fun hq => h.dis k' k.toList e p hq hqT
      · exact h.fdis k' p hp
  · by_cases e : k'.toList = k.toList
    · rw [kf_congr e, rdel_same]; exact (h.srt k).sublist List.filter_sublist
    · rw [rdel_other e]; exact h.srt k'
end Go.Proofs.Ytaiaahcblohknaa
