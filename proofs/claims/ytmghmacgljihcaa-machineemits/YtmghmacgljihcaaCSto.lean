/- What is proved: a store of chains in memory: what a look-up finds, what laying a chain leaves; no two chains share memory. -/
import Derived.Test.YtmghmacgljihcaaCSrch
import Derived.Maps.OwnSet
import Derived.Maps.RangeWalk
import Derived.Sort.KeysCollected
import Derived.DeepKeys4
namespace Go.Proofs.Ytmghmacgljihcaa
open Go.RowKit

/-- How an element reads: as the value that it is. -/
def rawE : Value → Option (DataW Value × List MemPlace) := fun v => some (.held v, [])
theorem Try.keyedS : Go.Maps.Keyed Try.prog 9 := Go.Maps.string_keyed Try.underlying9
theorem Try.zeroVs (w : World) : (zeroValue 94).run Try.prog w = .ok (.slice none 0 0) w := by kernel_rfl
theorem Try.zeroU (w : World) : (zeroValue 117).run Try.prog w = .ok (.agg #[]) w := by kernel_rfl
/-- What a key reads as. -/
abbrev kl (k : ByteArray) : Lit := .string k.data.toList
theorem key_of {k : ByteArray} (h : k.size ≤ maxLen) : keyOf Try.prog 9 (.string k) = some (kl k) := by
  simp [keyOf, Try.underlying9, mapKey, h]
theorem kl_ne {k k' : ByteArray} (h : k.toList ≠ k'.toList) : kl k ≠ kl k' := fun e => h (by
  rw [ByteArray.toList_eq, ByteArray.toList_eq]
  simpa using e)
theorem kl_eq {k k' : ByteArray} (h : k.toList = k'.toList) : kl k = kl k' := by
  rw [ByteArray.toList_eq, ByteArray.toList_eq] at h
  simp [kl, h]
theorem kl_mk (x : List UInt8) : kl ⟨x.toArray⟩ = .string x := rfl
theorem kl_key (k : ByteArray) : WideAt.IsKeyLit (kl k) := trivial
/-- How many entries: just as many as it reads. -/
theorem tight {H : Type} {P : Program} {k : TypeId} {R : Value → Option (DataW H × List MemPlace)} {w : World} {b n : Nat} {D : DataW H} (h : w.ownsMap P k R b n D) : w.ownsMap P k R b (Go.Maps.size D) D := by
  obtain ⟨es, clock, hb, F, _, rfl⟩ := h
  exact ⟨es, clock, hb, F, by simp [Go.Maps.size, length_sorted], rfl⟩
theorem owns_same {H : Type} {P : Program} {k : TypeId} {R : Value → Option (DataW H × List MemPlace)} {w w' : World} {b n : Nat} {D : DataW H} (h : w.ownsMap P k R b n D) (hb : w'.heap[b]? = w.heap[b]?) : w'.ownsMap P k R b n D := by
  obtain ⟨es, clock, e, r⟩ := h
  exact ⟨es, clock, hb.trans e, r⟩
theorem same_turned {w w' : World} {b : Nat} (h : w.mapTurned w' b) : Same (fun k => k = b) w w' := Same.of_grown h.grown fun k e => by cases e; rfl
theorem nodup_le {α : Type} [DecidableEq α] : ∀ {l m : List α}, l.Nodup → (∀ x ∈ l, x ∈ m) → l.length ≤ m.length
  | [], _, _, _ => Nat.zero_le _
  | a :: l, m, hn, hs => by
    obtain ⟨h1, h2⟩ := List.nodup_cons.1 hn
    have ha := hs a (by simp)
    have := nodup_le (l := l) (m := m.erase a) h2 fun x hx => (List.mem_erase_of_ne (fun e => h1 (by rw [← e]; exact hx))).2 (hs x (by simp [hx]))
    rw [List.length_erase_of_mem ha] at this
    have := List.length_pos_of_mem ha
    simp only [List.length_cons]
    omega

/-- A store in memory, but for its list of the keys with several versions: F: its blocks; n: the number that it holds as its count; X: the key whose chain is under way. -/
structure Sc (X : Option (List UInt8)) (F : Nat → Prop) (w : World) (sb cb lb : Nat) (n : Int) (A : List En) (D : DataW Value) : Prop where
  obj : w.heap[sb]? = some (.cells #[.map (some cb), .map (some lb), .int .i64 n] 92 (0, 0))
  fs : F sb
  fc : F cb
  fl : F lb
  ne : cb ≠ lb
  own : w.ownsMap Try.prog 9 rawE cb (Go.Maps.size D) D
  sz : Go.Maps.size D ≤ A.length ∨ X ≠ none
  at_ : ∀ k : ByteArray, X ≠ some k.toList → (ch A k = [] ∧ Go.Maps.has D (kl k) = false) ∨ (ch A k ≠ [] ∧ ∃ v, (∀ zd, D.atKey (kl k) zd = .held v) ∧ OwnV 0 w v (ch A k) ∧ ∀ b, v.ownBlock = some b → F b)
  apart : ∀ (k k' : ByteArray) v v' g, X ≠ some k.toList → X ≠ some k'.toList → k.toList ≠ k'.toList → (∀ zd, D.atKey (kl k) zd = .held v) → (∀ zd, D.atKey (kl k') zd = .held v') → v.ownBlock = some g → v'.ownBlock ≠ some g
  good : Good A
  lt : ∀ b, F b → b < w.heap.size
theorem Sc.cells {X : Option (List UInt8)} {F : Nat → Prop} {w : World} {sb cb lb : Nat} {n : Int} {A : List En} {D : DataW Value} (h : Sc X F w sb cb lb n A D) :
    (w.cell? ⟨sb, 0, none⟩ = some (.map (some cb)) ∧ w.cell? ⟨sb, 1, none⟩ = some (.map (some lb)) ∧ w.cell? ⟨sb, 2, none⟩ = some (.int .i64 n)) ∧ w.frozen? ⟨sb, 2, none⟩ = false ∧ sb < w.heap.size :=
  ⟨⟨(cell_of h.obj 0).trans rfl, (cell_of h.obj 1).trans rfl, (cell_of h.obj 2).trans rfl⟩, frozen_of h.obj 2, lt_of_heap h.obj⟩
theorem Sc.kept {X : Option (List UInt8)} {F : Nat → Prop} {w w' : World} {sb cb lb : Nat} {n : Int} {A : List En} {D : DataW Value} (h : Sc X F w sb cb lb n A D) {S : Nat → Prop} (hs : Same S w w') (hsb : ¬ S sb) (hcb : ¬ S cb)
    (hr : ∀ (k : ByteArray) v b, X ≠ some k.toList → (∀ zd, D.atKey (kl k) zd = .held v) → v.ownBlock = some b → ¬ S b) : Sc X F w' sb cb lb n A D where
  obj := (hs.block _ (lt_of_heap h.obj) hsb).trans h.obj
  fs := h.fs
  fc := h.fc
  fl := h.fl
  ne := h.ne
  own := owns_same h.own (hs.block _ h.own.lt hcb)
  sz := h.sz
  at_ := fun k hk => by
    rcases h.at_ k hk with h1 | ⟨h1, v, h2, h3, h4⟩
    · exact .inl h1
    · exact .inr ⟨h1, v, h2, OwnV.kept h3 hs (fun b hb => hr k v b hk h2 hb), h4⟩
  apart := h.apart
  good := h.good
  lt := fun b hb => Nat.lt_of_lt_of_le (h.lt b hb) hs.size
theorem Sc.on {X : Option (List UInt8)} {F : Nat → Prop} {w w' : World} {sb cb lb : Nat} {n : Int} {A : List En} {D : DataW Value} (h : Sc X F w sb cb lb n A D) (hs : Kept w w') : Sc X F w' sb cb lb n A D := h.kept hs (fun e => e) (fun e => e) (fun _ _ _ _ _ _ e => e)
/-- .. while none of its blocks turns. -/
theorem Sc.off {X : Option (List UInt8)} {F : Nat → Prop} {w w' : World} {sb cb lb : Nat} {n : Int} {A : List En} {D : DataW Value} (h : Sc X F w sb cb lb n A D) {S : Nat → Prop} (hs : Same S w w') (hd : ∀ b, F b → ¬ S b) : Sc X F w' sb cb lb n A D :=
  h.kept hs (hd _ h.fs) (hd _ h.fc) fun k v b hk hv hb hS => by
    rcases h.at_ k hk with ⟨_, h2⟩ | ⟨_, v', h2, _, h4⟩
    · rw [Go.Maps.has_true_of_atKey hv] at h2; cases h2
    · have e := (hv .nil).symm.trans (h2 .nil)
      simp only [DataW.held.injEq] at e
      subst e
      exact hd _ (h4 b hb) hS
theorem Sc.size_le {F : Nat → Prop} {w : World} {sb cb lb : Nat} {n : Int} {A : List En} {D : DataW Value} (h : Sc none F w sb cb lb n A D) : Go.Maps.size D ≤ A.length := by
  rcases h.sz with h | h
  · exact h
  · exact absurd rfl h
/-- What a look-up finds. -/
theorem Sc.look {X : Option (List UInt8)} {F : Nat → Prop} {w : World} {sb cb lb : Nat} {n : Int} {A : List En} {D : DataW Value} (h : Sc X F w sb cb lb n A D) {k : ByteArray} (hk : k.size ≤ maxLen) (hx : X ≠ some k.toList) :
    ∃ v, (Instr.lookup 89 (.map (some cb)) (.string k) false).run Try.prog w = .ok v w ∧ OwnV 0 w v (ch A k) ∧ (∀ b, v.ownBlock = some b → F b) ∧ (ch A k ≠ [] → ∀ zd, D.atKey (kl k) zd = .held v) ∧ (ch A k = [] → v = .slice none 0 0) := by
  obtain ⟨v, ps, hrun, hv⟩ := h.own.lookup Try.keyedS Try.underlying89 (Try.zeroVs w) (zd := .held (.slice none 0 0)) (zp := []) rfl (key_of hk)
  simp only [rawE, Option.some.injEq, Prod.mk.injEq] at hv
  rcases h.at_ k hx with ⟨h1, h2⟩ | ⟨h1, v', h2, h3, h4⟩
  · have e := hv.1.trans (Go.Maps.atKey_of_not_has h2 _)
    simp only [DataW.held.injEq] at e
    subst e
    refine ⟨_, hrun, by rw [h1]; exact OwnV.nil 0 w, fun b hb => by simp [Value.ownBlock] at hb, (fun hn => absurd h1 hn), fun _ => rfl⟩
  · have e := hv.1.trans (h2 _)
    simp only [DataW.held.injEq] at e
    subst e
    exact ⟨_, hrun, h3, h4, (fun _ => h2), fun hn => absurd hn h1⟩
/-- One chain is set aside. -/
theorem Sc.but {F : Nat → Prop} {w : World} {sb cb lb : Nat} {n : Int} {A : List En} {D : DataW Value} (h : Sc none F w sb cb lb n A D) (k : ByteArray) : Sc (some k.toList) F w sb cb lb n A D :=
  ⟨h.obj, h.fs, h.fc, h.fl, h.ne, h.own, .inr (by simp), fun k' _ => h.at_ k' (by simp), fun k1 k2 v v' g _ _ => h.apart k1 k2 v v' g (by simp) (by simp), h.good, h.lt⟩
theorem strKeys_mem {D : DataW Value} {w : World} {cb n : Nat} (h : w.ownsMap Try.prog 9 rawE cb n D) (x : List UInt8) : x ∈ strKeys D ↔ Go.Maps.has D (.string x) = true := by
  obtain ⟨es, hD, hpw, _⟩ := h.entries Try.keyedS
  obtain ⟨es', hD', hko⟩ := h.keysOf
  obtain rfl : es = es' := by rw [hD] at hD'; simpa using hD'
  subst hD
  have hk : ∀ p ∈ es, ∃ x, p.1 = .string x := fun p hp => by obtain ⟨v, hv⟩ := hko p hp; obtain ⟨x, _, hx, _⟩ := Maps.keyOf_str Try.underlying9 hv; exact ⟨x, hx⟩
  rw [Go.Maps.has_eq, List.any_eq_true]
  show x ∈ es.map (fun p => strOf p.1) ↔ _
  rw [List.mem_map]
  constructor
  · rintro ⟨p, hp', rfl⟩
    obtain ⟨a, ha⟩ := hk p hp'
    exact ⟨p, hp', by rw [ha]; simp [Lit.sameKey, strOf]⟩
  · rintro ⟨p, hp', hs⟩
    obtain ⟨a, ha⟩ := hk p hp'
    rw [ha] at hs
    exact ⟨p, hp', by rw [ha]; simpa [Lit.sameKey, strOf] using hs⟩
theorem strKeys_nodup {D : DataW Value} {w : World} {cb n : Nat} {R : Value → Option (DataW Value × List MemPlace)} (h : w.ownsMap Try.prog 9 R cb n D) : (strKeys D).Nodup ∧ (strKeys D).length = Go.Maps.size D := by
  obtain ⟨es, hD, hpw, _⟩ := h.entries Try.keyedS
  obtain ⟨es', hD', hko⟩ := h.keysOf
  obtain rfl : es = es' := by rw [hD] at hD'; simpa using hD'
  subst hD
  have hk : ∀ p ∈ es, ∃ x, p.1 = .string x := fun p hp => by obtain ⟨v, hv⟩ := hko p hp; obtain ⟨x, _, hx, _⟩ := Maps.keyOf_str Try.underlying9 hv; exact ⟨x, hx⟩
  refine ⟨?_, by simp [strKeys, Go.Maps.size]⟩
  show (es.map fun p => strOf p.1).Nodup
  refine List.pairwise_map.2 (hpw.imp_of_mem fun {p q} hp' hq' hne e => hne ?_)
  obtain ⟨a, ha⟩ := hk p hp'
  obtain ⟨b, hb⟩ := hk q hq'
  rw [ha, hb] at e ⊢
  exact congrArg _ e
theorem key_in {A : List En} {x : List UInt8} (h : ch A ⟨x.toArray⟩ ≠ []) : x ∈ A.map (·.key.toList) := by
  obtain ⟨e, he, h2⟩ := ch_ne_nil.1 h
  exact List.mem_map.2 ⟨e, he, h2.trans (ByteArray.toList_mk x)⟩
/-- A chain is laid. -/
theorem Sc.put {F F' : Nat → Prop} {w : World} {sb cb lb : Nat} {n : Int} {A A' : List En} {D : DataW Value} {k : ByteArray} (h : Sc (some k.toList) F w sb cb lb n A D) (hk : k.size ≤ maxLen) (hsz : Go.Maps.size D < maxLen) (hg : Good A')
    (hoth : ∀ k' : ByteArray, k'.toList ≠ k.toList → ch A' k' = ch A k') (hne : ch A' k ≠ []) {v' : Value} (hv : OwnV 0 w v' (ch A' k)) (hF : ∀ b, F b → F' b) (hF' : ∀ b, v'.ownBlock = some b → F' b) (hlt : ∀ b, F' b → b < w.heap.size)
    (hap : ∀ (k' : ByteArray) v g, k'.toList ≠ k.toList → (∀ zd, D.atKey (kl k') zd = .held v) → v'.ownBlock = some g → v.ownBlock ≠ some g) :
    ∃ w', (Instr.mapUpdate 89 (.map (some cb)) (.string k) v').run Try.prog w = .ok () w' ∧ Sc none F' w' sb cb lb n A' (D.put (kl k) (.held v')) ∧ Same (fun b => b = cb) w w' ∧ w'.heap.size = w.heap.size := by
  obtain ⟨w', hrun, r1, r2⟩ := h.own.store Try.keyedS Try.underlying89 hsz (key_of hk) (d := .held v') (ps := []) rfl
  have hs := same_turned r2
  have hme : ∀ (v : Value) (l : List Vn) b, OwnV 0 w v l → v.ownBlock = some b → b ≠ cb := fun v l b ho hb e => by
    obtain ⟨_, cur, hc⟩ := OwnV.block ho hb
    obtain ⟨es, clock, hm, _⟩ := h.own
    rw [e, hm] at hc
    cases hc
  have hx : ∀ k' : ByteArray, k'.toList ≠ k.toList → some k.toList ≠ some k'.toList := fun k' h e => h (Option.some.inj e).symm
  have hat : ∀ k' : ByteArray, (ch A' k' = [] ∧ Go.Maps.has (D.put (kl k) (.held v')) (kl k') = false) ∨ (ch A' k' ≠ [] ∧ ∃ v, (∀ zd, (D.put (kl k) (.held v')).atKey (kl k') zd = .held v) ∧ OwnV 0 w' v (ch A' k') ∧ ∀ b, v.ownBlock = some b → F' b) := fun k' => by
    by_cases e : k'.toList = k.toList
    · refine .inr ⟨by rw [ch_congr e]; exact hne, v', fun zd => by rw [kl_eq e]; exact Go.Maps.atKey_put_same h.own.isMap (kl_key k) _ _, ?_, hF'⟩
      rw [ch_congr e]
      exact OwnV.kept hv hs (fun b hb => hme _ _ b hv hb)
    · rw [hoth k' e]
      rcases h.at_ k' (hx k' e) with ⟨h1, h2⟩ | ⟨h1, v, h2, h3, h4⟩
      · exact .inl ⟨h1, by rw [Go.Maps.has_put_other (kl_ne e)]; exact h2⟩
      · exact .inr ⟨h1, v, fun zd => by rw [Go.Maps.atKey_put_other (kl_ne e)]; exact h2 zd, OwnV.kept h3 hs (fun b hb => hme _ _ b h3 hb), fun b hb => hF b (h4 b hb)⟩
  have hat2 : ∀ (k' : ByteArray) v, (∀ zd, (D.put (kl k) (.held v')).atKey (kl k') zd = .held v) → (k'.toList = k.toList ∧ v = v') ∨ (k'.toList ≠ k.toList ∧ ∀ zd, D.atKey (kl k') zd = .held v) := fun k' v hv => by
    by_cases e : k'.toList = k.toList
    · refine .inl ⟨e, ?_⟩
      have := hv .nil
      rw [kl_eq e, Go.Maps.atKey_put_same h.own.isMap (kl_key k)] at this
      simpa using this.symm
    · exact .inr ⟨e, fun zd => by have := hv zd; rwa [Go.Maps.atKey_put_other (kl_ne e)] at this⟩
  have hsz' : w'.heap.size = w.heap.size := by
    obtain ⟨_, _, _, _, _, rfl⟩ := r2
    simp [ChangeMaps.setBlock]
  refine ⟨w', hrun, ⟨?_, hF _ h.fs, hF _ h.fc, hF _ h.fl, h.ne, tight r1, .inl ?_, fun k' _ => hat k', ?_, hg, fun b hb => by rw [hsz']; exact hlt b hb⟩, hs, hsz'⟩
  · refine (hs.block _ (lt_of_heap h.obj) fun e => ?_).trans h.obj
    obtain ⟨es, clock, hm, _⟩ := h.own
    rw [← e, h.obj] at hm
    cases hm
  · obtain ⟨n1, n2⟩ := strKeys_nodup r1
    rw [← n2]
    refine Nat.le_trans (nodup_le n1 (m := A'.map (·.key.toList)) fun x hx => ?_) (by simp)
    have := (strKeys_mem r1 x).1 hx
    rcases hat ⟨x.toArray⟩ with ⟨_, h2⟩ | ⟨h1, _⟩
    · rw [kl_mk, this] at h2; cases h2
    · exact key_in h1
  · intro k1 k2 v1 v2 g _ _ hne12 hv1 hv2 hb1 hb2
    rcases hat2 k1 v1 hv1 with ⟨e1, rfl⟩ | ⟨e1, q1⟩ <;> rcases hat2 k2 v2 hv2 with ⟨e2, rfl⟩ | ⟨e2, q2⟩
    · exact hne12 (e1.trans e2.symm)
    · exact hap k2 v2 g e2 q2 hb1 hb2
    · exact hap k1 v1 g e1 q1 hb2 hb1
    · exact h.apart k1 k2 v1 v2 g (hx k1 e1) (hx k2 e2) hne12 q1 q2 hb1 hb2
/-- The keys with several versions. -/
structure Lk (A : List En) (DL : DataW Value) : Prop where
  some_ : ∀ k : ByteArray, Go.Maps.has DL (kl k) = true → ch A k ≠ []
  long : ∀ k : ByteArray, 2 ≤ (ch A k).length → Go.Maps.has DL (kl k) = true
/-- A store in memory. -/
def St (F : Nat → Prop) (w : World) (sb : Nat) (A : List En) : Prop :=
  ∃ cb lb D DL, Sc none F w sb cb lb A.length A D ∧ w.ownsMap Try.prog 9 unitElem lb (Go.Maps.size DL) DL ∧ Lk A DL
theorem St.good {F : Nat → Prop} {w : World} {sb : Nat} {A : List En} (h : St F w sb A) : Good A := by
  obtain ⟨cb, lb, D, DL, h, _⟩ := h
  exact h.good
theorem St.lt {F : Nat → Prop} {w : World} {sb : Nat} {A : List En} (h : St F w sb A) : ∀ b, F b → b < w.heap.size := by
  obtain ⟨cb, lb, D, DL, h, _⟩ := h
  exact h.lt
theorem St.off {F : Nat → Prop} {w w' : World} {sb : Nat} {A : List En} (h : St F w sb A) {S : Nat → Prop} (hs : Same S w w') (hd : ∀ b, F b → ¬ S b) : St F w' sb A := by
  obtain ⟨cb, lb, D, DL, h, hl, hk⟩ := h
  exact ⟨cb, lb, D, DL, h.off hs hd, owns_same hl (hs.block _ hl.lt (hd _ h.fl)), hk⟩
theorem St.on {F : Nat → Prop} {w w' : World} {sb : Nat} {A : List En} (h : St F w sb A) (hs : Kept w w') : St F w' sb A := h.off hs fun _ _ e => e
theorem Lk.size_le {A : List En} {DL : DataW Value} (h : Lk A DL) {w : World} {lb n : Nat} (ho : w.ownsMap Try.prog 9 unitElem lb n DL) : Go.Maps.size DL ≤ A.length := by
  obtain ⟨n1, n2⟩ := strKeys_nodup ho
  rw [← n2]
  refine Nat.le_trans (nodup_le n1 (m := A.map (·.key.toList)) fun x hx => ?_) (by simp)
  obtain ⟨es, hD, hpw, _⟩ := ho.entries Try.keyedS
  obtain ⟨es', hD', hko⟩ := ho.keysOf
  obtain rfl : es = es' := by rw [hD] at hD'; simpa using hD'
  subst hD
  have hh : Go.Maps.has (DataW.map es) (.string x) = true := by
    rw [Go.Maps.has_eq, List.any_eq_true]
    obtain ⟨p, hp', rfl⟩ := List.mem_map.1 (show x ∈ es.map (fun p => strOf p.1) from hx)
    obtain ⟨v, hv⟩ := hko p hp'
    obtain ⟨a, _, ha, _⟩ := Maps.keyOf_str Try.underlying9 hv
    exact ⟨p, hp', by rw [ha]; simp [Lit.sameKey, strOf]⟩
  exact key_in (h.some_ ⟨x.toArray⟩ (by rw [kl_mk]; exact hh))
end Go.Proofs.Ytmghmacgljihcaa
