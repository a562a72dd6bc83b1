/- What is proved: plain facts on the law ReportList: what it keeps of a list, that the sorted list is right, that two changed places make it wrong; in any program: a row grows by one element, two elements change places; no condition. -/
import Derived.Test.YtfhaiklfbnfdlabDoorRpE
import Derived.Test.YtfhaiklfbnfdlabDoorRoG
import Derived.Test.YtfhaiklfbnfdlabDoorVrS
namespace Go.Proofs.YtfhaiklfbnfdlabDoor
open Go.RowKit

/-- What the law keeps of the first j elements. -/
def kp (l : List Vi.Vl) (j : Nat) : List Vi.Vl := ((l.take j).filter Vi.okV).take 10000
theorem kp_len (l : List Vi.Vl) (j : Nat) : (kp l j).length ≤ 10000 := by
  unfold kp
  rw [List.length_take]
  omega
theorem take_x {l : List Vi.Vl} {j : Nat} {x : Vi.Vl} (hx : l[j]? = some x) : l.take (j + 1) = l.take j ++ [x] := by
  rw [List.take_add_one, hx]
  rfl
theorem kp_no {l : List Vi.Vl} {j : Nat} {x : Vi.Vl} (hx : l[j]? = some x) (h : Vi.okV x = false) : kp l (j + 1) = kp l j := by
  unfold kp
  rw [take_x hx, List.filter_append]
  simp [h]
theorem kp_full {l : List Vi.Vl} {j : Nat} {x : Vi.Vl} (hx : l[j]? = some x) (hf : ¬ (kp l j).length < 10000) : kp l (j + 1) = kp l j := by
  unfold kp at hf ⊢
  rw [List.length_take] at hf
  rw [take_x hx, List.filter_append, List.take_append_of_le_length (by omega)]
theorem kp_yes {l : List Vi.Vl} {j : Nat} {x : Vi.Vl} (hx : l[j]? = some x) (h : Vi.okV x = true) (hf : (kp l j).length < 10000) : kp l (j + 1) = kp l j ++ [x] := by
  unfold kp at hf ⊢
  rw [List.length_take] at hf
  rw [take_x hx, List.filter_append, List.take_of_length_le (l := (l.take j).filter Vi.okV) (by omega)]
  have e : [x].filter Vi.okV = [x] := by simp [h]
  rw [e, List.take_of_length_le (by rw [List.length_append]; simp; omega)]
theorem kp_ok (l : List Vi.Vl) (j : Nat) : ∀ x ∈ kp l j, Vi.okV x = true := fun x hx => by
  unfold kp at hx
  have := List.mem_of_mem_take hx
  exact (List.mem_filter.1 this).2
theorem srt_allV {K : List Vi.Vl} (h : ∀ x ∈ K, Vi.okV x = true) : allV (Vi.srt Vi.ltV K) = true := by
  unfold allV
  rw [List.all_eq_true]
  exact fun x hx => h x ((Vi.srt_perm Vi.ltV K).mem_iff.1 hx)
theorem srt_srd (K : List Vi.Vl) : Vi.srd (Vi.srt Vi.ltV K) = true := by
  rw [srd_iff]
  intro i x y hx hy
  obtain ⟨h1, rfl⟩ := List.getElem?_eq_some_iff.1 hx
  obtain ⟨h2, rfl⟩ := List.getElem?_eq_some_iff.1 hy
  exact List.pairwise_iff_getElem.1 (Vi.srt_pw Vi.ltV_swo K) i (i + 1) h2 h1 (by omega)
/-- The outcome that the law makes. -/
abbrev oL (total : Int) (ls : List Vi.Vl) : OuM := ⟨9, 0, 0, 5, total, ls⟩
theorem oL_ok (total : Int) {K : List Vi.Vl} (h : ∀ x ∈ K, Vi.okV x = true) (hn : K.length ≤ 10000) : okO (oL total (Vi.srt Vi.ltV K)) = true ↔ (1 ≤ total ∧ total ≤ 1099511627776) ∧ ((Vi.srt Vi.ltV K).length : Int) ≤ total := by
  rw [okO_P]
  constructor
  · rintro ⟨h1, -⟩
    have h2 := h1.2.2.2.2.2.2.2.1 rfl
    exact ⟨h2.1, h2.2.1⟩
  · rintro ⟨h1, h2⟩
    refine ⟨?_, srt_allV h, srt_srd K⟩
    have h3 := Vi.srt_len Vi.ltV K
    unfold OkP
    dsimp only at *
    omega
theorem oL_sw {total : Int} {S : List Vi.Vl} {i : Nat} {x y : Vi.Vl} (hx : S[i]? = some x) (hy : S[i + 1]? = some y) (hl : Vi.ltV x y = true) : okO (oL total ((S.set i y).set (i + 1) x)) = false := by
  cases hb : okO (oL total ((S.set i y).set (i + 1) x)) with
  | false => rfl
  | true =>
    have h := (srd_iff _).1 ((okO_P _).1 hb).2.2
    have h1 := (List.getElem?_eq_some_iff.1 hx).1
    have h2 := (List.getElem?_eq_some_iff.1 hy).1
    have e := h i x y (by simp [h2]) (by simp [h1])
    rw [hl] at e
    cases e
theorem rendT_no {o : OuM} (h : okO o = false) : rendT o = ([], 220) := by
  unfold rendT
  rw [h]
  rfl
theorem rendT_ok {o : OuM} (h : okO o = true) : rendT o = (outL o, 0) := by
  unfold rendT
  rw [h]
  rfl
end Go.Proofs.YtfhaiklfbnfdlabDoor
namespace Go.Proofs.YtfhaiklfbnfdlabDoor.Vi
open Go.RowKit

variable {α : Type} [Inhabited α] {enc : α → List Value} {k : Nat}
omit [Inhabited α] in
theorem Own.app1 (E : Ek enc k) {P : Program} {t ty T : TypeId} {z : Value} {bytes : Nat} (ht : P.underlying t = some (.slice T)) (hi : (P.info? T).map (fun i => (i.zero, i.size, i.bytes)) = some (some z, k, bytes)) (hzs : z.cells.size = k)
    {w : World} {base : Nat} {v : Value} {xs : List α} (hown : Own enc k T base w v xs) {g : Nat} {y : α} {ty' : TypeId} (hg : w.heap[g]? = some (.cells (enc y).toArray ty' (0, 0))) {c : Nat} (hb : ((xs.length + 1) + (xs.length + 1) / 4 + 192) * bytes ≤ 281474976710656) (hm : xs.length + 1 ≤ maxLen) (hbase : base ≤ w.heap.size) :
    ∃ v' w', (Builtin.append_ #[t, t] ty #[v, .slice (some ⟨g, 0, none⟩) 1 c]).run P w = .ok v' w' ∧ Own enc k T base w' v' (xs ++ [y]) ∧ Same (fun k => v.ownBlock = some k) w w' ∧ (∀ k, v'.ownBlock = some k → v.ownBlock = some k ∨ w.heap.size ≤ k) := by
  have hc : ∀ j u, (fl enc [y])[j]? = some u → w.cell? ((⟨g, 0, none⟩ : Addr).add j) = some u := fun j u hu => by
    rw [Addr.add_lit, Nat.zero_add, cell_of hg]
    simpa [fl] using hu
  have hl : (fl enc [y]).length = 1 * k := length_fl E [y]
  obtain ⟨v', w', hr, r1, r2, r3, -⟩ := Ch.app_wide (P := P) (t := t) (ty := ty) (c := c) (m := 1) (a := ⟨g, 0, none⟩) (news := fl enc [y]) ht hi hzs E.pos hown hl hc (fl_one E [y]) hm hb hbase
  refine ⟨v', w', hr, ⟨by rw [length_fl E], ?_⟩, r2, r3⟩
  have := r1.2
  rw [fl_append, List.length_append]
  exact this
omit [Inhabited α] in
theorem Own.ltg {T : TypeId} {base : Nat} {w : World} {g m cap : Nat} {l : List α} (h : Own enc k T base w (.slice (some ⟨g, 0, none⟩) m cap) l) : base ≤ g ∧ g < w.heap.size ∧ m = l.length := by
  rcases h.2 with ⟨e0, hn⟩ | ⟨g', cap', cur, e0, hb, hg, h1, h2, h3, h4⟩
  · cases e0
  · cases e0
    exact ⟨hb, lt_of_heap hg, rfl⟩
omit [Inhabited α] in
theorem Own.swap (E : Ek enc k) {T : TypeId} {base : Nat} {w : World} {g m cap : Nat} {l : List α} (h : Own enc k T base w (.slice (some ⟨g, 0, none⟩) m cap) l) {i j : Nat} {x y : α} (hx : l[i]? = some x) (hy : l[j]? = some y) (P : Program) :
    (Sem.run P (loadCellsFrom ⟨g, i * k, none⟩ 0 k #[]) w.drew = .ok (enc x).toArray w.drew ∧ Sem.run P (loadCellsFrom ⟨g, j * k, none⟩ 0 k #[]) w.drew = .ok (enc y).toArray w.drew ∧
    Sem.run P (storeCells ⟨g, i * k, none⟩ (enc y) 0) w.drew = .ok () (w.drew.setCells g (i * k) (enc y)) ∧
    Sem.run P (storeCells ⟨g, j * k, none⟩ (enc x) 0) (w.drew.setCells g (i * k) (enc y)) = .ok () ((w.drew.setCells g (i * k) (enc y)).setCells g (j * k) (enc x))) ∧
    Own enc k T base ((w.drew.setCells g (i * k) (enc y)).setCells g (j * k) (enc x)) (.slice (some ⟨g, 0, none⟩) m cap) ((l.set i y).set j x) ∧ Same (fun b => b = g) w ((w.drew.setCells g (i * k) (enc y)).setCells g (j * k) (enc x)) := by
  have k1 : Kept w w.drew := (Same.refl _ w).drew
  obtain ⟨p1, p2, p3⟩ := (h.on k1).put E (i := i) (List.getElem?_eq_some_iff.1 hx).1 y P
  obtain ⟨q1, q2, q3⟩ := p2.put E (i := j) (by rw [List.length_set]; exact (List.getElem?_eq_some_iff.1 hy).1) x P
  have hw := (Own.at E h).on k1
  have l1 := hw.load0 E hx P
  have l2 := hw.load0 E hy P
  rw [Nat.zero_add] at l1 l2
  exact ⟨⟨l1, l2, p1, q1⟩, q2, ((k1.to _).trans' p3).trans' q3⟩
end Go.Proofs.YtfhaiklfbnfdlabDoor.Vi
