/- What is proved: what Read answers and leaves; the reader is not broken, the number is right, and the reader's place fits its source. -/
import Derived.Test.YtemfeaooenaelaaSRead
namespace Go.Proofs.Ytemfeaooenaelaa
open Go.RowKit

/-- What Read leaves. -/
def ReadP (w : World) (o : Nat → Nat) (t : Nat) (p : Pl) (rb : Nat) (f : Src) (off left k : Nat) (r : Int × List Int × RdS) (x : Ending) (w' : World) : Prop :=
  ∃ o', Step (fun n => n = 1 ∨ n = t) o w o' w' ∧ DvT o' w' r.2.2.m p ∧
    ((r.1 = 0 ∧ ∃ v, x = .returned (.tuple #[v, .int .i64 0]) ∧ OwnB8 w.heap.size w' v r.2.1 ∧ (∀ g, v.ownBlock = some g → o' g = t + 2) ∧ r.2.1.length = k ∧ Rdr o' t w' p rb f r.2.2.nx r.2.2.held (off + k) (left - k) 0 ∧ RI f r.2.2.m (off + left) (off + k) r.2.2.nx r.2.2.held) ∨
     (r.1 ≠ 0 ∧ x = .returned (.tuple #[.slice none 0 0, .int .i64 r.1]) ∧ Rdr o' t w' p rb f r.2.2.nx r.2.2.held off left r.1))

/-- One round: bytes that are held are taken. -/
theorem RdL.take {W wr w2 w3 : World} {o ow o2 : Nat → Nat} {t : Nat} {m : M} {p : Pl} {rb : Nat} {f : Src} {nx : Nat} {held : List Int} {off left k : Nat} {pv v3 : Value} {pl : List Int} {s s2 : RdS} {na ha a' : Option Addr} {nc hc q : Nat}
    (ht : t ≠ 0 ∧ t ≠ 1) (h1 : rd f pl.length ⟨m, nx, held⟩ = (0, pl, s)) (h2 : pl.length < k) (hk : k ≤ left) (h4 : ∀ g, pv.ownBlock = some g → ow g = t + 2) (h5 : Step (fun n => n = 1 ∨ n = t) o W ow wr) (h9 : s.m.k ≤ m.k + 3 * pl.length)
    (e1 : s.hold f = (0, s2)) (e2 : Step (fun n => n = 1 ∨ n = t) ow wr o2 w2) (e3 : DvT o2 w2 s2.m p) (e4 : RdrAt o2 t w2 p rb f s2.nx s2.held off left 0 na nc ha hc) (e5 : s2.held ≠ []) (e6 : RI f s2.m (off + left) (off + pl.length) s2.nx s2.held)
    (hq : q = min (k - pl.length) s2.held.length) (a1 : BytesAt w2 a' (s2.held.drop q)) (a2 : a' = none → s2.held.length - q = 0 ∧ hc - q = 0) (a3 : ∀ ad, a' = some ad → ad.spot = none) (a4 : ∀ k, InB a' (s2.held.length - q) k → InB ha s2.held.length k)
    (hpb : ∀ g, pv.ownBlock = some g → W.heap.size ≤ g ∧ g < wr.heap.size) (happ : AppB W.heap.size pv w2 (pl ++ s2.held.take q) v3 w3) : RdL W o t m p rb f nx held off left k v3 (w3.setCell ⟨rb, 2, none⟩ (.slice a' (s2.held.length - q) (hc - q))) := by
  obtain ⟨p1, p2, p3⟩ := happ
  have hql : q ≤ s2.held.length := by omega
  have htl : (s2.held.take q).length = q := by rw [List.length_take]; omega
  have hlen : (pl ++ s2.held.take q).length = pl.length + q := by rw [List.length_append, htl]
  have s3 : Same (fun k => pv.ownBlock = some k) w2 w3 := Same.of_grown p2 (fun k e => e)
  have hrbt : o2 rb = t := e4.tag
  have hpb2 : ∀ g, pv.ownBlock = some g → o2 g = t + 2 := fun g e => (e2.tag g (hpb g e).2).trans (h4 g e)
  have hrb3 : w3.heap[rb]? = w2.heap[rb]? := s3.block rb (lt_of_heap e4.obj) fun e => by
    have := hpb2 rb e
    omega
  have hob : w3.heap[rb]? = some (rdO (srcV f p na nc) s2.nx ha s2.held.length hc off left 0) := hrb3.trans e4.obj
  have s4 : Same (fun k => k = rb) w3 (w3.setCell ⟨rb, 2, none⟩ (.slice a' (s2.held.length - q) (hc - q))) := Same.setCell (S := fun k => k = rb) (Same.refl _ w3) _ (.inr rfl) _
  have st3 : Step (fun n => n = t + 2) o2 w2 (tagN w2 (t + 2) o2) w3 := ⟨s3.mono fun k _ e => hpb2 k e, fun k hk => tagN_old hk⟩
  have hrb3t : tagN w2 (t + 2) o2 rb = t := (tagN_old (lt_of_heap e4.obj)).trans hrbt
  have st4 : Step (fun n => n = t) (tagN w2 (t + 2) o2) w3 (tagN w2 (t + 2) o2) (w3.setCell ⟨rb, 2, none⟩ (.slice a' (s2.held.length - q) (hc - q))) := ⟨s4.mono fun k _ e => (by show tagN w2 (t + 2) o2 k = t; rw [e]; exact hrb3t), fun _ _ => rfl⟩
  have hv3 : ∀ g, v3.ownBlock = some g → tagN w2 (t + 2) o2 g = t + 2 ∧ g ≠ rb := fun g e => by
    rcases p3 with q3 | q3
    · rw [q3] at e
      have h := (hpb g e).2
      have : g < w2.heap.size := Nat.lt_of_lt_of_le h e2.same.size
      refine ⟨(tagN_old this).trans (hpb2 g e), fun e' => ?_⟩
      subst e'
      have := hpb2 g e
      omega
    · rw [q3] at e
      cases e
      refine ⟨tagN_new (Nat.le_refl _), fun e' => ?_⟩
      have := lt_of_heap e4.obj
      omega
  have hrd : rd f (pl.length + q) ⟨m, nx, held⟩ = (0, pl ++ s2.held.take q, ⟨s2.m, s2.nx, s2.held.drop q⟩) := by
    have hq1 : ∃ q', q = q' + 1 := ⟨q - 1, by have := List.length_pos_iff.2 e5; omega⟩
    obtain ⟨q', rfl⟩ := hq1
    rw [rd_add f pl.length (q' + 1) _ pl s h1 rfl, rd_next q' e1 e5, rd_held f (q' + 1) s2 hql]
  refine ⟨pl ++ s2.held.take q, ⟨s2.m, s2.nx, s2.held.drop q⟩, tagN w2 (t + 2) o2, by rw [hlen]; exact hrd, by rw [hlen]; omega, ?_, fun g e => (hv3 g e).1, ?_, ?_, ?_, ?_, ?_⟩
  · refine ⟨p1.1, ?_⟩
    rcases p1.2 with h' | ⟨g, cap, cur, rfl, b1, b2, b3⟩
    · exact .inl h'
    · exact .inr ⟨g, cap, cur, rfl, b1, (s4.block g (lt_of_heap b2) (hv3 g rfl).2).trans b2, b3⟩
  · refine ⟨?_, fun k hk => ?_⟩
    · have s34 : Same (fun k => pv.ownBlock = some k ∨ k = rb) w2 (w3.setCell ⟨rb, 2, none⟩ (.slice a' (s2.held.length - q) (hc - q))) := (s3.mono (S' := fun k => pv.ownBlock = some k ∨ k = rb) fun _ _ e => .inl e).trans s4 fun _ _ e => .inr e
      refine (h5.trans e2).same.trans s34 ?_
      · intro i hi e
        rcases e with e | e
        · have := (hpb i e).1
          omega
        · subst e
          right
          have := (h5.trans e2).tag i hi
          omega
    · have h6 := (h5.trans e2).same.size
      rw [tagN_old (Nat.lt_of_lt_of_le hk h6)]
      exact (h5.trans e2).tag k hk
  · exact (e3.on st3 (by omega) (by omega)).on st4 (fun h => ht.1 h.symm) (fun h => ht.2 h.symm)
  · have e5' := e4.on st3 (by omega) (by omega)
    refine ⟨na, nc, a', hc - q, ?_, hrb3t, e5'.nums.kept s4 fun k hk e => ?_, e5'.numt, e4.numl, ?_, fun k hk => ?_, ?_, ?_, ?_, a3⟩
    · have := (rdO_set hob).2.1 a' (s2.held.length - q) (hc - q)
      rw [this, List.length_drop]
    · subst e
      have := e5'.numt k hk
      rw [hrb3t] at this
      exact ht.1 this
    · refine (a1.kept st3.same fun k hk e => ?_).kept s4 fun k hk e => ?_
      · rw [List.length_drop] at hk
        have := e4.heldt k (a4 k hk)
        omega
      · rw [List.length_drop] at hk
        have := e4.heldt k (a4 k hk)
        rw [e, hrbt] at this
        exact ht.1 this
    · rw [List.length_drop] at hk
      exact e5'.heldt k (a4 k hk)
    · rw [List.length_drop]
      have := e4.cap
      omega
    · have := e4.capl
      omega
    · intro e
      rw [List.length_drop]
      exact a2 e
  · rw [hlen, ← Nat.add_assoc]
    exact e6.take hql (by omega)
  · have := hold_k f s
    rw [e1] at this
    rw [hlen]
    have := List.length_pos_iff.2 e5
    simp only at *
    omega
end Go.Proofs.Ytemfeaooenaelaa
