/- What is proved: what stands while the law StreamInput reads and gathers bytes; no condition. -/
import Derived.Test.YtepdnmjolhfboaaSInpM
import Derived.Test.YtepdnmjolhfboaaSOpenA
namespace Go.Proofs.Ytepdnmjolhfboaa
open Go.RowKit

/-- The reader stands at c of the bytes l; the first ca of them are gathered in the row av. -/
def InL (w : World) (B : Nat) (l : List Int) (p : Pl) (rb : Nat) (av : Value) (wr : World) (ca c : Nat) : Prop :=
  ∃ (s : RdS) (ow : Nat → Nat), RdI B l c s ∧ s.m.cI = s.nx ∧ s.m.cS = 0 ∧ s.m.k = 2 * s.nx ∧ OwnB8 w.heap.size wr av (l.take ca) ∧ (∀ g, av.ownBlock = some g → ow g = 6) ∧ DvT ow wr s.m p ∧ Rdr ow 3 wr p rb .inp s.nx s.held c (l.length - c) 0 ∧ RI .inp s.m (c + (l.length - c)) c s.nx s.held ∧ Kept w wr ∧ ∀ k, k < w.heap.size → ow k = 0
section
variable {w : World} {B : Nat} {l : List Int} {p : Pl} {rb : Nat} {av : Value} {wr : World} {ca c : Nat}
theorem InL.on {w' : World} (h : InL w B l p rb av wr ca c) (k : Kept wr w') : InL w B l p rb av w' ca c := by
  obtain ⟨s, ow, h1, h2, h3, h4, h5, h6, h7, h8, h9, h10, h11⟩ := h
  have st : Step (fun _ => False) ow wr ow w' := ⟨k, fun _ _ => rfl⟩
  exact ⟨s, ow, h1, h2, h3, h4, own_kept h5 k (fun _ _ h => h), h6, h7.on st (fun h => h) (fun h => h), h8.on st (fun h => h) (fun h => h), h9, h10.trans' k, h11⟩
theorem InL.read (h : InL w B l p rb av wr ca c) (hB : 16 ≤ B) (hl : l.length ≤ 4194304) (n : Nat) (hn : n ≤ 65536) : Calls Try.prog 15 #[.pointer (some ⟨rb, 0, none⟩), .int .i64 (n : Int)] wr fun x w2 => ∃ v, x = .returned (.tuple #[v, .int .i64 0]) ∧ OwnB8 wr.heap.size w2 v ((l.drop c).take (min n (l.length - c))) ∧ InL w B l p rb av w2 ca (c + min n (l.length - c)) := by
  obtain ⟨s, ow, h1, h2, h3, h4, h5, h6, h7, h8, h9, h10, h11⟩ := h
  have hle := h1.le
  have hnb := h1.nb
  have hnl : nblk l.length B ≤ 8388608 := by
    unfold nblk
    exact Nat.le_trans (Nat.div_le_self _ _) (by have := h7.dv.good.b2; rw [h1.eB] at this; omega)
  obtain ⟨s', e1, g1, g2, g3, g4⟩ := rd_inp (B := B) (inp := l) (by omega) (min n (l.length - c)) c s h1 (by omega)
  refine Calls.mono (read_ok8 h7 h8 ⟨by decide, by decide⟩ h9 (by omega) n hn) ?_
  rintro x w2 ⟨o2, st2, hd2, hc⟩
  have e1' : rd .inp (min n (l.length - c)) ⟨s.m, s.nx, s.held⟩ = (0, (l.drop c).take (min n (l.length - c)), s') := e1
  rw [e1'] at hd2 hc
  rcases hc with ⟨-, v, rfl, hv, -, -, hr, hi⟩ | ⟨hne, -⟩
  · refine ⟨v, rfl, hv, s', o2, g1, by omega, by omega, by omega, own_kept h5 st2.same fun k hk => ?_, fun g hg => ?_, hd2, ?_, ?_, kept_of h10 st2 fun k hk => ?_, fun k hk => ?_⟩
    · rw [h6 k hk]
      rintro (e | e) <;> omega
    · rw [st2.tag g (own_lt h5 hg).1]
      exact h6 g hg
    · rw [Nat.sub_sub] at hr
      exact hr
    · rw [show c + min n (l.length - c) + (l.length - (c + min n (l.length - c))) = c + (l.length - c) by omega]
      exact hi
    · rw [h11 k hk]
      rintro (e | e) <;> omega
    · rw [st2.tag k (Nat.lt_of_lt_of_le hk h10.size)]
      exact h11 k hk
  · exact absurd rfl hne
/-- What was read is gathered. -/
theorem InL.more {v' : Value} {w3 : World} {k : Nat} (h : InL w B l p rb av wr ca (ca + k)) (hap : AppB w.heap.size av wr (l.take ca ++ (l.drop ca).take k) v' w3) : InL w B l p rb v' w3 (ca + k) (ca + k) := by
  obtain ⟨s, ow, h1, h2, h3, h4, h5, h6, h7, h8, h9, h10, h11⟩ := h
  obtain ⟨p1, p2, p3⟩ := hap
  have et : l.take ca ++ (l.drop ca).take k = l.take (ca + k) := by rw [List.take_add]
  rw [et] at p1
  have s3 : Same (fun k => av.ownBlock = some k) wr w3 := Same.of_grown p2 (fun k e => e)
  have st3 : Step (fun n => n = 6) ow wr (tagN wr 6 ow) w3 := ⟨s3.mono fun k _ e => h6 k e, fun k hk => tagN_old hk⟩
  refine ⟨s, tagN wr 6 ow, h1, h2, h3, h4, p1, fun g hg => ?_, h7.on st3 (by decide) (by decide), h8.on st3 (by decide) (by decide), h9, kept_of h10 st3 fun k hk => by rw [h11 k hk]; decide, fun k hk => ?_⟩
  · rcases p3 with e | e
    · rw [e] at hg
      exact (tagN_old (own_lt h5 hg).1).trans (h6 g hg)
    · rw [e] at hg
      cases hg
      exact tagN_new (Nat.le_refl _)
  · rw [tagN_old (Nat.lt_of_lt_of_le hk h10.size)]
    exact h11 k hk
theorem InL.app {k : Nat} (h : InL w B l p rb av wr ca (ca + k)) (hk : ca + k ≤ l.length) (hl : l.length ≤ 4194304) {k0 : Nat} (hk0 : k0 = k) {va : Option Addr} {vc : Nat} {wv : Nat} (hv : OwnB8 wv wr (.slice va k0 vc) ((l.drop ca).take k)) (ty : TypeId) :
    ∃ v' w3, (Builtin.append_ #[22, 22] ty #[av, .slice va k0 vc]).run Try.prog wr = .ok v' w3 ∧ InL w B l p rb v' w3 (ca + k) (ca + k) := by
  obtain ⟨s, ow, h1, h2, h3, h4, h5, h6, h7, h8, h9, h10, h11⟩ := id h
  have hlen : ((l.drop ca).take k).length = k := by rw [List.length_take, List.length_drop]; omega
  subst hk0
  obtain ⟨a', c', e', hb, -⟩ := BytesAt.of_row hv
  rw [hlen] at e'
  simp only [Value.slice.injEq, true_and] at e'
  obtain ⟨rfl, rfl⟩ := e'
  have hv2 : wr.ownsRow wv 5 1 (.slice va k0 vc) ((l.drop ca).take k0).length (byt ((l.drop ca).take k0)) := hv
  rw [hlen] at hv2
  have hcaps := row_caps hv2
  obtain ⟨v', w3, r1, r2⟩ := app_bytes (c := vc) h5 hb (fun e => by rw [hlen]; exact hcaps.2 e) (by rw [hlen, List.length_take]; omega) h10.size ty
  rw [hlen] at r1
  exact ⟨v', w3, r1, h.more r2⟩
theorem InL.row (h : InL w B l p rb av wr ca c) (hc : ca ≤ l.length) : ∃ a cap, av = .slice a ca cap ∧ BytesAt wr a (l.take ca) := by
  obtain ⟨s, ow, h1, h2, h3, h4, h5, h6⟩ := h
  obtain ⟨a, cap, e, hb, -⟩ := BytesAt.of_row h5
  rw [List.length_take, Nat.min_eq_left hc] at e
  exact ⟨a, cap, e, hb⟩
theorem InL.tells (h : InL w B l p rb av wr ca c) : Calls Try.prog 16 #[.pointer (some ⟨rb, 0, none⟩)] wr (fun x w' => x = .returned (.int .i64 c) ∧ w' = wr) ∧ Calls Try.prog 17 #[.pointer (some ⟨rb, 0, none⟩)] wr (fun x w' => x = .returned (.int .i64 ((l.length - c : Nat) : Int)) ∧ w' = wr) := by
  obtain ⟨s, ow, h1, h2, h3, h4, h5, h6, h7, h8, h9⟩ := h
  exact ⟨offset_any h8, left_any8 h8⟩
theorem InL.ask (h : InL w B l p rb av wr ca c) (n : Int) (hn : n < 0 ∨ 65536 < n) : Calls Try.prog 15 #[.pointer (some ⟨rb, 0, none⟩), .int .i64 n] wr fun x w' => x = .returned (.tuple #[.slice none 0 0, .int .i64 81]) ∧ InL w B l p rb av w' ca c := by
  have h' := h
  obtain ⟨s, ow, h1, h2, h3, h4, h5, h6, h7, h8, h9⟩ := h
  refine Calls.mono (read_ask h8 n hn) ?_
  rintro x w' ⟨rfl, k⟩
  exact ⟨rfl, h'.on k⟩
theorem InL.kept (h : InL w B l p rb av wr ca c) : Kept w wr := by
  obtain ⟨s, ow, h1, h2, h3, h4, h5, h6, h7, h8, h9, h10, h11⟩ := h
  exact h10
theorem InL.start {w4 : World} {o4 : Nat → Nat} (hd : DvT o4 w4 (M.made B 0 l [] []) p) (hr : Rdr o4 3 w4 p rb .inp 0 [] 0 l.length 0) (hi : RI .inp (M.made B 0 l [] []) (0 + l.length) 0 0 []) (k : Kept w w4) (hz : ∀ k, k < w.heap.size → o4 k = 0) : InL w B l p rb (.slice none 0 0) w4 0 0 :=
  ⟨⟨M.made B 0 l [] [], 0, []⟩, o4, rdI_new B l, rfl, rfl, rfl, World.ownsRow_nil _ _ 5 1, (fun g e => by cases e), hd, hr, hi, k, hz⟩
/-- All is read. -/
theorem InL.counts (h : InL w B l p rb av wr ca l.length) (hB : 0 < B) : ∃ cT cW : Nat, Calls Try.prog 19 #[.pointer (some ⟨p.db, 0, none⟩)] wr (fun x w' => x = .returned (.agg #[.int .i64 (nblk l.length B : Nat), .int .i64 0, .int .i64 cW, .int .i64 cT]) ∧ Kept wr w') ∧ Calls Try.prog 20 #[.pointer (some ⟨p.db, 0, none⟩)] wr (fun x w' => x = .returned (.int .i64 (nblk l.length B : Nat)) ∧ Kept wr w') := by
  obtain ⟨s, ow, h1, h2, h3, h4, h5, h6, h7, h8, h9⟩ := h
  have e := h1.all hB
  refine ⟨s.m.cT, s.m.cW, ?_, ?_⟩
  · have := counts_any h7.dv
    rw [h2, h3, e] at this
    exact this
  · have := blocks_any h7.dv
    rw [h1.ei, h1.eB] at this
    exact this
end
end Go.Proofs.Ytepdnmjolhfboaa
