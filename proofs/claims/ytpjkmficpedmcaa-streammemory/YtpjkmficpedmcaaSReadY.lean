/- What is proved: Read of a broken reader or at a wrong number, Offset, Left, Input; the reader and its device lie in memory. -/
import Derived.Test.YtpjkmficpedmcaaSRead
namespace Go.Proofs.Ytpjkmficpedmcaa
open Go.RowKit

/-- What Read leaves. -/
def ReadP (w : World) (o : Nat → Nat) (t : Nat) (p : Pl) (rb : Nat) (f : Src) (off left k : Nat) (r : Int × List Int × RdS) (x : Ending) (w' : World) : Prop :=
  ∃ o', Step (fun n => n = 1 ∨ n = t) o w o' w' ∧ DvT o' w' r.2.2.m p ∧
    ((r.1 = 0 ∧ ∃ v, x = .returned (.tuple #[v, .int .i64 0]) ∧ OwnB8 w.heap.size w' v r.2.1 ∧ (∀ g, v.ownBlock = some g → o' g = t + 2) ∧ r.2.1.length = k ∧ Rdr o' t w' p rb f r.2.2.nx r.2.2.held (off + k) (left - k) 0 ∧ RI f r.2.2.m (off + left) (off + k) r.2.2.nx r.2.2.held) ∨
     (r.1 ≠ 0 ∧ x = .returned (.tuple #[.slice none 0 0, .int .i64 r.1]) ∧ Rdr o' t w' p rb f r.2.2.nx r.2.2.held off left r.1))

/-- One round: bytes that are held are taken. -/
theorem RdL.take {W wr w2 w3 : World} {o ow o2 : Nat → Nat} {t : Nat} {m : M} {p : Pl} {rb : Nat} {f : Src} {nx : Nat} {held : List Int} {off left k : Nat} {pv v3 : Value} {pl : List Int} {s s2 : RdS} {na ha a' : Option Addr} {nc hc q : Nat}
    (ht : t ≠ 0 ∧ t ≠ 1) (h1 : rd f pl.length ⟨m, nx, held⟩ = (0, pl, s)) (h2 : pl.length < k) (hk : k ≤ left) (h4 : ∀ g, pv.ownBlock = some g → ow g = t + 2) (h5 : Step (fun n => n = 1 ∨ n = t) o W ow wr) (h9 : s.m.k ≤ m.k + 3 * pl.length)
    (e1 : s.hold f = (0, s2)) (e2 : Step (fun n => n = 1 ∨ n = t) ow wr o2 w2) (e3 : DvT o2 w2 s2.m p) (e4 : RdrAt o2 t w2 p rb f s2.nx s2.held off left 0 na nc ha hc) (e5 : s2.held ≠ []) (e6 : RI f s2.m (off + left) (off + pl.length) s2.nx s2.held)
    (hq : q = min (k - pl.length) s2.held.length) (a1 : BytesAt w2 a' (s2.held.drop q)) (a2 : a' = none → s2.held.length - q = 0 ∧ hc - q = 0) (a3 : ∀ ad, a' = some ad → ad.spot = none) (a4 : ∀ k, InB a' (s2.held.length - q) k → InB ha s2.held.length k)
    (hpb : ∀ g, pv.ownBlock = some g → W.heap.size ≤ g ∧ g < wr.heap.size) (happ : AppB W.heap.size pv w2 (pl ++ s2.held.take q) v3 w3) : RdL W o t m p rb f nx held off left k v3 (w3.setCell ⟨rb, 2, none⟩ (.slice a' (s2.held.length - q) (hc - q))) := by
  obtain ⟨p1, p2, p3⟩ := happ
  have hql : q ≤ s2.held.length := by omega
  have htl : (s2.held.take q).length = q := by rw [List.length_take]; omega
  have hlen : (pl ++ s2.held.take q).length = pl.length + q := by rw [List.length_append, htl]
  have s3 : Same (fun k => pv.ownBlock = some k) w2 w3 := Same.of_grown p2 (fun k e => e)
  have hrbt : o2 rb = t := e4.tag
  have hpb2 : ∀ g, pv.ownBlock = some g → o2 g = t + 2 := fun g e => (e2.tag g (hpb g e).2).trans (h4 g e)
  have hrb3 : w3.heap[rb]? = w2.heap[rb]? := s3.block rb (lt_of_heap e4.obj) fun e => by
    have := hpb2 rb e
    omega
  have hob : w3.heap[rb]? = some (rdO (srcV f p na nc) s2.nx ha s2.held.length hc off left 0) := hrb3.trans e4.obj
  have s4 : Same (fun k => k = rb) w3 (w3.setCell ⟨rb, 2, none⟩ (.slice a' (s2.held.length - q) (hc - q))) := Same.setCell (S := fun k => k = rb) (Same.refl _ w3) _ (.inr rfl) _
  have st3 : Step (fun n => n = t + 2) o2 w2 (tagN w2 (t + 2) o2) w3 := ⟨s3.mono fun k _ e => hpb2 k e, fun k hk => tagN_old hk⟩
  have hrb3t : tagN w2 (t + 2) o2 rb = t := (tagN_old (lt_of_heap e4.obj)).trans hrbt
  have st4 : Step (fun n => n = t) (tagN w2 (t + 2) o2) w3 (tagN w2 (t + 2) o2) (w3.setCell ⟨rb, 2, none⟩ (.slice a' (s2.held.length - q) (hc - q))) := ⟨s4.mono fun k _ e => (by show tagN w2 (t + 2) o2 k = t; rw [e]; exact hrb3t), fun _ _ => rfl⟩
  have hv3 : ∀ g, v3.ownBlock = some g → tagN w2 (t + 2) o2 g = t + 2 ∧ g ≠ rb := fun g e => by
    rcases p3 with q3 | q3
    · rw [q3] at e
      have h := (hpb g e).2
      have : g < w2.heap.size := Nat.lt_of_lt_of_le h e2.same.size
      refine ⟨(tagN_old this).trans (hpb2 g e), fun e' => ?_⟩
      subst e'
      have := hpb2 g e
      omega
    · rw [q3] at e
      cases e
      refine ⟨tagN_new (Nat.le_refl _), fun e' => ?_⟩
      have := lt_of_heap e4.obj
      omega
  have hrd : rd f (pl.length + q) ⟨m, nx, held⟩ = (0, pl ++ s2.held.take q, ⟨s2.m, s2.nx, s2.held.drop q⟩) := by
    have hq1 : ∃ q', q = q' + 1 := ⟨q - 1, by have := List.length_pos_iff.2 e5; omega⟩
    obtain ⟨q', rfl⟩ := hq1
    rw [rd_add f pl.length (q' + 1) _ pl s h1 rfl, rd_next q' e1 e5, rd_held f (q' + 1) s2 hql]
  refine ⟨pl ++ s2.held.take q, ⟨s2.m, s2.nx, s2.held.drop q⟩, tagN w2 (t + 2) o2, by rw [hlen]; exact hrd, by rw [hlen]; omega, ?_, fun g e => (hv3 g e).1, ?_, ?_, ?_, ?_, ?_⟩
  · refine ⟨p1.1, ?_⟩
    rcases p1.2 with h' | ⟨g, cap, cur, rfl, b1, b2, b3⟩
    · exact .inl h'
    · exact .inr ⟨g, cap, cur, rfl, b1, (s4.block g (lt_of_heap b2) (hv3 g rfl).2).trans b2, b3⟩
  · refine ⟨?_, fun k hk => ?_⟩
    · have s34 : Same (fun k => pv.ownBlock = some k ∨ k = rb) w2 (w3.setCell ⟨rb, 2, none⟩ (.slice a' (s2.held.length - q) (hc - q))) := (s3.mono (S' := fun k => pv.ownBlock = some k ∨ k = rb) fun _ _ e => .inl e).trans s4 fun _ _ e => .inr e
      refine (h5.trans e2).same.trans s34 ?_
      · intro i hi e
        rcases e with e | e
        · have := (hpb i e).1
          omega
        · subst e
          right
          have := (h5.trans e2).tag i hi
          omega
    · have h6 := (h5.trans e2).same.size
      rw [tagN_old (Nat.lt_of_lt_of_le hk h6)]
      exact (h5.trans e2).tag k hk
  · exact (e3.on st3 (by omega) (by omega)).on st4 (fun h => ht.1 h.symm) (fun h => ht.2 h.symm)
  · have e5' := e4.on st3 (by omega) (by omega)
    refine ⟨na, nc, a', hc - q, ?_, hrb3t, e5'.nums.kept s4 fun k hk e => ?_, e5'.numt, e4.numl, ?_, fun k hk => ?_, ?_, ?_, ?_, a3⟩
    · have := (rdO_set hob).2.1 a' (s2.held.length - q) (hc - q)
      rw [this, List.length_drop]
    · subst e
      have := e5'.numt k hk
      rw [hrb3t] at this
      exact ht.1 this
    · refine (a1.kept st3.same fun k hk e => ?_).kept s4 fun k hk e => ?_
      · rw [List.length_drop] at hk
        have := e4.heldt k (a4 k hk)
        omega
      · rw [List.length_drop] at hk
        have := e4.heldt k (a4 k hk)
        rw [e, hrbt] at this
        exact ht.1 this
    · rw [List.length_drop] at hk
      exact e5'.heldt k (a4 k hk)
    · rw [List.length_drop]
      have := e4.cap
      omega
    · have := e4.capl
      omega
    · intro e
      rw [List.length_drop]
      exact a2 e
  · rw [hlen, ← Nat.add_assoc]
    exact e6.take hql (by omega)
  · have := hold_k f s
    rw [e1] at this
    rw [hlen]
    have := List.length_pos_iff.2 e5
    simp only at *
    omega
end Go.Proofs.Ytpjkmficpedmcaa

namespace Go.Proofs.Ytpjkmficpedmcaa
open Go.RowKit

theorem hold8 {o : Nat → Nat} {t : Nat} {w : World} {p : Pl} {rb : Nat} {f : Src} {s : RdS} {off left : Nat} {br : Int} (hd : DvT o w s.m p) (hr : Rdr o t w p rb f s.nx s.held off left br) (ht : t ≠ 0 ∧ t ≠ 1) (hi : s.held = [] → f = .inp ∨ s.nx < f.nums.length) (hk : s.m.k + 1 < 4611686018427387904) (hnx : s.held = [] → s.nx < 4611686018427387904) :
    Calls Try.prog 26 #[.pointer (some ⟨rb, 0, none⟩)] w fun x w' => x = .returned (.int .i64 (s.hold f).1) ∧ ∃ o', Step (fun n => n = 1 ∨ n = t) o w o' w' ∧ DvT o' w' (s.hold f).2.m p ∧
      Rdr o' t w' p rb f (s.hold f).2.nx (s.hold f).2.held off left (if (s.hold f).1 = 0 then br else (s.hold f).1) := by
  by_cases h0 : s.held = []
  · exact hold_any hd hr ht hi hk (hnx h0)
  · have hh : s.hold f = (0, s) := hold_some h0
    rw [hh]
    obtain ⟨na, nc, ha, hc, hra⟩ := id hr
    refine Calls.mono (hold_has hra.obj (List.length_pos_iff.2 h0)) ?_
    rintro x w' ⟨rfl, rfl⟩
    exact ⟨rfl, o, Step.refl _ _ _, hd, hr⟩

set_option maxRecDepth 100000 in
set_option maxHeartbeats 3200000 in
theorem read_ok8 {o : Nat → Nat} {t : Nat} {w : World} {m : M} {p : Pl} {rb : Nat} {f : Src} {nx : Nat} {held : List Int} {off left : Nat} (hd : DvT o w m p) (hr : Rdr o t w p rb f nx held off left 0) (ht : t ≠ 0 ∧ t ≠ 1) (hi : RI f m (off + left) off nx held) (hk : m.k + 200000 < 4611686018427387904) (n : Nat) (hn : n ≤ 65536) :
    Calls Try.prog 13 #[.pointer (some ⟨rb, 0, none⟩), .int .i64 (n : Int)] w (ReadP w o t p rb f off left (min n left) (rd f (min n left) ⟨m, nx, held⟩)) := by
  obtain ⟨k, ek⟩ : ∃ k, k = min n left := ⟨_, rfl⟩
  have hmin : min (n : Int) (left : Int) = (k : Int) := by omega
  have hk1 : k ≤ left := by omega
  have hk2 : k ≤ 65536 := by omega
  rw [← ek]
  have hsz := hi.len
  obtain ⟨na, nc, ha, hc, hra⟩ := hr
  have hl := lt_of_heap hra.obj
  have c4 : w.cell? ⟨rb, 4, none⟩ = some (.int .i64 left) := (cell_of hra.obj 4).trans rfl
  have c5 : w.cell? ⟨rb, 5, none⟩ = some (.int .i64 0) := (cell_of hra.obj 5).trans rfl
  have hmk := make_to w k (by omega)
  have t1 : decide ((n : Int) < 0) = false := by simp
  have t2 : decide ((n : Int) > 65536) = false := by simp; omega
  have HST : Hid (RdL w o t m p rb f nx held off left k (.slice (some ⟨w.heap.size, 0, none⟩) 0 k) (w.alloc (rowObj (List.replicate k 0)))) := by
    have st : Step (fun n => n = 1 ∨ n = t) o w (tagN w (t + 2) o) (w.alloc (rowObj (List.replicate k 0))) := ⟨(Same.refl _ w).alloc _, fun k hk => tagN_old hk⟩
    have st0 : Step (fun _ => False) o w (tagN w (t + 2) o) (w.alloc (rowObj (List.replicate k 0))) := ⟨(Same.refl _ w).alloc _, fun k hk => tagN_old hk⟩
    refine ⟨[], ⟨m, nx, held⟩, tagN w (t + 2) o, rfl, Nat.zero_le _, ?_, fun g e => ?_, st, hd.on st0 (fun h => h) (fun h => h), ⟨na, nc, ha, hc, hra.on st0 (fun h => h) (fun h => h)⟩, hi, Nat.le_refl _⟩
    · exact World.ownsRow_made w _ k (Nat.le_refl _) (by unfold maxLen; omega) (by simp [byt])
    · cases e
      exact tagN_new (Nat.le_refl _)
  have HD : Hid _ := hd
  have HRA : Hid _ := hra
  clear hd hra
  go_enter Try.func13, Try.ntmps13
  go_upto_region 5 with fail
  go_cut [1] (fun s1 wx => s1 = .int .i64 (k : Int) ∧ wx = w)
  case first =>
    rcases Nat.lt_or_ge left n with h | h
    · have h' : (left : Int) < (n : Int) := by omega
      obtain rfl : k = left := by omega
      clear h hmin ek
      go_wp2_with fail
      go_meet
      exact ⟨rfl, rfl⟩
    · have h' : ¬ ((left : Int) < (n : Int)) := by omega
      obtain rfl : k = n := by omega
      clear h hmin ek
      go_wp2_with fail
      go_meet
      exact ⟨rfl, rfl⟩
  case rest =>
    obtain ⟨rfl, rfl⟩ := hcut
    clear hmin ek
    go_wp2_with fail
    go_loopw [6] (fun pv wr => RdL wc o t m p rb f nx held off left k pv wr) (fun pv _ => k - slen pv)
    case atStart => exact HST.out
    case round =>
      have hrel' := hrel
      obtain ⟨pl, s, ow, h1, h2, h3, h4, h5, h6, h7, h8, h9⟩ := hrel
      obtain ⟨pa, pc, rfl, -⟩ := BytesAt.of_row h3
      have hpc : pl.length ≤ pc := (row_caps h3).1
      have HREL : Hid _ := hrel'
      clear hrel'
      by_cases hjk : pl.length < k
      · obtain ⟨na', nc', ha', hc', h7'⟩ := id h7
        have hcs : off + pl.length < off + left := by omega
        have hidx : s.held = [] → f = .inp ∨ s.nx < f.nums.length := fun e => by
          rw [e] at h8
          exact h8.index hcs
        have hnx : s.held = [] → s.nx < 4611686018427387904 := fun e => by
          rw [e] at h8
          exact h8.nx h6.dv.good hcs h7'.numl
        have HH := hold8 h6 h7 ht hidx (by omega) hnx
        obtain ⟨hes, s2, e0⟩ : ∃ e s2, s.hold f = (e, s2) := ⟨_, _, rfl⟩
        rw [e0] at HH
        simp only at HH
        have hpb : ∀ g, (Value.slice pa pl.length pc).ownBlock = some g → wc.heap.size ≤ g ∧ g < wr.heap.size := fun g e => World.ownsRow.lt h3 g e
        by_cases he : hes = 0
        · subst he
          have hh := h8.hold h6.dv.good hcs (by show (s.hold f).1 = 0; rw [e0])
          have e5 : s2.held ≠ [] := by have := hh.1; simpa only [show (RdS.mk s.m s.nx s.held).hold f = (0, s2) from e0] using this
          have e6 : RI f s2.m (off + left) (off + pl.length) s2.nx s2.held := by have := hh.2; simpa only [show (RdS.mk s.m s.nx s.held).hold f = (0, s2) from e0] using this
          have HC : Hid _ := HH
          have HA : Hid _ := And.intro h1 (And.intro h3 (And.intro h4 (And.intro h5 h9)))
          have HB : Hid _ := And.intro e0 (And.intro e5 (And.intro e6 hpb))
          clear HH h1 h2 h3 h4 h5 h6 h7 h7' h8 h9 e0 e5 e6 hpb hh hidx hnx HREL HST HD HRA
          go_upto_region 8 with fail
          go_wp2_with fail
          refine Calls.mono HC.out ?_
          rintro x w2 ⟨rfl, o2, e2, e3, e4⟩
          obtain ⟨nb, ncb, hb, hcb, e4⟩ := e4
          obtain ⟨L2, eL2⟩ : ∃ L2, L2 = s2.held.length := ⟨_, rfl⟩
          obtain ⟨q, eq⟩ : ∃ q, q = min (k - pl.length) L2 := ⟨_, rfl⟩
          have hl2 := lt_of_heap e4.obj
          have z2 : w2.cell? ⟨rb, 2, none⟩ = some (.slice hb L2 hcb) := by rw [eL2]; exact (cell_of e4.obj 2).trans rfl
          have HE : Hid _ := And.intro e2 (And.intro e3 e4)
          have EQ : Hid _ := And.intro eL2 eq
          have HCUT1 := fun W => cut_to (oa := hb) (n := L2) (c := hcb) (by rw [eL2]; exact e4.cap) (by rw [eL2]; exact e4.nil) q (by omega) W
          obtain ⟨a', hcut2, a1, a2, a3, a4⟩ := cut_from e4.hby e4.cap e4.nil e4.spot q (by omega)
          rw [← eL2] at hcut2
          have HAA : Hid _ := And.intro a1 (And.intro a2 (And.intro a3 a4))
          have HAPP : Hid (∀ ty, ∃ v' w', (Builtin.append_ #[22, 22] ty #[.slice pa pl.length pc, .slice hb q hcb]).run Try.prog w2 = .ok v' w' ∧ AppB wc.heap.size (.slice pa pl.length pc) w2 (pl ++ s2.held.take q) v' w') := fun ty => by
            obtain ⟨h1, h3, h4, h5, h9⟩ := HA.out
            have hown : w2.ownsRow wc.heap.size 5 1 (.slice pa pl.length pc) pl.length (byt pl) := by
              refine ⟨h3.1, ?_⟩
              rcases h3.2 with h' | ⟨g, cap, cur, e', b1, b2, b3⟩
              · exact .inl h'
              · refine .inr ⟨g, cap, cur, e', b1, (e2.same.block g (lt_of_heap b2) fun hs => ?_).trans b2, b3⟩
                have := h4 g (by rw [e']; rfl)
                omega
            have htl : (s2.held.take q).length = q := by rw [List.length_take]; omega
            have := app_bytes (base := wc.heap.size) (c := hcb) hown (take_at e4.hby q) (fun e => by rw [htl]; have := e4.nil e; omega) (by rw [htl]; omega) (Nat.le_trans h5.same.size e2.same.size) ty
            rw [htl] at this
            exact this
          have HOB : Hid (∀ ys v3 w3, AppB wc.heap.size (.slice pa pl.length pc) w2 ys v3 w3 → w3.heap[rb]? = some (rdO (srcV f p nb ncb) s2.nx hb s2.held.length hcb off left 0)) := fun ys v3 w3 hap => by
            have s3 : Same (fun k => (Value.slice pa pl.length pc).ownBlock = some k) w2 w3 := Same.of_grown hap.2.1 (fun k e => e)
            refine (s3.block rb hl2 fun e => ?_).trans e4.obj
            have h1 := (HB.out.2.2.2 rb e).2
            have h2 := HA.out.2.2.1 rb e
            have h3 := e2.tag rb h1
            have h4 := e4.tag
            omega
          clear e2 e3 e4 a1 a2 a3 a4
          go_upto_region 11 with fail
          go_cut [8] (fun s8 wx => s8 = .int .i64 (q : Int) ∧ wx = w2)
          case first =>
            rcases Nat.lt_or_ge L2 (k - pl.length) with h | h
            · have h' : (L2 : Int) < (k : Int) - (pl.length : Int) := by omega
              obtain rfl : q = L2 := by omega
              clear h eq eL2
              go_wp2_with fail
              go_meet
              exact ⟨rfl, rfl⟩
            · have h' : ¬ ((L2 : Int) < (k : Int) - (pl.length : Int)) := by omega
              have h2' : (k : Int) - (pl.length : Int) = (q : Int) := by omega
              clear h eq eL2
              go_wp2_with fail
              go_meet
              exact ⟨rfl, rfl⟩
          case rest =>
            obtain ⟨rfl, rfl⟩ := hcut
            clear eq eL2
            go_wp2_with (at_builtin; refine wpList_app rfl (.tmp 51) (.tmp 57) 22 rfl (.slice pa pl.length pc) (.slice hb q hcb) rfl rfl _ HAPP.out ?_; rintro v3 w3 hap; obtain ⟨va, vc, rfl, -⟩ := BytesAt.of_row hap.1; have hob := HOB.out _ _ _ hap; rw [← EQ.out.1] at hob; have hl3 := lt_of_heap hob; have y2 : w3.cell? ⟨rb, 2, none⟩ = some (.slice hb L2 hcb) := (cell_of hob 2).trans rfl; have fz := frozen_of hob 2; have HAP : Hid _ := hap; clear hap hob)
            go_roundw
            case rel =>
              obtain ⟨h1, h3, h4, h5, h9⟩ := HA.out
              obtain ⟨e0, e5, e6, hpb⟩ := HB.out
              obtain ⟨e2, e3, e4⟩ := HE.out
              obtain ⟨eL2, eq⟩ := EQ.out
              obtain ⟨a1, a2, a3, a4⟩ := HAA.out
              have := RdL.take ht h1 hjk hk1 h4 h5 h9 e0 e2 e3 e4 e5 e6 (by rw [← eL2]; exact eq) a1 a2 a3 a4 hpb HAP.out
              rw [← eL2] at this
              simpa only [List.length_append, List.length_take] using this
            case measure =>
              obtain ⟨eL2, eq⟩ := EQ.out
              have := List.length_pos_iff.2 HB.out.2.1
              simp only [slen]
              omega
        · have he' : (hes != 0) = true := by simpa using he
          have HC : Hid _ := HH
          have HA : Hid _ := And.intro h1 (And.intro h5 e0)
          have HEE : Hid _ := he
          rw [if_neg he] at HC
          clear HH h1 h2 h3 h4 h5 h6 h7 h7' h8 h9 e0 hpb hidx hnx HREL HST HD HRA he
          go_upto_region 8 with fail
          go_wp2_with fail
          refine Calls.mono HC.out ?_
          rintro x w2 ⟨rfl, o2, e2, e3, e4⟩
          have HE : Hid _ := And.intro e2 (And.intro e3 e4)
          clear e2 e3 e4
          go_wp2_with fail
          go_ret2
          obtain ⟨h1, h5, e0⟩ := HA.out
          obtain ⟨e2, e3, e4⟩ := HE.out
          have hrd : rd f k ⟨m, nx, held⟩ = (hes, pl, s2) := by
            obtain ⟨q, rfl⟩ : ∃ q, k = pl.length + (q + 1) := ⟨k - pl.length - 1, by omega⟩
            rw [rd_add f pl.length (q + 1) _ pl s h1 rfl, rd_fail q e0 HEE.out]
            simp
          rw [hrd]
          exact ⟨o2, h5.trans e2, e3, .inr ⟨HEE.out, rfl, e4⟩⟩
      · have ej : pl.length = k := by omega
        obtain ⟨na', nc', ha', hc', h7'⟩ := h7
        have hl7 := lt_of_heap h7'.obj
        have z3 : wr.cell? ⟨rb, 3, none⟩ = some (.int .i64 off) := (cell_of h7'.obj 3).trans rfl
        have z4 : wr.cell? ⟨rb, 4, none⟩ = some (.int .i64 left) := (cell_of h7'.obj 4).trans rfl
        have f3 := frozen_of h7'.obj 3
        have f4 := frozen_of h7'.obj 4
        have HA : Hid _ := And.intro h1 (And.intro h3 (And.intro h4 (And.intro h5 (And.intro h6 (And.intro h7' (And.intro h8 h9))))))
        have EJ : Hid _ := ej
        clear h1 h2 h3 h4 h5 h6 h7' h8 h9 ej HREL HST HD HRA
        go_wp2_with fail
        go_ret2
        obtain ⟨h1, h3, h4, h5, h6, h7, h8, h9⟩ := HA.out
        have hej := EJ.out
        have s4 : Same (fun k => k = rb) wr ((wr.setCell ⟨rb, 3, none⟩ (.int .i64 ((off : Int) + (k : Int)))).setCell ⟨rb, 4, none⟩ (.int .i64 ((left : Int) - (k : Int)))) := Same.setCell (S := fun k => k = rb) (Same.setCell (S := fun k => k = rb) (Same.refl _ wr) _ (.inr rfl) _) _ (.inr rfl) _
        have st4 : Step (fun n => n = t) ow wr ow _ := ⟨s4.mono fun k _ e => (by show ow k = t; rw [e]; exact h7.tag), fun _ _ => rfl⟩
        rw [hej] at h1 h8
        refine ⟨ow, h5.trans (st4.mono fun n e => .inr e), by rw [h1]; exact h6.on st4 (fun h => ht.1 h.symm) (fun h => ht.2 h.symm), .inl ⟨by rw [h1], _, rfl, ?_, h4, by rw [h1]; exact hej, ?_, by rw [h1]; exact h8⟩⟩
        · rw [h1]
          refine ⟨h3.1, ?_⟩
          rcases h3.2 with h' | ⟨g, cap, cur, e', b1, b2, b3⟩
          · exact .inl h'
          · refine .inr ⟨g, cap, cur, e', b1, (s4.block g (lt_of_heap b2) fun hs => ?_).trans b2, b3⟩
            have := h4 g (by rw [e']; rfl)
            have h7t := h7.tag
            rw [hs] at this
            omega
        · rw [h1]
          refine ⟨na', nc', ha', hc', ?_, h7.tag, h7.nums.kept s4 fun k hk e => ?_, h7.numt, h7.numl, h7.hby.kept s4 fun k hk e => ?_, h7.heldt, h7.cap, h7.capl, h7.nil, h7.spot⟩
          · have g1 := (rdO_set h7.obj).2.2.2.1 (off + k)
            have g2 := (rdO_set g1).2.2.2.2 (left - k)
            rw [Int.ofNat_sub hk1] at g2
            exact g2
          · have h7t := h7.tag
            have := h7.numt k hk
            rw [e] at this
            omega
          · have h7t := h7.tag
            have := h7.heldt k hk
            rw [e] at this
            omega
end Go.Proofs.Ytpjkmficpedmcaa

namespace Go.Proofs.Ytpjkmficpedmcaa
open Go.RowKit

set_option maxRecDepth 100000 in
set_option maxHeartbeats 800000 in
theorem read_broken {o : Nat → Nat} {t : Nat} {w : World} {p : Pl} {rb : Nat} {f : Src} {nx : Nat} {held : List Int} {off left : Nat} {br : Int} (hr : Rdr o t w p rb f nx held off left br) (hb : br ≠ 0) (n : Int) :
    Calls Try.prog 13 #[.pointer (some ⟨rb, 0, none⟩), .int .i64 n] w fun x w' => x = .returned (.tuple #[.slice none 0 0, .int .i64 br]) ∧ Kept w w' := by
  obtain ⟨na, nc, ha, hc, hra⟩ := hr
  have hl := lt_of_heap hra.obj
  have c5 : w.cell? ⟨rb, 5, none⟩ = some (.int .i64 br) := (cell_of hra.obj 5).trans rfl
  have hb' : (br != 0) = true := by simpa using hb
  clear hra hb
  go_enter Try.func13, Try.ntmps13
  go_wp2_with fail
  go_quiet (fail)
  go_wp2_with fail
  go_ret2
  exact ⟨rfl, by (repeat (first | exact Same.refl _ _ | apply Same.drewN | apply Same.drew)); done⟩

set_option maxRecDepth 100000 in
set_option maxHeartbeats 800000 in
theorem read_ask {o : Nat → Nat} {t : Nat} {w : World} {p : Pl} {rb : Nat} {f : Src} {nx : Nat} {held : List Int} {off left : Nat} (hr : Rdr o t w p rb f nx held off left 0) (n : Int) (hn : n < 0 ∨ 65536 < n) :
    Calls Try.prog 13 #[.pointer (some ⟨rb, 0, none⟩), .int .i64 n] w fun x w' => x = .returned (.tuple #[.slice none 0 0, .int .i64 81]) ∧ Kept w w' := by
  obtain ⟨na, nc, ha, hc, hra⟩ := hr
  have hl := lt_of_heap hra.obj
  have c5 : w.cell? ⟨rb, 5, none⟩ = some (.int .i64 0) := (cell_of hra.obj 5).trans rfl
  clear hra
  rcases hn with h | h
  · have t1 : decide (n < 0) = true := by simpa using h
    go_enter Try.func13, Try.ntmps13
    go_wp2_with fail
    go_ret2
    exact ⟨rfl, Same.refl _ _⟩
  · have t1 : decide (n < 0) = false := by simp; omega
    have t1' : ¬ n < 0 := by omega
    have t2 : decide (n > 65536) = true := by simpa using h
    go_enter Try.func13, Try.ntmps13
    go_wp2_with fail
    go_ret2
    exact ⟨rfl, Same.refl _ _⟩

def InputP (o : Nat → Nat) (t : Nat) (w : World) (m : M) (p : Pl) (x : Ending) (w' : World) : Prop :=
  ∃ rb o', x = .returned (.pointer (some ⟨rb, 0, none⟩)) ∧ w.heap.size ≤ rb ∧ Step (fun _ => False) o w o' w' ∧ Rdr o' t w' p rb .inp 0 [] 0 m.inp.length 0 ∧ RI .inp m (0 + m.inp.length) 0 0 []
set_option maxRecDepth 100000 in
set_option maxHeartbeats 800000 in
theorem sinput_any {o : Nat → Nat} (t : Nat) {w : World} {m : M} {p : Pl} (hd : Dv w m p) :
    Calls Try.prog 12 #[.pointer (some ⟨p.db, 0, none⟩)] w (InputP o t w m p) := by
  have HI : Hid _ := input_any hd
  have hin := hd.good.inp
  have HP : Hid (∀ W rb, Kept w W → w.heap.size ≤ rb → W.heap[rb]? = some (rdO (srcV .inp p none 0) 0 none 0 0 0 m.inp.length 0) → InputP o t w m p (.returned (.pointer (some ⟨rb, 0, none⟩))) W) := fun W rb k hrb hob =>
    ⟨rb, tagN w t o, rfl, hrb, ⟨k, fun k hk => tagN_old hk⟩, ⟨none, 0, none, 0, hob, tagN_new hrb, NumsAt.nil _ _, fun k hk => absurd hk.1 (by simp [Src.nums]), by simp [Src.nums], BytesAt.nil _ _, fun k hk => absurd hk.1 (by simp), by simp, by omega, fun _ => ⟨rfl, rfl⟩, (fun ad e => by cases e)⟩,
      ⟨Nat.zero_le _, by omega, fun _ => ⟨by omega, by simp⟩, fun L e => (by cases e)⟩⟩
  clear hd
  go_enter Try.func12, Try.ntmps12
  go_wp2_with fail
  refine Calls.mono HI.out ?_
  rintro x w1 ⟨a, cap, rfl, q1, q2, k1⟩
  have K1 : Hid _ := k1
  clear q1 q2 k1
  go_wp2_with fail
  go_ret
  exact HP.out _ _ (K1.out.alloc _) K1.out.size (heap_new w1 _)
end Go.Proofs.Ytpjkmficpedmcaa
