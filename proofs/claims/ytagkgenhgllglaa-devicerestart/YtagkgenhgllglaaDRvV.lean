/- What is proved: the law of Restart returns true and leaves what was there alone; the setup, the script and the image lie in memory, within a machine's bounds. -/
import Derived.Test.YtagkgenhgllglaaDRvQ
import Derived.Test.YtagkgenhgllglaaDRvR
import Derived.Test.YtagkgenhgllglaaDRvU
namespace Go.Proofs.Ytagkgenhgllglaa
open Go.RowKit

theorem StepsAt.kept {w w' : World} {a : Option Addr} {ls : List St} (h : StepsAt w a ls) (k : Kept w w') : StepsAt w' a ls := fun i o ho => by
  obtain ⟨b, off, ha, hb, c0, c1, c2, hd, hn, hl⟩ := h i o ho
  exact ⟨b, off, ha, Nat.lt_of_lt_of_le hb k.size, (k.cell (p := ⟨b, _, none⟩) hb (fun h => h)).trans c0, (k.cell (p := ⟨b, _, none⟩) hb (fun h => h)).trans c1, (k.cell (p := ⟨b, _, none⟩) hb (fun h => h)).trans c2, hd.kept k (fun _ _ h => h), hn, hl⟩
theorem Left.kept {w w' : World} (h : Left w.heap.size w w') : Kept w w' := Same.mono h (fun _ h1 h2 => Nat.lt_irrefl _ (Nat.lt_of_lt_of_le h1 h2))

set_option maxRecDepth 100000 in
set_option maxHeartbeats 1600000 in
theorem rest_no (B S : Int) (ia ga fa : Option Addr) (ic gc fc : Nat) (l lg : List Int) (F : List Fl) (v v2 : Value) (w : World) (hl : BytesAt w ia l) (hg : BytesAt w ga lg) (hF : FaultsAt w fa F) (hnl : ia = none → l.length = 0 ∧ ic = 0) (hng : ga = none → lg.length = 0 ∧ gc = 0) (hnf : fa = none → F.length = 0 ∧ fc = 0) (b1 : l.length ≤ 140737488355328) (b2 : lg.length ≤ 140737488355328) (b3 : F.length * 32 ≤ 140737488355328) (hc : chk B S l.length lg.length F ≠ 0) :
    Calls Try.prog 4 #[setupV B S ia ga fa l.length ic lg.length gc F.length fc, v, v2] w fun e w' => e = .returned (.bool true) ∧ Kept w w' := by
  have hnot : ∀ (x : Bool) (w : World), (Op.unary .not (.bool x)).run Try.prog w = .ok (.bool (!x)) w := fun _ _ => rfl
  have hbx : (w.alloc (setupO B S ia ga fa l.length ic lg.length gc F.length fc)).heap[w.heap.size]? = some (setupO B S ia ga fa l.length ic lg.length gc F.length fc) := heap_new _ _
  have KW : Hid (Kept w (w.alloc (setupO B S ia ga fa l.length ic lg.length gc F.length fc))) := (Same.refl _ _).alloc _
  have hsz : w.heap.size < (w.alloc (setupO B S ia ga fa l.length ic lg.length gc F.length fc)).heap.size := by simp
  have HM : Hid (∀ W1, Kept w W1 → Calls Try.prog 7 #[setupV B S ia ga fa l.length ic lg.length gc F.length fc] W1 fun e w' => e = .returned (.tuple #[.pointer none, .pointer none, .bool true]) ∧ Kept W1 w') := fun W1 k =>
    made_no B S ia ga fa ic gc fc l lg F W1 (hl.kept k (fun _ _ h => h)) (hg.kept k (fun _ _ h => h)) (hF.kept k (fun _ _ h => h)) hnl hng hnf b1 b2 b3 hc
  unfold setupV at HM ⊢
  unfold setupO at hbx KW hsz
  generalize hW : w.alloc (.cells #[.int .i64 B, .int .i64 S, .slice ia l.length ic, .slice ga lg.length gc, .slice fa F.length fc] 25 (0, 0)) = W at hbx KW hsz
  have HA : Hid _ := anchor_any W
  have HBX : Hid (∀ W1, Kept W W1 → Kept W W1 ∧ W1.cell? ⟨w.heap.size, 0, none⟩ = some (.int .i64 B) ∧ W1.cell? ⟨w.heap.size, 1, none⟩ = some (.int .i64 S) ∧ W1.cell? ⟨w.heap.size, 2, none⟩ = some (.slice ia l.length ic) ∧ W1.cell? ⟨w.heap.size, 3, none⟩ = some (.slice ga lg.length gc) ∧ W1.cell? ⟨w.heap.size, 4, none⟩ = some (.slice fa F.length fc)) := fun W1 k => by
    have e := (k.block _ hsz (fun h => h)).trans hbx
    exact ⟨k, (cell_of e 0).trans rfl, (cell_of e 1).trans rfl, (cell_of e 2).trans rfl, (cell_of e 3).trans rfl, (cell_of e 4).trans rfl⟩
  clear hl hg hF hnl hng hnf b1 b2 b3 hc hbx
  go_enter Try.func4, Try.ntmps4
  go_wp2_with fail
  refine Calls.mono HA.out ?_
  rintro e w1 ⟨rfl, k1⟩
  obtain ⟨-, c0, c1, c2, c3, c4⟩ := HBX.out w1 k1
  have K1 : Hid _ := k1
  clear k1 hW
  go_wp2_with fail
  refine Calls.mono (HM.out _ (KW.out.trans' K1.out)) ?_
  rintro e w2 ⟨rfl, k2⟩
  go_wp2_with fail
  go_ret
  exact ⟨rfl, (KW.out.trans' K1.out).trans' k2⟩

set_option maxRecDepth 100000 in
set_option maxHeartbeats 3200000 in
theorem rest_yes (B S : Nat) (ia ga fa sa ma : Option Addr) (ic gc fc sc mc : Nat) (l lg im : List Int) (F : List Fl) (ls : List St) (w : World) (hl : BytesAt w ia l) (hg : BytesAt w ga lg) (hF : FaultsAt w fa F) (hs : StepsAt w sa ls) (hm : BytesAt w ma im) (hnl : ia = none → l.length = 0 ∧ ic = 0) (hng : ga = none → lg.length = 0 ∧ gc = 0) (hnf : fa = none → F.length = 0 ∧ fc = 0) (hnm : ma = none → im.length = 0 ∧ mc = 0) (b1 : l.length ≤ 140737488355328) (b2 : lg.length ≤ 140737488355328) (b3 : F.length * 32 ≤ 140737488355328) (b4 : ls.length * 40 ≤ 140737488355328) (b5 : im.length ≤ 140737488355328) (hc : chk B S l.length lg.length F = 0) :
    Calls Try.prog 4 #[setupV B S ia ga fa l.length ic lg.length gc F.length fc, .slice sa ls.length sc, .slice ma im.length mc] w fun e w' => e = .returned (.bool true) ∧ Kept w w' := by
  have hnot : ∀ (x : Bool) (w : World), (Op.unary .not (.bool x)).run Try.prog w = .ok (.bool (!x)) w := fun _ _ => rfl
  have hbx : (w.alloc (setupO B S ia ga fa l.length ic lg.length gc F.length fc)).heap[w.heap.size]? = some (setupO B S ia ga fa l.length ic lg.length gc F.length fc) := heap_new _ _
  have KW : Hid (Kept w (w.alloc (setupO B S ia ga fa l.length ic lg.length gc F.length fc))) := (Same.refl _ _).alloc _
  have hsz : w.heap.size < (w.alloc (setupO B S ia ga fa l.length ic lg.length gc F.length fc)).heap.size := by simp
  obtain ⟨z1, z2, z3, -⟩ := chk_zero hc
  have hci := chk_image hc im.length
  obtain ⟨t, et⟩ : ∃ t, t = B * S := ⟨_, rfl⟩
  have hbs : (B : Int) * (S : Int) = (t : Int) := by rw [et]; simp
  have hbs2 : t ≤ 4194304 := by rw [et]; exact Nat.le_trans (Nat.mul_le_mul z2 z3) (by decide)
  rw [hbs] at hci
  have HM : Hid (∀ W1, Kept w W1 → Calls Try.prog 7 #[setupV B S ia ga fa l.length ic lg.length gc F.length fc] W1 fun e w' => ∃ p q, e = .returned (.tuple #[.pointer (some ⟨p.db, 0, none⟩), .pointer (some ⟨q.db, 0, none⟩), .bool true]) ∧ Two W1.heap.size w' (M.made B S l lg F) p q [] ∧ Kept W1 w') := fun W1 k =>
    made_yes B S ia ga fa ic gc fc l lg F W1 (hl.kept k (fun _ _ h => h)) (hg.kept k (fun _ _ h => h)) (hF.kept k (fun _ _ h => h)) hnl hng hnf b1 b2 b3 hc
  have HP : Hid (∀ W1 W2 p q m, Two W1.heap.size W2 m p q [] → m.k = 0 → Kept w W1 → Kept W1 W2 → Calls Try.prog 8 #[.pointer (some ⟨p.db, 0, none⟩), .pointer (some ⟨q.db, 0, none⟩), .slice sa ls.length sc] W2 fun e w' => e = .returned (.bool true) ∧ ∃ m' v Q', Two W1.heap.size w' m' p { q with sv := v } Q' ∧ Kept W1 w' ∧ Fx m m') := fun W1 W2 p q m h hm0 k k' =>
    (play_any h sa sc ls (hs.kept k) (Same.mono k' (fun _ _ h => h.elim)) (by simp only [List.length_nil]; omega) (by rw [hm0]; omega)).mono (by
      rintro e w' ⟨he, m', v, Q', hT, hL, _, _, hx⟩
      exact ⟨he, m', v, Q', hT, Left.kept hL, hx⟩)
  have CM : Hid (∀ w1 (b : Addr), Kept w w1 → ∀ ty, ∃ v' w', (Builtin.append_ #[22, 22] ty #[.slice (some b) 0 0, .slice ma im.length mc]).run Try.prog w1 = .ok v' w' ∧ CloneB w1 im v' w') := fun w1 b k1 ty => clone_at b (hm.kept k1 (fun _ _ h => h)) hnm b5 ty
  have HRN : Hid (chk B S l.length im.length [] = 0 → ∀ W1, Kept w W1 → Calls Try.prog 10 #[.int .i64 B, .int .i64 S, .slice ia l.length ic, .slice ma im.length mc, .slice none 0 0] W1 fun e w' => ∃ q, e = .returned (.pointer (some ⟨q.db, 0, none⟩)) ∧ Rv w' (M.made B S l im []) q [] ∧ (∀ k, RFoot (M.made B S l im []) q k → W1.heap.size ≤ k) ∧ Kept W1 w') := fun h W1 k =>
    rnew_any B S ia ma none ic mc 0 l im [] W1 (hl.kept k (fun _ _ h => h)) (hm.kept k (fun _ _ h => h)) (FaultsAt.nil _ _) hnl (fun _ => ⟨rfl, rfl⟩) h
  have HRY : Hid (chk B S l.length im.length [] = 0 → ∀ W1 m' p a c, Dv W1 m' p → Fx (M.made B S l lg F) m' → BytesAt W1 a im → Calls Try.prog 9 #[.pointer (some ⟨p.db, 0, none⟩), .slice a im.length c] W1 fun e w' => ∃ q, e = .returned (.tuple #[.pointer (some ⟨q.db, 0, none⟩), .int .i64 0]) ∧ Dv w' (M.made B S l im []) q ∧ (∀ k, Foot (M.made B S l im []) q k → W1.heap.size ≤ k) ∧ Kept W1 w') := fun h W1 m' p a c hd hx ha => by
    obtain ⟨x1, x2, x3⟩ := hx
    have hB : m'.B = B := x1
    have hS : m'.S = S := x2
    have hI : m'.inp = l := x3
    have := restart_yes hd a c im ha (by rw [hB, hS, hI]; exact h)
    rw [hB, hS, hI] at this
    exact this
  have HRO : Hid (chk B S l.length im.length [] = 32 → ∀ W1 m' p a c, Dv W1 m' p → Fx (M.made B S l lg F) m' → Calls Try.prog 9 #[.pointer (some ⟨p.db, 0, none⟩), .slice a im.length c] W1 fun e w' => e = .returned (.tuple #[.pointer none, .int .i64 32]) ∧ Kept W1 w') := fun h W1 m' p a c hd hx => by
    obtain ⟨x1, x2, x3⟩ := hx
    have hB : m'.B = B := x1
    have hS : m'.S = S := x2
    have hI : m'.inp = l := x3
    exact restart_no hd a im.length c b5 (by rw [hB, hS, hI]; exact h)
  unfold setupV at HM ⊢
  unfold setupO at hbx KW hsz
  generalize hW : w.alloc (.cells #[.int .i64 B, .int .i64 S, .slice ia l.length ic, .slice ga lg.length gc, .slice fa F.length fc] 25 (0, 0)) = W at hbx KW hsz
  have HA : Hid _ := anchor_any W
  have HBX : Hid (∀ W1, Kept W W1 → Kept W W1 ∧ W1.cell? ⟨w.heap.size, 0, none⟩ = some (.int .i64 B) ∧ W1.cell? ⟨w.heap.size, 1, none⟩ = some (.int .i64 S) ∧ W1.cell? ⟨w.heap.size, 2, none⟩ = some (.slice ia l.length ic) ∧ W1.cell? ⟨w.heap.size, 3, none⟩ = some (.slice ga lg.length gc) ∧ W1.cell? ⟨w.heap.size, 4, none⟩ = some (.slice fa F.length fc)) := fun W1 k => by
    have e := (k.block _ hsz (fun h => h)).trans hbx
    exact ⟨k, (cell_of e 0).trans rfl, (cell_of e 1).trans rfl, (cell_of e 2).trans rfl, (cell_of e 3).trans rfl, (cell_of e 4).trans rfl⟩
  have HBS : Hid _ := hbs
  have HCI : Hid _ := hci
  clear hl hg hF hs hm hnl hng hnf hnm b1 b2 b3 b4 hc hbx z1 z2 z3 et hci hbs
  go_enter Try.func4, Try.ntmps4
  go_wp2_with fail
  refine Calls.mono HA.out ?_
  rintro e w1 ⟨rfl, k1⟩
  obtain ⟨-, c0, c1, c2, c3, c4⟩ := HBX.out w1 k1
  have K1 : Hid _ := k1
  clear k1 hW
  go_wp2_with fail
  refine Calls.mono (HM.out _ (KW.out.trans' K1.out)) ?_
  rintro e w2 ⟨p, q, rfl, h2, k2⟩
  have HC2 : Hid _ := HP.out w1 w2 p q _ h2 rfl (KW.out.trans' K1.out) k2
  clear h2 k2 c0 c1 c2 c3 c4
  go_wp2_with fail
  refine Calls.mono HC2.out ?_
  rintro e w3 ⟨rfl, m', v, Q', h3, k3, x3⟩
  have H3 : Hid _ := h3
  have X3 : Hid _ := x3
  have K3 : Hid (Kept W w3) := K1.out.trans' k3
  clear h3 x3 k3 HC2
  go_wp2_with (at_builtin; apply Hid.out)
  refine wpList_app rfl (.tmp 35) (.tmp 36) 22 rfl (.slice (some ⟨_, 0, none⟩) 0 0) (.slice ma im.length mc) rfl rfl _ (CM.out _ _ ((KW.out.trans' K3.out).alloc _)) ?_
  rintro v4 w4 ⟨a4, d4, rfl, g4, -, -, -, k4⟩
  have K34 : Hid (Kept w3 w4) := ((Same.refl _ w3).alloc _).trans' k4
  have G4 : Hid _ := g4
  clear k4 g4
  by_cases hgt : t < im.length
  · have c32 : chk B S l.length im.length [] = 32 := by rw [HCI.out, if_pos (by omega)]
    have HR : Hid _ := HRO.out c32 w4 m' p a4 d4 (H3.out.d.kept0 K34.out) X3.out
    clear c32
    go_wp2_with fail
    refine Calls.mono HR.out ?_
    rintro e w5 ⟨rfl, k5⟩
    obtain ⟨-, c0, c1, c2, -, -⟩ := HBX.out w5 ((K3.out.trans' K34.out).trans' k5)
    have hbs := HBS.out
    have d1 : decide ((t : Int) < (im.length : Int)) = true := by simp only [decide_eq_true_eq]; omega
    have K5 : Hid _ := k5
    clear k5
    go_wp2_with fail
    go_ret
    exact ⟨rfl, ((KW.out.trans' K3.out).trans' K34.out).trans' K5.out⟩
  · have c00 : chk B S l.length im.length [] = 0 := by rw [HCI.out, if_neg (by omega)]
    have HR : Hid _ := HRY.out c00 w4 m' p a4 d4 (H3.out.d.kept0 K34.out) X3.out G4.out
    have HRN2 : Hid _ := HRN.out c00
    clear c00
    go_wp2_with fail
    refine Calls.mono HR.out ?_
    rintro e w5 ⟨p2, rfl, d5, f5, k5⟩
    have K45 : Hid _ := k5
    have D5 : Hid _ := d5
    have F5 : Hid _ := f5
    obtain ⟨-, c0, c1, c2, -, -⟩ := HBX.out w5 ((K3.out.trans' K34.out).trans' k5)
    have hbs := HBS.out
    have d1 : decide ((t : Int) < (im.length : Int)) = false := by simp only [decide_eq_false_iff_not]; omega
    have HN5 : Hid _ := HRN2.out w5 (((KW.out.trans' K3.out).trans' K34.out).trans' k5)
    clear k5 d5 f5
    go_wp2_with fail
    refine Calls.mono HN5.out ?_
    rintro e w6 ⟨q2, rfl, r6, f6, k6⟩
    have K36 : Hid (Kept w3 w6) := (K34.out.trans' K45.out).trans' k6
    have T6 : Hid (Two w3.heap.size w6 (M.made B S l im []) p2 q2 []) := by
      have hdl : ∀ k, Foot (M.made B S l im []) p2 k → k < w5.heap.size := fun k hk => Dv.lt D5.out hk
      have hrl : ∀ k, RFoot (M.made B S l im []) q2 k → w5.heap.size ≤ k := f6
      have s1 := K34.out.size
      have s2 := K45.out.size
      refine ⟨D5.out.kept0 k6, r6, fun k hk e => ?_, fun k hk e => ?_, fun k hk => ?_, fun k hk => ?_⟩
      · have y1 := hdl k hk; have y2 := hrl k (.inl e); omega
      · have y1 := hdl k (.inl e); have y2 := hrl k hk; omega
      · have y1 := F5.out k (.inl hk); omega
      · have y1 := hrl k (.inl hk); omega
    have HT6 : Hid _ := tells_any T6.out.d T6.out.r
    clear r6 f6 k6 c0 c1 c2 hbs d1
    go_wp2_with fail
    refine Calls.mono HT6.out ?_
    rintro e w7 ⟨rfl, k7⟩
    have HP7 : Hid _ := HP.out w3 w7 p2 q2 _ (T6.out.on k7) rfl (KW.out.trans' K3.out) (K36.out.trans' k7)
    clear k7
    go_wp2_with fail
    refine Calls.mono HP7.out ?_
    rintro e w8 ⟨rfl, -, -, -, -, k8, -⟩
    have H8 : Hid _ := H3.out.on k8
    have K8 : Hid _ := k8
    have HT8 : Hid _ := tells_any H8.out.d H8.out.r
    clear k8
    go_wp2_with fail
    refine Calls.mono HT8.out ?_
    rintro e w9 ⟨rfl, k9⟩
    go_wp2_with fail
    go_ret
    exact ⟨rfl, ((KW.out.trans' K3.out).trans' K8.out).trans' k9⟩
end Go.Proofs.Ytagkgenhgllglaa
