/- What is proved: the document's scanner in memory: entry where a body is whole; no condition. -/
import Derived.Test.YtmajfclkhjnahaaLRs
import Derived.Test.YtmajfclkhjnahaaLBody
import Derived.Test.YtmajfclkhjnahaaRRDec
import Derived.Deep.RegionWith
namespace Go.Proofs.Ytmajfclkhjnahaa
open Go.RowKit

/-- What entry and Next of the document's scanner answer and leave. -/
def RsR (w : World) (rb : Nat) (oa : Option Addr) (c : Nat) (d : List Int) (en : Bool) (r : Option TxM × Sc) (x : Ending) (w' : World) : Prop :=
  ∃ tv, x = .returned (.tuple #[tv, .bool r.1.isSome, .int .i64 r.2.er]) ∧ NxV w.heap.size w' r.1 tv ∧ Rs w' rb oa c d en r.2 ∧ Same (fun k => k = rb) w w'
section
variable {w w' : World} {rb : Nat} {oa : Option Addr} {c : Nat} {d : List Int} {en : Bool} {s : Sc}
theorem entry_of {d : List Int} {en : Bool} {s : Sc} {m z : Nat} {e : Int} (hq : num 8 (d.drop s.pl) = (m, z, e)) : entry d en s = if e ≠ 0 then (none, s.stop en s.pl e) else if 512 < m then (none, { s with er := 53 }) else if m = 0 then (none, foot d en s) else if 4096 ≤ s.ct then (none, { s with er := 71 }) else if d.length < s.pl + z + m then (none, s.stop en s.pl 51) else body0 d s z m := by
  unfold entry
  rw [hq]
  rfl
/-- The two boxes of entry, in any later world that wrote the scanner alone. -/
theorem two_box {w2 : World} (k2 : Same (fun k => k = rb) ((w.alloc (.cells txz 37 (0, 0))).alloc (.cells txz 37 (0, 0))) w2) (hlt : rb < w.heap.size) : w2.heap[w.heap.size]? = some (.cells txz 37 (0, 0)) ∧ w2.heap[w.heap.size + 1]? = some (.cells txz 37 (0, 0)) :=
  Same.two k2 (fun e => by omega) (fun e => by omega)
theorem own_low {X W0 w1 : World} {v : Value} {l : List OpM} (k : Kept X W0) (o : OwnO W0.heap.size w1 v l) : OwnO X.heap.size w1 v l := OwnO.lower o k.size
theorem Rs.past {W : World} {B : Nat} (h : Rs w rb oa c d en s) (hW : Same (fun k => k = B) w W) (hne : ¬ rb = B) (hd : ∀ k, InB oa d.length k → k < B) : Rs W rb oa c d en s :=
  ⟨(hW.block _ h.lt hne).trans h.obj, ⟨h.arg.data.kept hW (fun k hk e => by have := hd k hk; omega), h.arg.nil, h.arg.cap, h.arg.byts, h.arg.len⟩, h.ne, h.ple, h.cts⟩
/-- Nothing was read: the answer's box is written with nothing. -/
theorem rs_none0 {w2 : World} {s' : Sc} (k2 : Same (fun k => k = rb) w w2) (hlt : rb < w.heap.size) (h2 : Rs w2 rb oa c d en s') (hd : ∀ k, InB oa d.length k → k < w.heap.size) (W : World) (hW : Same (fun k => k = w.heap.size) w2 W) :
    RsR w rb oa c d en (none, s') (.returned (.tuple #[.agg #[.int .i64 0, .int .i64 0, .int .i64 0, .int .i64 0, .int .i64 0, .int .i64 0, .int .i64 0, .slice none 0 0], .bool false, .int .i64 s'.er])) W := by
  refine ⟨_, rfl, rfl, ⟨(hW.block _ h2.lt (fun e => by omega)).trans h2.obj, ⟨h2.arg.data.kept hW (fun k hk e => by have := hd k hk; omega), h2.arg.nil, h2.arg.cap, h2.arg.byts, h2.arg.len⟩, h2.ne, h2.ple, h2.cts⟩, ?_⟩
  exact k2.trans hW (fun i hi e => absurd hi (by rw [e]; exact Nat.lt_irrefl _))
theorem rs_none {w2 : World} {s' : Sc} (k2 : Same (fun k => k = rb) ((w.alloc (.cells txz 37 (0, 0))).alloc (.cells txz 37 (0, 0))) w2) (hlt : rb < w.heap.size) (h2 : Rs w2 rb oa c d en s') (hd : ∀ k, InB oa d.length k → k < w.heap.size) (W : World) (hW : Same (fun k => k = w.heap.size) w2 W) :
    RsR w rb oa c d en (none, s') (.returned (.tuple #[.agg #[.int .i64 0, .int .i64 0, .int .i64 0, .int .i64 0, .int .i64 0, .int .i64 0, .int .i64 0, .slice none 0 0], .bool false, .int .i64 s'.er])) W :=
  rs_none0 ((Same.refl (fun k => k = rb) w).alloc _ |>.alloc _ |>.trans' k2) hlt h2 hd W hW
set_option maxRecDepth 100000 in
set_option maxHeartbeats 1600000 in
theorem rentry_body (h : Rs w rb oa c d en s) (h0 : s.er = 0) {m z : Nat} (hq : num 8 (d.drop s.pl) = (m, z, 0)) (hm5 : m ≤ 512) (hm0 : m ≠ 0) (hc : s.ct < 4096) (hl : s.pl + z + m ≤ d.length) : Calls Try.prog 20 #[.pointer (some ⟨rb, 0, none⟩)] w fun x w' => RsR w rb oa c d en (entry d en s) x w' := by
  have hle := h.arg.le
  have hlt := h.lt
  have hd : Hid (∀ k, InB oa d.length k → k < w.heap.size) := fun k hk => h.arg.data.lt hk
  have hone := num_one (k := 8) (l := d.drop s.pl) (Nat.le_refl _) (h.arg.byts.drop _)
  rw [hq, List.length_drop] at hone
  obtain ⟨-, (o1 : z ≤ d.length - s.pl), (o2 : 1 ≤ z), (o3 : z ≤ 8), -, -⟩ := hone rfl
  have hE : entry d en s = body0 d s z m := by
    rw [entry_of hq, if_neg (by decide), if_neg (by omega), if_neg hm0, if_neg (by omega), if_neg (by omega)]
  rw [hE]
  obtain ⟨x0, hx0⟩ : ∃ x, d[0]? = some x := ⟨_, List.getElem?_eq_getElem (by omega)⟩
  obtain ⟨g, off, rfl, -, -⟩ := h.arg.data 0 x0 hx0
  have ell : ((d.drop (s.pl + z)).take m).length = m := by rw [List.length_take, List.length_drop]; omega
  have hby : Byts ((d.drop (s.pl + z)).take m) := (h.arg.byts.drop _).take _
  have HR : Hid (∀ W, Kept w W → Rs W rb (some ⟨g, off, none⟩) c d en s) := fun W k => h.on k
  have HAT : Hid (∀ k, Calls Try.prog 32 #[.slice (some ⟨g, off, none⟩) d.length c, .int .i64 (s.pl : Int)] (((w.alloc (.cells txz 37 (0, 0))).alloc (.cells txz 37 (0, 0))).drewN k) fun x w' => x = .returned (.tuple #[.int .i64 (m : Int), .int .i64 (z : Int), .int .i64 0]) ∧ w' = (((w.alloc (.cells txz 37 (0, 0))).alloc (.cells txz 37 (0, 0))).drewN k)) := fun k => by
    have := at_any (((w.alloc (.cells txz 37 (0, 0))).alloc (.cells txz 37 (0, 0))).drewN k) (some ⟨g, off, none⟩) c d s.pl (h.on ((((Same.refl _ w).alloc _).alloc _).drewN k)).arg.data h.arg.byts (by omega) h.ple
    rw [hq] at this
    exact this
  have HD : Hid (∀ W, Kept w W → ∀ c', m ≤ c' → Calls Try.prog 34 #[.slice (some ⟨g, off + (s.pl + z), none⟩) m c'] W (DcP W ((d.drop (s.pl + z)).take m))) := fun W k c' hc' => by
    have := refDec_any W (some ⟨g, off + (s.pl + z), none⟩) c' ((d.drop (s.pl + z)).take m) ⟨bytes_sub ((h.on k).arg.data) (s.pl + z) m, (fun e => by cases e), (by rw [ell]; exact hc'), hby, (by have := h.arg.len; rw [ell]; omega)⟩
    rw [ell] at this
    exact this
  obtain ⟨c0, -, c2, c3, -, -⟩ := h.cells
  have f2 := h.fro 2
  have f3 := h.fro 3
  have hcap := h.arg.cap
  have H : Hid _ := h
  have HC : Hid _ := hc
  have HL : Hid _ := hl
  have H0 : Hid _ := h0
  obtain ⟨n, en'⟩ : ∃ n, n = d.length := ⟨_, rfl⟩
  have EN : Hid _ := en'
  rw [← en'] at c0 HAT hle hcap
  have hni : (n : Int) ≤ 140737488351232 := by omega
  have hpi : (s.pl : Int) ≤ (n : Int) := by have := h.ple; omega
  have g3 : decide ((m : Int) > 512) = false := decide_eq_false (by omega)
  have g3' : (m : Int) ≤ 512 := by omega
  have g4 : ((m : Int) == 0) = false := by simpa using hm0
  have g5 : decide ((s.ct : Int) ≥ 4096) = false := decide_eq_false (by omega)
  have g5' : (s.ct : Int) < 4096 := by omega
  obtain ⟨R, eR⟩ : ∃ R, R = n - s.pl - z := ⟨_, rfl⟩
  have hR1 : (n : Int) - (s.pl : Int) - (z : Int) = (R : Int) := by have := h.ple; omega
  have hzi : (z : Int) ≤ 8 := by omega
  have hRi : (R : Int) ≤ 140737488351232 := by omega
  have g6 : decide ((m : Int) > (R : Int)) = false := decide_eq_false (by omega)
  have g6' : (m : Int) ≤ (R : Int) := by omega
  obtain ⟨P, eP⟩ : ∃ P, P = s.pl + z := ⟨_, rfl⟩
  have hP : (s.pl : Int) + (z : Int) = (P : Int) := by omega
  obtain ⟨Q, eQ⟩ : ∃ Q, Q = P + m := ⟨_, rfl⟩
  have hQ : (P : Int) + (m : Int) = (Q : Int) := by omega
  have hPi : (P : Int) ≤ 140737488351232 := by omega
  have hQi : (Q : Int) ≤ 140737488351232 := by omega
  have hM1 : P ≤ Q ∧ Q ≤ n ∧ Q - P = m ∧ P < c ∧ Q ≤ c := by omega
  obtain ⟨hM1, hM2, hM3, hM4, hM5⟩ := hM1
  have hM6 : ¬ c = P := by omega
  have EP : Hid _ := eP
  have EQ : Hid _ := eQ
  rw [← eP] at HD
  clear h hq hone h0 en' hm0 hc hl hm5 eR eP eQ hE hx0 ell hby o1 o2 o3
  go_enter Try.func20, Try.ntmps20
  go_wp2_with fail
  go_quiet ((go_at_call 32; exact Calls.quiet_of_same (HAT.out _)))
  go_wp2_with fail
  go_quiet (fail)
  go_wp2_with fail
  refine Calls.mono (HD.out _ (by (repeat (first | exact Same.refl _ _ | apply Same.drewN | apply Same.drew | apply Same.alloc)); done) _ (by omega)) ?_
  rintro x w1 ⟨k1, hx⟩
  have ka : Kept ((w.alloc (.cells txz 37 (0, 0))).alloc (.cells txz 37 (0, 0))) w1 := Same.trans' (by (repeat (first | exact Same.refl _ _ | apply Same.drewN | apply Same.drew)); done) k1
  obtain ⟨x1, x2⟩ := Same.two ka (fun h => h) (fun h => h)
  have K1 : Hid (Kept w w1) := (((Same.refl _ w).alloc _).alloc _).trans' ka
  have hsz : w.heap.size + 1 + 1 ≤ w1.heap.size := by have := ka.size; simpa only [World.size_alloc] using this
  have X1 : Hid _ := x1
  have X2 : Hid _ := x2
  have hs1 : ¬ w1.heap.size = rb := by omega
  have hne : ¬ w.heap.size = rb := by omega
  clear ka x1 x2
  cases hdc : decode ((d.drop P).take m) with
  | error pe =>
    obtain ⟨p, e⟩ := pe
    rw [hdc] at hx
    simp only at hx
    subst hx
    have hen := EN.out
    have hlm : ((d.drop P).take m).length ≤ m := List.length_take_le _ _
    obtain ⟨q1, q2⟩ := dec_fits ((H.out.arg.byts.drop P).take m) hdc
    have he : (e != 0) = true := by simpa using q2
    obtain ⟨T, eT⟩ : ∃ T, T = P + p := ⟨_, rfl⟩
    have hT : (P : Int) + (p : Int) = (T : Int) := by omega
    have hTn : Hid (T ≤ d.length) := by show T ≤ d.length; omega
    have hTi : (T : Int) ≤ 140737488351232 := by omega
    have hpi2 : (p : Int) ≤ 140737488351232 := by omega
    have hwT : IntKind.i64.wrap (T : Int) = (T : Int) := by rw [IntKind.wrap_i64]; omega
    have ET : Hid _ := eT
    have HDC : Hid _ := hdc
    clear k1 hlm q1 q2 eT hdc hen
    rw [show txV t0 (.slice none 0 0) = .agg #[.int .i64 0, .int .i64 0, .int .i64 0, .int .i64 0, .int .i64 0, .int .i64 0, .int .i64 0, .slice none 0 0] from rfl]
    obtain ⟨kb, xb, -⟩ := box_all K1.out X1.out (.cells txz 37 (0, 0))
    have yb : (w1.alloc (.cells txz 37 (0, 0))).heap[w.heap.size + 1]? = some (.cells txz 37 (0, 0)) := (heap_old _ _ (lt_of_heap X2.out)).trans X2.out
    obtain ⟨⟨y0, y1, y2, y3, y4, y5, y6, y7⟩, -⟩ := tx_obj X2.out
    have KB : Hid _ := kb
    have XB : Hid _ := xb
    have YB : Hid _ := yb
    have hxlt := lt_of_heap X1.out
    have hylt := lt_of_heap X2.out
    clear kb xb yb
    go_wp2_with fail
    go_region_with (go_at_call 19; refine Calls.mono (rfail_any (HR.out _ (by (repeat (first | exact KB.out | apply Same.drewN | apply Same.drew)); done)) T hTn.out e) ?_; rintro x w2 ⟨rfl, s2, k2⟩; have k3 : Same (fun k => k = rb) (w1.alloc (.cells txz 37 (0, 0))) w2 := Same.trans' (by (repeat (first | exact Same.refl _ _ | apply Same.drewN | apply Same.drew)); done) k2; have b1 := (k3.block _ (lt_of_heap XB.out) hne).trans XB.out; have b2 := (k3.block _ (lt_of_heap YB.out) (fun e => by omega)).trans YB.out; obtain ⟨⟨m0, m1, m2, m3, m4, m5, m6, m7⟩, f0, f1, f2, f3, f4, f5, f6, f7⟩ := tx_obj b1; obtain ⟨⟨u0, u1, u2, u3, u4, u5, u6, u7⟩, -⟩ := tx_obj b2; have S2 : Hid _ := s2; have K3 : Hid (Same (fun k => k = rb) w w2) := (Kept.to KB.out _).trans' k3; have B1 : Hid _ := b1; clear s2 k2 k3 b1 b2)
    all_goals go_wp2_with fail
    all_goals refine bodyPost_ret (res_ctt (a := 2) (t := 37) (u := 3) (s := 4) rfl rfl (loadVar_tx (put8_at B1.out _ _ _ _ _ _ _ _))) rfl ?_
    all_goals (have hb0 : body0 d s z m = (none, { s with pl := T, er := e }) := by unfold body0; rw [← EP.out, HDC.out, ET.out])
    all_goals rw [hb0]
    all_goals exact rs_none0 K3.out hlt S2.out hd.out _ (put8_same _ _ _ _ _ _ _ _ _ _)
  | ok t =>
    rw [hdc] at hx
    simp only at hx
    obtain ⟨v, rfl, o1⟩ := hx
    obtain ⟨ao, co, rfl, -⟩ := OwnO.ops o1
    have hsz2 : w.heap.size + 1 + 1 ≤ w1.heap.size := hsz
    have O1 : Hid (OwnO (w.heap.size + 1 + 1) w1 (.slice ao t.ops.length co) t.ops) := by
      have := own_low (X := (w.alloc (.cells txz 37 (0, 0))).alloc (.cells txz 37 (0, 0))) (by (repeat (first | exact Same.refl _ _ | apply Same.drewN | apply Same.drew)); done) o1
      simp only [World.size_alloc] at this
      exact this
    have HDC : Hid _ := hdc
    clear k1 hdc o1
    rw [show txV t (.slice ao t.ops.length co) = .agg #[.int .i64 t.f0, .int .i64 t.f1, .int .i64 t.f2, .int .i64 t.f3, .int .i64 t.f4, .int .i64 t.f5, .int .i64 t.f6, .slice ao t.ops.length co] from rfl]
    obtain ⟨kb, xb, zb⟩ := box_all K1.out X1.out (.cells #[.int .i64 t.f0, .int .i64 t.f1, .int .i64 t.f2, .int .i64 t.f3, .int .i64 t.f4, .int .i64 t.f5, .int .i64 t.f6, .slice ao t.ops.length co] 37 (0, 0))
    obtain ⟨⟨m0, m1, m2, m3, m4, m5, m6, m7⟩, e0, e1, e2, e3, e4, e5, e6, e7⟩ := tx_obj X1.out
    obtain ⟨-, -, r2, r3, -, -⟩ := (HR.out _ K1.out).cells
    have rf2 := (HR.out _ K1.out).fro 2
    have rf3 := (HR.out _ K1.out).fro 3
    have hrlt := (HR.out _ K1.out).lt
    have hxlt := lt_of_heap X1.out
    have KB : Hid _ := kb
    have XB : Hid _ := xb
    clear kb xb zb
    go_wp2_with fail
    have hs2 : Same (fun k => k = rb) w1 ((w1.setCell ⟨rb, 2, none⟩ (.int .i64 (Q : Int))).setCell ⟨rb, 3, none⟩ (.int .i64 ((s.ct : Int) + 1))) := Same.setCell (Same.setCell (S := fun k => k = rb) (Same.refl _ w1) _ (.inr rfl) _) _ (.inr rfl) _
    have b3 := (hs2.block _ (lt_of_heap X1.out) hne).trans X1.out
    have p8 := put8_at b3 (.int .i64 t.f0) (.int .i64 t.f1) (.int .i64 t.f2) (.int .i64 t.f3) (.int .i64 t.f4) (.int .i64 t.f5) (.int .i64 t.f6) (.slice ao t.ops.length co)
    have q8 := put8_same ((w1.setCell ⟨rb, 2, none⟩ (.int .i64 (Q : Int))).setCell ⟨rb, 3, none⟩ (.int .i64 ((s.ct : Int) + 1))) w.heap.size (.int .i64 t.f0) (.int .i64 t.f1) (.int .i64 t.f2) (.int .i64 t.f3) (.int .i64 t.f4) (.int .i64 t.f5) (.int .i64 t.f6) (.slice ao t.ops.length co)
    refine bodyPost_ret (res_ctt (a := 2) (t := 37) (u := 3) (s := 4) rfl rfl (loadVar_tx ((heap_old _ _ (lt_of_heap p8)).trans p8))) rfl ?_
    have hb0 : body0 d s z m = (some t, { s with pl := Q, ct := s.ct + 1 }) := by unfold body0; rw [← EP.out, HDC.out, EQ.out]
    rw [hb0]
    have r1 : Rs _ rb (some ⟨g, off, none⟩) c d en { s with pl := Q, ct := s.ct + 1 } := (HR.out _ K1.out).turn hs2 (setCell_at (setCell_at (HR.out _ K1.out).obj 2 _) 3 _) (by rw [← EN.out]; exact hM2) HC.out
    have o2 := OwnO.kept (OwnO.kept O1.out hs2 (fun k e (e2 : k = rb) => by have := (OwnO.block O1.out e).1; omega)) q8 (fun k e (e2 : k = w.heap.size) => by have := (OwnO.block O1.out e).1; omega)
    have kf : Same (fun k => k = rb) w _ := ((Kept.to K1.out _).trans' hs2).trans q8 (fun i hi e => absurd hi (by rw [e]; exact Nat.lt_irrefl _))
    refine ⟨_, ?_, ⟨ao, co, rfl, (OwnO.lower o2 (by omega)).on ((Same.refl _ _).alloc _)⟩, (r1.past q8 (fun e => hne e.symm) hd.out).on ((Same.refl _ _).alloc _), kf.alloc _⟩
    show _ = Ending.returned (.tuple #[_, .bool true, .int .i64 s.er])
    rw [H0.out]
    rfl
end
end Go.Proofs.Ytmajfclkhjnahaa
