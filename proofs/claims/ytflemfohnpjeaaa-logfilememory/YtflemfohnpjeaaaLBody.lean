/- What is proved: a scanner's readBody: what it answers and leaves; the bounds that a machine's memory sets. -/
import Derived.Test.YtflemfohnpjeaaaLEnt
namespace Go.Proofs.Ytflemfohnpjeaaa
open Go.RowKit

/-- A transaction or none, as a value. -/
def NxV (base : Nat) (w : World) (o : Option TxM) (tv : Value) : Prop :=
  match o with
  | none => tv = txV t0 (.slice none 0 0)
  | some t => ∃ a c, tv = txV t (.slice a t.ops.length c) ∧ OwnO base w (.slice a t.ops.length c) t.ops
section
variable {base : Nat} {w w' : World} {sb : Nat} {v : Value} {d : List Int} {en : Bool} {s : Sc}
theorem At.below (h : At base w sb v d en s) {k : Nat} (hk : v.ownBlock = some k) : k < w.heap.size := (h.sn.row.block hk).2
theorem Left.after {w1 w2 : World} {s' : Sc} (h : Left base w sb v d en s' w1) (hsb : sb < w.heap.size) (hv : ∀ k, v.ownBlock = some k → k < w.heap.size) (hs : Same (fun k => w.heap.size ≤ k) w1 w2) : Left base w sb v d en s' w2 := by
  obtain ⟨⟨v', a, b⟩, c⟩ := h
  exact ⟨⟨v', a.kept hs (by omega) (fun k e => Nat.not_le.2 (hv k (b k e))), b⟩, c.trans hs fun i hi e => absurd e (Nat.not_le.2 hi)⟩
theorem put8_new {w1 : World} {B b : Nat} (hb : B ≤ b) (v0 v1 v2 v3 v4 v5 v6 v7 : Value) : Same (fun k => B ≤ k) w1 (put8 w1 b v0 v1 v2 v3 v4 v5 v6 v7) := (put8_same w1 b v0 v1 v2 v3 v4 v5 v6 v7).mono fun k _ (e : k = b) => e ▸ hb
/-- A new box, and what was there. -/
theorem box_all {w1 : World} {x : Obj} (k : Kept w w1) (h : w1.heap[w.heap.size]? = some x) (o : Obj) : Kept w (w1.alloc o) ∧ (w1.alloc o).heap[w.heap.size]? = some x ∧ (w1.alloc o).heap[w1.heap.size]? = some o :=
  ⟨k.alloc o, (heap_old _ _ (lt_of_heap h)).trans h, heap_new w1 o⟩
/-- What a reading answers and leaves. -/
def ReadR (base : Nat) (w : World) (sb : Nat) (v : Value) (d : List Int) (en : Bool) (r : Option TxM × Sc) (x : Ending) (w' : World) : Prop :=
  ∃ tv, x = .returned (.tuple #[tv, .bool r.1.isSome]) ∧ NxV w.heap.size w' r.1 tv ∧ Left base w sb v d en r.2 w'
set_option maxRecDepth 100000 in
set_option maxHeartbeats 1600000 in
theorem sbody_any (h : At base w sb v d en s) (h0 : s.er = 0) (hf : s.ft = false) (hp : s.pl ≠ 0) (hc : s.ct < 4096) (n m : Nat) (hm : 0 < m) (hm5 : m ≤ 512) (hl : s.pl + n + m ≤ d.length) : Calls Try.prog 37 #[.pointer (some ⟨sb, 0, none⟩), .int .i64 (n : Int), .int .i64 ((n + m : Nat) : Int)] w fun x w' => ReadR base w sb v d en (body0 d s n m) x w' := by
  have hr : restOf d s = d.drop s.pl := rest_0 h0
  have hrl : (restOf d s).length = d.length - s.pl := by rw [hr, List.length_drop]
  obtain ⟨a, cap, rfl, hd, hcap, hmax, hz, hsp⟩ := h.sn.row.bytes
  have hlen := h.len
  cases a with
  | none =>
    have := (hz rfl).1
    omega
  | some ad =>
  obtain ⟨g, off, sp⟩ := ad
  obtain rfl : sp = none := hsp _ rfl
  obtain ⟨-, c1, -, c3, -, -⟩ := h.sn.cells
  have hlt := h.sn.lt
  have el : ((restOf d s).drop n).take m = (d.drop (s.pl + n)).take m := by rw [hr, List.drop_drop]
  have ell : ((d.drop (s.pl + n)).take m).length = m := by rw [List.length_take, List.length_drop]; omega
  have hbs : Hid (BytesAt w (some ⟨g, off + n, none⟩) ((d.drop (s.pl + n)).take m)) := by rw [← el]; exact bytes_sub hd n m
  have hby : Byts ((d.drop (s.pl + n)).take m) := (h.byts.drop _).take _
  have H : Hid _ := h
  have H0 : Hid _ := h0
  have HF : Hid _ := hf
  have HPL : Hid _ := hp
  have HC : Hid _ := hc
  have HL : Hid _ := hl
  have hv : ∀ k, (Value.slice (some ⟨g, off, none⟩) (restOf d s).length cap).ownBlock = some k → k < w.heap.size := fun k e => h.below e
  have HV : Hid _ := hv
  obtain ⟨R, eR⟩ : ∃ R, R = (restOf d s).length := ⟨_, rfl⟩
  obtain ⟨M, eM⟩ : ∃ M, M = n + m := ⟨_, rfl⟩
  have hMi : (M : Int) ≤ 211106232532992 := by omega
  have hM1 : n ≤ M ∧ M ≤ R ∧ M - n = m ∧ n < cap ∧ R ≤ cap := by omega
  obtain ⟨hM1, hM2, hM3, hM4, hM5⟩ := hM1
  have hM6 : ¬ cap = n := by omega
  have hM7 : M ≤ cap := by omega
  have ER : Hid _ := eR
  have EM : Hid _ := eM
  rw [← eR] at c1
  rw [← eM]
  have hci : (s.ct : Int) < 4096 := by omega
  cases hdc : decode ((d.drop (s.pl + n)).take m) with
  | error pe =>
    obtain ⟨p, e⟩ := pe
    obtain ⟨f1, f2⟩ := dec_fits hby hdc
    have HD : Hid (∀ W, Kept w W → ∀ c, Calls Try.prog 49 #[.slice (some ⟨g, off + n, none⟩) m c] W _) := fun W k c => by
      have := decode_bad (c := c) (hbs.out.kept k (fun _ _ h => h)) (fun e => by cases e) (by rw [ell]; omega) hby hdc
      rw [ell] at this
      exact this
    have HFL : Hid (∀ W, Kept w W → ∀ q : Nat, q = n + p → ∀ z, _) := fun W (k : Kept w W) q (e : q = n + p) z => sfail_any (h.sn.on k) q (by omega) z
    have he : (e != 0) = true := by simpa using f2
    have HE2 : Hid _ := f2
    obtain ⟨q, eq⟩ : ∃ q, q = n + p := ⟨_, rfl⟩
    have hq : (n : Int) + (p : Int) = (q : Int) := by omega
    have hpi : (p : Int) ≤ 211106232532992 := by omega
    have hni : (n : Int) ≤ 211106232532992 := by omega
    have EQ : Hid _ := eq
    have HPM : Hid (p ≤ m) := by show p ≤ m; omega
    have HDC : Hid _ := hdc
    clear h h0 hf hp hc hl hr hrl hd hz hsp el ell hby eR eM f1 f2 eq hcap hmax hdc hlen
    go_enter Try.func37, Try.ntmps37
    go_wp2_with fail
    refine Calls.mono (HD.out _ ((Same.refl _ w).alloc _) _) ?_
    rintro x w1 ⟨rfl, k1⟩
    have x1 : w1.heap[w.heap.size]? = some (.cells txz 40 (0, 0)) := (k1.block _ (by simp [World.size_alloc]) (fun h => h)).trans (heap_new w _)
    have K1 : Hid (Kept w w1) := ((Same.refl _ w).alloc _).trans' k1
    have X1 : Hid _ := x1
    rw [show txV t0 (.slice none 0 0) = .agg #[.int .i64 0, .int .i64 0, .int .i64 0, .int .i64 0, .int .i64 0, .int .i64 0, .int .i64 0, .slice none 0 0] from rfl]
    clear k1 x1
    go_wp2_with fail
    obtain ⟨kb, xb, -⟩ := box_all K1.out X1.out (.cells txz 40 (0, 0))
    have KB : Hid _ := kb
    refine Calls.mono (HFL.out _ kb q EQ.out e) ?_
    rintro x w2 ⟨rfl, s2, k2⟩
    have g2 : w2.heap[w.heap.size]? = some (.cells txz 40 (0, 0)) := (k2.block _ (lt_of_heap xb) (fun e => Nat.lt_irrefl _ (e ▸ hlt))).trans xb
    obtain ⟨⟨m0, m1, m2, m3, m4, m5, m6, m7⟩, f0, f1, f2, f3, f4, f5, f6, f7⟩ := tx_obj g2
    have hb2 := lt_of_heap g2
    have G2 : Hid _ := g2
    have S2 : Hid _ := s2
    have K2 : Hid (Same (fun k => k = sb) w w2) := (Kept.to KB.out _).trans' k2
    clear g2 s2 k2 kb xb KB
    go_wp2_with fail
    refine bodyPost_ret (res_ct (a := 6) (t := 40) (u := 7) rfl rfl (loadVar_tx (put8_at G2.out _ _ _ _ _ _ _ _))) rfl ?_
    have hb0 : body0 d s n m = (none, { s with pl := s.pl + n + p, er := e }) := by unfold body0; rw [HDC.out]
    rw [hb0]
    refine ⟨_, rfl, rfl, ?_⟩
    refine Left.after ?_ hlt HV.out (put8_new (b := w.heap.size) (Nat.le_refl _) _ _ _ _ _ _ _ _)
    have h1 := EQ.out
    have h2 := HPM.out
    have h3 := HL.out
    exact Left.fail (p := s.pl + q) (e := e) H.out.len H.out.byts (by omega) HE2.out (by show s.pl + n + p = _; omega) rfl rfl rfl S2.out K2.out
  | ok t =>
    have HD : Hid (∀ W, Kept w W → ∀ c, Calls Try.prog 49 #[.slice (some ⟨g, off + n, none⟩) m c] W _) := fun W k c => by
      have := decode_good (c := c) (hbs.out.kept k (fun _ _ h => h)) (fun e => by cases e) (by rw [ell]; omega) hby hdc
      rw [ell] at this
      exact this
    have HPS : Hid (∀ W, Kept w W → _) := fun W (k : Kept w W) => spass_any (h.sn.on k) M (by omega) 1
    have HDC : Hid _ := hdc
    clear h h0 hf hp hc hl hr hrl hd hz hsp el ell hby eR eM hcap hmax hdc hlen
    go_enter Try.func37, Try.ntmps37
    go_wp2_with fail
    refine Calls.mono (HD.out _ ((Same.refl _ w).alloc _) _) ?_
    rintro x w1 ⟨ao, co, rfl, o1, k1⟩
    have x1 : w1.heap[w.heap.size]? = some (.cells txz 40 (0, 0)) := (k1.block _ (by simp [World.size_alloc]) (fun h => h)).trans (heap_new w _)
    have K1 : Hid (Kept w w1) := ((Same.refl _ w).alloc _).trans' k1
    have X1 : Hid _ := x1
    have O1 : Hid (OwnO (w.heap.size + 1) w1 (.slice ao t.ops.length co) t.ops) := by rw [World.size_alloc] at o1; exact o1
    rw [show txV t (.slice ao t.ops.length co) = .agg #[.int .i64 t.f0, .int .i64 t.f1, .int .i64 t.f2, .int .i64 t.f3, .int .i64 t.f4, .int .i64 t.f5, .int .i64 t.f6, .slice ao t.ops.length co] from rfl]
    clear k1 x1 o1
    go_wp2_with fail
    obtain ⟨kb, xb, yb⟩ := box_all K1.out X1.out (.cells #[.int .i64 t.f0, .int .i64 t.f1, .int .i64 t.f2, .int .i64 t.f3, .int .i64 t.f4, .int .i64 t.f5, .int .i64 t.f6, .slice ao t.ops.length co] 40 (0, 0))
    have KB : Hid _ := kb
    have KB2 : Hid (Kept w1 (w1.alloc (.cells #[.int .i64 t.f0, .int .i64 t.f1, .int .i64 t.f2, .int .i64 t.f3, .int .i64 t.f4, .int .i64 t.f5, .int .i64 t.f6, .slice ao t.ops.length co] 40 (0, 0)))) := (Same.refl _ w1).alloc _
    refine Calls.mono (HPS.out _ kb) ?_
    rintro x w2 ⟨rfl, ⟨v2, s2, b2⟩, k2⟩
    have g2 : w2.heap[w.heap.size]? = some (.cells txz 40 (0, 0)) := (k2.block _ (lt_of_heap xb) (fun e => Nat.lt_irrefl _ (e ▸ hlt))).trans xb
    have hs1 : ¬ w1.heap.size = sb := by have := K1.out.size; omega
    have y2 := (k2.block _ (lt_of_heap yb) hs1).trans yb
    obtain ⟨⟨m0, m1, m2, m3, m4, m5, m6, m7⟩, f0, f1, f2, f3, f4, f5, f6, f7⟩ := tx_obj g2
    obtain ⟨⟨z0, z1, z2, z3, z4, z5, z6, z7⟩, -⟩ := tx_obj y2
    have hb2 := lt_of_heap g2
    have hy2 := lt_of_heap y2
    have c3' := s2.cells.2.2.2.1
    have fr3 := s2.fro 3
    have hltw := s2.lt
    have G2 : Hid _ := g2
    have S2 : Hid _ := s2
    have B2 : Hid _ := b2
    have K2 : Hid (Same (fun k => k = sb) w w2) := (Kept.to KB.out _).trans' k2
    have O2 : Hid (OwnO (w.heap.size + 1) w2 (.slice ao t.ops.length co) t.ops) := OwnO.kept (OwnO.on O1.out KB2.out) k2 (fun k e (e2 : k = sb) => by have := (OwnO.block O1.out e).1; omega)
    clear g2 y2 s2 k2 kb xb yb KB b2
    have hne : ¬ w.heap.size = sb := fun e => Nat.lt_irrefl _ (e ▸ hlt)
    go_wp2_with fail
    have hs3 := one_set w2 sb 3 (.int .i64 ((s.ct : Int) + 1))
    have g3 := (hs3.block _ (lt_of_heap G2.out) hne).trans G2.out
    refine bodyPost_ret (res_ct (a := 6) (t := 40) (u := 7) rfl rfl (loadVar_tx (put8_at g3 _ _ _ _ _ _ _ _))) rfl ?_
    have sn3 := Sn.turn S2.out hs3 (part' := 1) (rd' := s.pl + M) (ct' := s.ct + 1) (en' := en) (er' := s.er) (setCell_at S2.out.obj 3 _) S2.out.len HC.out
    have o3 := OwnO.kept (OwnO.kept O2.out hs3 (fun k e (e2 : k = sb) => by have := (OwnO.block O2.out e).1; omega)) (put8_same (w2.setCell ⟨sb, 3, none⟩ (.int .i64 ((s.ct : Int) + 1))) w.heap.size (.int .i64 t.f0) (.int .i64 t.f1) (.int .i64 t.f2) (.int .i64 t.f3) (.int .i64 t.f4) (.int .i64 t.f5) (.int .i64 t.f6) (.slice ao t.ops.length co)) (fun k e (e2 : k = w.heap.size) => by have := (OwnO.block O2.out e).1; omega)
    have hb0 : body0 d s n m = (some t, { s with pl := s.pl + n + m, ct := s.ct + 1 }) := by unfold body0; rw [HDC.out]
    rw [hb0]
    refine ⟨_, rfl, ⟨ao, co, rfl, OwnO.lower o3 (Nat.le_succ _)⟩, ?_⟩
    refine Left.after ?_ hlt HV.out (put8_new (b := w.heap.size) (Nat.le_refl _) _ _ _ _ _ _ _ _)
    have h1 := EM.out
    have h3 := HL.out
    exact Left.pass (n := M) (p := 1) (w1 := w) H.out H0.out (by omega) (by show s.pl + n + m = _; omega) rfl H0.out (part_1 H0.out HF.out (by show s.pl + n + m ≠ 0; have := HPL.out; omega)) (by show s.pl + n + m ≠ 0; have := HPL.out; omega) (Same.refl _ w) sn3 B2.out (K2.out.trans' hs3)
end
end Go.Proofs.Ytflemfohnpjeaaa
