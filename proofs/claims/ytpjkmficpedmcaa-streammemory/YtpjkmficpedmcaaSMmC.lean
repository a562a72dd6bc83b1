/- What is proved: what StreamMemory's law has in memory: a file written and closed, two readers over it and one over the input; what their Reads answer and leave. -/
import Derived.Test.YtpjkmficpedmcaaSBkM
import Derived.Test.YtpjkmficpedmcaaSInpM
import Derived.Test.YtpjkmficpedmcaaSReadY
import Derived.Test.YtpjkmficpedmcaaSBkF
import Derived.Test.YtpjkmficpedmcaaXOwn
namespace Go.Proofs.Ytpjkmficpedmcaa
open Go.RowKit

/-- What reads of a device leave as it was. -/
structure Eqm (m m' : M) : Prop where
  B : m'.B = m.B
  S : m'.S = m.S
  scr : m'.scr = m.scr
  inp : m'.inp = m.inp
  F : m'.F = m.F
  dn : m'.down = m.down
theorem Eqm.refl (m : M) : Eqm m m := ⟨rfl, rfl, rfl, rfl, rfl, rfl⟩
theorem Eqm.trans {a b c : M} (h : Eqm a b) (k : Eqm b c) : Eqm a c := ⟨k.B.trans h.B, k.S.trans h.S, k.scr.trans h.scr, k.inp.trans h.inp, k.F.trans h.F, k.dn.trans h.dn⟩
theorem RdF.turn {B : Nat} {L C : List Int} {c : Nat} {m m' : M} {nx : Nat} {held : List Int} (h : RdF B L C c ⟨m, nx, held⟩) (e : Eqm m m') : RdF B L C c ⟨m', nx, held⟩ :=
  ⟨e.B.trans h.eB, h.b0, e.F.trans h.eF, e.dn.trans h.dn, by show m'.scr.length = m'.B * m'.S; rw [e.scr, e.B, e.S]; exact h.scr, by show ∀ b ∈ L, 0 ≤ b ∧ b < (m'.S : Int); rw [e.S]; exact h.ok, by show cont m' L = C; rw [← h.cn]; unfold cont; simp only [e.B, e.scr], h.held, h.le, h.nx, h.nb⟩
theorem RdI.turn {B : Nat} {inp : List Int} {c : Nat} {m m' : M} {nx : Nat} {held : List Int} (h : RdI B inp c ⟨m, nx, held⟩) (e : Eqm m m') : RdI B inp c ⟨m', nx, held⟩ :=
  ⟨e.inp.trans h.ei, e.B.trans h.eB, e.F.trans h.eF, e.dn.trans h.dn, h.held, h.le, h.nx, h.nb⟩
theorem RI.turn {f : Src} {m m' : M} {size c nx : Nat} {held : List Int} (h : RI f m size c nx held) (e : Eqm m m') : RI f m' size c nx held :=
  ⟨h.le, h.len, fun q => by rw [e.inp, e.B]; exact h.inp q, fun L q => by rw [e.B, e.S]; exact h.file L q⟩
theorem hold_keeps (f : Src) (s : RdS) : (s.hold f).2.m.inp = s.m.inp ∧ (s.hold f).2.m.F = s.m.F ∧ (s.hold f).2.m.B = s.m.B ∧ (s.hold f).2.m.S = s.m.S ∧ (s.hold f).2.m.scr = s.m.scr := by
  obtain ⟨k1, k2, k3, k4, k5, -⟩ := blk_keeps f s.m s.nx
  unfold RdS.hold
  split
  · exact ⟨rfl, rfl, rfl, rfl, rfl⟩
  · first
    | exact ⟨k1, k2, k3, k4, k5⟩
    | (split <;> exact ⟨k1, k2, k3, k4, k5⟩)
theorem rd_keeps (f : Src) : ∀ (k : Nat) (s : RdS), (rd f k s).2.2.m.inp = s.m.inp ∧ (rd f k s).2.2.m.F = s.m.F ∧ (rd f k s).2.2.m.B = s.m.B ∧ (rd f k s).2.2.m.S = s.m.S ∧ (rd f k s).2.2.m.scr = s.m.scr
  | 0, s => ⟨rfl, rfl, rfl, rfl, rfl⟩
  | k + 1, s => by
    obtain ⟨k1, k2, k3, k4, k5⟩ := hold_keeps f s
    unfold rd
    split
    · exact ⟨k1, k2, k3, k4, k5⟩
    · split
      · exact ⟨k1, k2, k3, k4, k5⟩
      · rename_i x t _
        obtain ⟨j1, j2, j3, j4, j5⟩ := rd_keeps f k ⟨(s.hold f).2.m, (s.hold f).2.nx, t⟩
        exact ⟨j1.trans k1, j2.trans k2, j3.trans k3, j4.trans k4, j5.trans k5⟩
/-- A reader over the file L whose blocks hold C, c of its n bytes read. -/
def Fr (ow : Nat → Nat) (t : Nat) (W : World) (p : Pl) (rb : Nat) (L C : List Int) (n c : Nat) (m : M) : Prop :=
  ∃ nx held, Rdr ow t W p rb (.file L) nx held c (n - c) 0 ∧ RI (.file L) m (c + (n - c)) c nx held ∧ RdF m.B L C c ⟨m, nx, held⟩ ∧ c ≤ n ∧ n ≤ C.length
theorem Fr.on {S : Nat → Prop} {ow o' : Nat → Nat} {t : Nat} {W W' : World} {p : Pl} {rb : Nat} {L C : List Int} {n c : Nat} {m m' : M} (h : Fr ow t W p rb L C n c m) (st : Step S ow W o' W') (h0 : ¬ S 0) (h1 : ¬ S t) (e : Eqm m m') : Fr o' t W' p rb L C n c m' := by
  obtain ⟨nx, held, a1, a2, a3, a4, a5⟩ := h
  exact ⟨nx, held, a1.on st h0 h1, a2.turn e, by rw [e.B]; exact a3.turn e, a4, a5⟩
/-- A reader over the input, c of its bytes read. -/
def Ir (ow : Nat → Nat) (t : Nat) (W : World) (p : Pl) (rb : Nat) (D : List Int) (c : Nat) (m : M) : Prop :=
  ∃ nx held, Rdr ow t W p rb .inp nx held c (D.length - c) 0 ∧ RI .inp m (c + (D.length - c)) c nx held ∧ RdI m.B D c ⟨m, nx, held⟩ ∧ c ≤ D.length ∧ 0 < m.B
theorem Ir.on {S : Nat → Prop} {ow o' : Nat → Nat} {t : Nat} {W W' : World} {p : Pl} {rb : Nat} {D : List Int} {c : Nat} {m m' : M} (h : Ir ow t W p rb D c m) (st : Step S ow W o' W') (h0 : ¬ S 0) (h1 : ¬ S t) (e : Eqm m m') : Ir o' t W' p rb D c m' := by
  obtain ⟨nx, held, a1, a2, a3, a4, a5⟩ := h
  exact ⟨nx, held, a1.on st h0 h1, a2.turn e, by rw [e.B]; exact a3.turn e, a4, by rw [e.B]; exact a5⟩
/-- What a Read answers and leaves. -/
def RdQ (ow : Nat → Nat) (t : Nat) (W : World) (p : Pl) (m : M) (l : List Int) (Q : (Nat → Nat) → World → M → Prop) (x : Ending) (W' : World) : Prop :=
  ∃ a c o' m', x = .returned (.tuple #[.slice a l.length c, .int .i64 0]) ∧ OwnB8 W.heap.size W' (.slice a l.length c) l ∧ (∀ g, (Value.slice a l.length c).ownBlock = some g → o' g = t + 2) ∧ Step (fun n => n = 1 ∨ n = t) ow W o' W' ∧ DvT o' W' m' p ∧ Eqm m m' ∧ m'.k ≤ m.k + 2 * l.length + 200 ∧ Q o' W' m'
theorem Fr.read {ow : Nat → Nat} {t : Nat} {W : World} {p : Pl} {rb : Nat} {L C : List Int} {n c : Nat} {m : M} (h : Fr ow t W p rb L C n c m) (hd : DvT ow W m p) (ht : t ≠ 0 ∧ t ≠ 1) (hk : m.k + 200000 < 4611686018427387904) (hL : L.length ≤ 50) (k : Nat) (hk2 : k ≤ 65536) :
    Calls Try.prog 13 #[.pointer (some ⟨rb, 0, none⟩), .int .i64 (k : Int)] W (RdQ ow t W p m ((C.drop c).take (min k (n - c))) fun o' W' m' => Fr o' t W' p rb L C n (c + min k (n - c)) m') := by
  obtain ⟨nx, held, a1, a2, a3, a4, a5⟩ := h
  obtain ⟨q, eq⟩ : ∃ q, q = min k (n - c) := ⟨_, rfl⟩
  have hq : q ≤ n - c := by omega
  obtain ⟨s', e1, g1, g2, g3, ⟨g4, g5, g6, g7⟩, g8⟩ := rd_file (L := L) (C := C) q c ⟨m, nx, held⟩ a3 (by omega)
  have hlen : ((C.drop c).take q).length = q := by rw [List.length_take, List.length_drop]; omega
  refine Calls.mono (read_ok8 hd a1 ht a2 hk k hk2) ?_
  rintro x W' ⟨o', st, hd', hh⟩
  rw [← eq, e1] at hh
  rw [← eq, e1] at hd'
  rcases hh with ⟨-, v, rfl, b1, b2, b3, b4, b5⟩ | ⟨hne, -⟩
  · obtain ⟨va, vc, ev, -, -⟩ := BytesAt.of_row b1
    rw [← eq]
    subst ev
    refine ⟨va, vc, o', s'.m, rfl, b1, b2, st, hd', ⟨g1.eB, g6, g5, g7, ?_, ?_⟩, ?_, s'.nx, s'.held, ?_, ?_, ?_, by omega, a5⟩
    · rw [g1.eF]
      exact a3.eF.symm
    · rw [g1.dn]
      exact a3.dn.symm
    · have h1 := g1.nb
      simp only at g8
      omega
    · rw [show n - (c + q) = n - c - q by omega]
      exact b4
    · rw [show c + q + (n - (c + q)) = c + (n - c) by omega]
      exact b5
    · rw [g1.eB]
      exact g1
  · exact absurd rfl hne
theorem Ir.read {ow : Nat → Nat} {t : Nat} {W : World} {p : Pl} {rb : Nat} {D : List Int} {c : Nat} {m : M} (h : Ir ow t W p rb D c m) (hd : DvT ow W m p) (ht : t ≠ 0 ∧ t ≠ 1) (hk : m.k + 200000 < 4611686018427387904) (hL : nblk D.length m.B ≤ 50) (k : Nat) (hk2 : k ≤ 65536) :
    Calls Try.prog 13 #[.pointer (some ⟨rb, 0, none⟩), .int .i64 (k : Int)] W (RdQ ow t W p m ((D.drop c).take (min k (D.length - c))) fun o' W' m' => Ir o' t W' p rb D (c + min k (D.length - c)) m') := by
  obtain ⟨nx, held, a1, a2, a3, a4, a5⟩ := h
  obtain ⟨q, eq⟩ : ∃ q, q = min k (D.length - c) := ⟨_, rfl⟩
  have hq : q ≤ D.length - c := by omega
  obtain ⟨s', e1, g1, g2, g3, g8⟩ := rd_inp a5 q c ⟨m, nx, held⟩ a3 (by omega)
  obtain ⟨y1, y2, y3, y4, y5⟩ := rd_keeps .inp q ⟨m, nx, held⟩
  rw [e1] at y1 y2 y3 y4 y5
  have hlen : ((D.drop c).take q).length = q := by rw [List.length_take, List.length_drop]; omega
  refine Calls.mono (read_ok8 hd a1 ht a2 hk k hk2) ?_
  rintro x W' ⟨o', st, hd', hh⟩
  rw [← eq, e1] at hh
  rw [← eq, e1] at hd'
  rcases hh with ⟨-, v, rfl, b1, b2, b3, b4, b5⟩ | ⟨hne, -⟩
  · obtain ⟨va, vc, ev, -, -⟩ := BytesAt.of_row b1
    rw [← eq]
    subst ev
    refine ⟨va, vc, o', s'.m, rfl, b1, b2, st, hd', ⟨y3, y4, y5, y1, y2, ?_⟩, ?_, s'.nx, s'.held, ?_, ?_, ?_, by omega, by rw [y3]; exact a5⟩
    · rw [g1.dn]
      exact a3.dn.symm
    · have h1 := g1.nb
      simp only at g8
      omega
    · rw [show D.length - (c + q) = D.length - c - q by omega]
      exact b4
    · rw [show c + q + (D.length - (c + q)) = c + (D.length - c) by omega]
      exact b5
    · rw [y3]
      exact g1
  · exact absurd rfl hne
end Go.Proofs.Ytpjkmficpedmcaa

namespace Go.Proofs.Ytpjkmficpedmcaa
open Go.RowKit

/-- A writer that has written d, over a device of eight blocks of sixteen bytes with the input D. -/
def Wk (ow : Nat → Nat) (w W : World) (p : Pl) (sp wb : Nat) (D d : List Int) : Prop :=
  ∃ m u bl bg bv gv, WrT ow 3 W p sp wb ⟨m, u, bl, bg, d.length, 0⟩ false bv gv ∧ Wd m u bl bg d ∧ Dk m u ∧ (m.B = 16 ∧ m.S = 8 ∧ m.inp = D) ∧ m.k ≤ d.length ∧ d.length + room8 ⟨m, u, bl, bg, d.length, 0⟩ = 128 ∧ Kept w W ∧ ∀ k, k < w.heap.size → ow k = 0
theorem tg3 : Tg 3 := ⟨by decide, by decide, by decide⟩
theorem Wk.on {ow o' : Nat → Nat} {w W W' : World} {p : Pl} {sp wb : Nat} {D d : List Int} (h : Wk ow w W p sp wb D d) {S : Nat → Prop} (st : Step S ow W o' W') (h0 : ¬ S 0) (h1 : ¬ S 1) (h2 : ¬ S 2) (h3 : ¬ S 3) : Wk o' w W' p sp wb D d := by
  obtain ⟨m, u, bl, bg, bv, gv, a1, a2, a3, a4, a5, a6, a7, a8⟩ := h
  exact ⟨m, u, bl, bg, bv, gv, a1.on st h0 h1 h2 h3, a2, a3, a4, a5, a6, kept_of a7 st (fun k hk => by rw [a8 k hk]; exact h0), fun k hk => (st.tag k (Nat.lt_of_lt_of_le hk a7.size)).trans (a8 k hk)⟩
theorem wi8 {m : M} {u : List Bool} {bl bg d : List Int} (h : Wd m u bl bg d) (hk : Dk m u) (hS : m.S = 8) : WI ⟨m, u, bl, bg, d.length, 0⟩ :=
  ⟨h.lt, h.ne, h.len hk, fun b hb2 => by
    have q := h.ok b hb2
    rw [hS] at q
    exact ⟨q.1, by have := q.2.1; omega⟩, rfl, by rw [hk.len, hS]; omega⟩
theorem Wk.write {ow : Nat → Nat} {w W : World} {p : Pl} {sp wb : Nat} {D : List Int} (h : Wk ow w W p sp wb D []) {a : Option Addr} {c : Nat} {l : List Int} (hl : Src8 ow 3 W a c l) (hn : l.length ≤ 64) :
    Calls Try.prog 8 #[.pointer (some ⟨wb, 0, none⟩), .slice a l.length c] W fun x W' => x = .returned (.int .i64 0) ∧ ∃ o', Step (Wt 3) ow W o' W' ∧ Wk o' w W' p sp wb D l := by
  obtain ⟨m, u, bl, bg, bv, gv, a1, a2, a3, ⟨b1, b2, b3⟩, a5, a6, a7, a8⟩ := h
  simp only [List.length_nil, Nat.zero_add] at a6
  obtain ⟨s', e1, g1, g2, -, -, ⟨g3, g4, g5, -, -⟩, g6, g7, g8, -, -, g9⟩ := Wd.bytes l (s := ⟨m, u, bl, bg, 0, 0⟩) (bl2 := []) (bg2 := []) (d2 := []) a2 a3 (Wd.none a3) (fun b hb => by simp) (by
    have : room8 ⟨m, u, bl, bg, 0, 0⟩ = 128 := a6
    omega)
  refine Calls.mono (write_ok8 (s := ⟨m, u, bl, bg, 0, 0⟩) a1 tg3 (wi8 a2 a3 b2) a c l hl (by show m.k + 2 * l.length + 10 < _; simp only [List.length_nil] at a5; omega) (by show 0 + l.length ≤ _; omega)) ?_
  rintro x W' ⟨rfl, ⟨o', bv', gv', st, hw⟩, -⟩
  rw [e1] at hw ⊢
  refine ⟨rfl, o', st, s'.m, s'.u, s'.bl, s'.bg, bv', gv', ?_, by simpa using g1, g2, ⟨g3.trans b1, g4.trans b2, g5.trans b3⟩, ?_, ?_, kept_of a7 st (fun k hk => by rw [a8 k hk]; rintro (e | e | e) <;> omega), fun k hk => (st.tag k (Nat.lt_of_lt_of_le hk a7.size)).trans (a8 k hk)⟩
  · have e9 : s' = ⟨s'.m, s'.u, s'.bl, s'.bg, l.length, 0⟩ := by
      have h1 : s'.sz = l.length := by rw [g6]; simp
      have h2 : s'.br = 0 := g7
      cases s'
      simp only at h1 h2
      rw [h1, h2]
    rw [← e9]
    exact hw
  · simp only [List.length_nil] at a5
    have : s'.m.k ≤ m.k + l.length := g8
    omega
  · have h1 : room8 s' + l.length = room8 ⟨m, u, bl, bg, 0, 0⟩ := g9
    have h2 : room8 ⟨m, u, bl, bg, 0, 0⟩ = 128 := a6
    have h3 : room8 ⟨s'.m, s'.u, s'.bl, s'.bg, l.length, 0⟩ = room8 s' := rfl
    omega
/-- The file is closed: its blocks hold D and what fills the last of them. -/
def Fk (ow : Nat → Nat) (w W : World) (p : Pl) (D L zs : List Int) (m : M) : Prop :=
  ∃ u, DvT ow W m p ∧ Wd m u L [] (D ++ zs) ∧ Dk m u ∧ zs.length < 16 ∧ (m.B = 16 ∧ m.S = 8 ∧ m.inp = D) ∧ m.k ≤ 10000 ∧ L.length ≤ 8 ∧ Kept w W ∧ ∀ k, k < w.heap.size → ow k = 0
theorem Fk.on {ow o' : Nat → Nat} {w W W' : World} {p : Pl} {D L zs : List Int} {m m' : M} (h : Fk ow w W p D L zs m) {S : Nat → Prop} (st : Step S ow W o' W') (h0 : ¬ S 0) (hd : DvT o' W' m' p) (e : Eqm m m') (hk : m'.k ≤ 10000) : Fk o' w W' p D L zs m' := by
  obtain ⟨u, a1, a2, a3, a4, ⟨b1, b2, b3⟩, a5, a6, a7, a8⟩ := h
  exact ⟨u, hd, a2.turn e.B e.S e.scr, ⟨e.F.trans a3.eF, e.dn.trans a3.dn, by rw [e.B]; exact a3.b0, by rw [e.scr, e.B, e.S]; exact a3.scr, a3.len.trans e.S.symm⟩, a4, ⟨e.B.trans b1, e.S.trans b2, e.inp.trans b3⟩, hk, a6, kept_of a7 st (fun k hk => by rw [a8 k hk]; exact h0), fun k hk => (st.tag k (Nat.lt_of_lt_of_le hk a7.size)).trans (a8 k hk)⟩
theorem Wk.close {ow : Nat → Nat} {w W : World} {p : Pl} {sp wb : Nat} {D : List Int} (h : Wk ow w W p sp wb D D) (hD : 1 ≤ D.length ∧ D.length ≤ 64) :
    Calls Try.prog 10 #[.pointer (some ⟨wb, 0, none⟩)] W fun x W' => ∃ a c L zs o' m, x = .returned (.tuple #[fileV a L.length c (D.length : Nat), .int .i64 0]) ∧ Step (Wt 3) ow W o' W' ∧ OwnI 0 W' (.slice a L.length c) L ∧ (∀ k, (Value.slice a L.length c).ownBlock = some k → o' k = 3) ∧ Fk o' w W' p D L zs m ∧ L.length = nblk D.length 16 ∧ m.k ≤ 1000 := by
  obtain ⟨m, u, bl, bg, bv, gv, a1, a2, a3, ⟨b1, b2, b3⟩, a5, a6, a7, a8⟩ := h
  obtain ⟨s', zs, e1, c1, c2, c3, c4, c5, c6, -, ⟨d1, d2, d3, -, -⟩, -, c9, c10⟩ := Wd.fill (s := ⟨m, u, bl, bg, D.length, 0⟩) (bl2 := []) (bg2 := []) (d2 := []) a2 a3 (Wd.none a3) (fun b hb => by simp)
  simp only at c1 c2 c3 c4 d1 d2 d3 c9 c10
  have hz : zs.length < s'.m.B := by rw [d1]; exact c10
  have hLn : s'.bl.length = nblk D.length 16 := by
    have := c5.blocks c6 hz
    rw [d1, b1] at this
    exact this
  have hL8 : s'.bl.length ≤ 8 := by rw [hLn]; unfold nblk; omega
  refine Calls.mono (close_all (s := ⟨m, u, bl, bg, D.length, 0⟩) a1 tg3 (wi8 a2 a3 b2) (by show m.k + 10 < _; omega) (by show D.length ≤ _; omega)) ?_
  rintro x W' (⟨q, -⟩ | ⟨-, o', a, c, rfl, st, ow2, otag, wt2⟩)
  · rw [e1] at q
    exact absurd rfl q
  · rw [e1] at ow2 otag wt2 ⊢
    simp only at ow2 otag wt2
    refine ⟨a, c, s'.bl, zs, o', s'.m, rfl, st, ow2, fun k hk => (otag k hk).1, ⟨s'.u, wt2.dv, c5, c6, by rw [← b1]; exact c10, ⟨d1.trans b1, d2.trans b2, d3.trans b3⟩, by omega, hL8, kept_of a7 st (fun k hk => by rw [a8 k hk]; rintro (e | e | e) <;> omega), fun k hk => (st.tag k (Nat.lt_of_lt_of_le hk a7.size)).trans (a8 k hk)⟩, hLn, by omega⟩
theorem Fk.open_ {ow : Nat → Nat} {w W : World} {p : Pl} {D L zs : List Int} {m : M} (h : Fk ow w W p D L zs m) (t : Nat) (hD : D.length ≤ 64) {a : Option Addr} {c : Nat} (hl : NumsAt W a L) (hnil : a = none → L.length = 0 ∧ c = 0) (hLn : L.length = nblk D.length 16) :
    Calls Try.prog 11 #[.pointer (some ⟨p.db, 0, none⟩), fileV a L.length c (D.length : Nat)] W fun x W' => ∃ rb o', x = .returned (.tuple #[.pointer (some ⟨rb, 0, none⟩), .int .i64 0]) ∧ W.heap.size ≤ rb ∧ Step (fun _ => False) ow W o' W' ∧ Fr o' t W' p rb L (D ++ zs) D.length 0 m ∧ Fk o' w W' p D L zs m := by
  obtain ⟨u, a1, a2, a3, a4, ⟨b1, b2, b3⟩, a5, a6, a7, a8⟩ := id h
  refine Calls.mono (open_yes (o := ow) t a1.dv L a c D.length (by omega) (by rw [b1]; exact hLn) (fun b hb => ⟨(a2.ok b hb).1, (a2.ok b hb).2.1⟩) hl hnil (by omega)) ?_
  rintro x W' ⟨rb, o', rfl, hrb, st, hr, hi⟩
  exact ⟨rb, o', rfl, hrb, st, ⟨0, [], by rw [Nat.sub_zero]; exact hr, by rw [Nat.sub_zero]; exact hi, rdF_new a3 a2, Nat.zero_le _, by rw [List.length_append]; omega⟩, h.on st (fun e => e) (a1.on st (fun e => e) (fun e => e)) (Eqm.refl m) a5⟩
theorem Fk.input {ow : Nat → Nat} {w W : World} {p : Pl} {D L zs : List Int} {m : M} (h : Fk ow w W p D L zs m) (t : Nat) :
    Calls Try.prog 12 #[.pointer (some ⟨p.db, 0, none⟩)] W fun x W' => ∃ rb o', x = .returned (.pointer (some ⟨rb, 0, none⟩)) ∧ W.heap.size ≤ rb ∧ Step (fun _ => False) ow W o' W' ∧ Ir o' t W' p rb D 0 m ∧ Fk o' w W' p D L zs m := by
  obtain ⟨u, a1, a2, a3, a4, ⟨b1, b2, b3⟩, a5, a6, a7, a8⟩ := id h
  refine Calls.mono (sinput_any (o := ow) t a1.dv) ?_
  rintro x W' ⟨rb, o', rfl, hrb, st, hr, hi⟩
  rw [b3] at hr hi
  exact ⟨rb, o', rfl, hrb, st, ⟨0, [], by rw [Nat.sub_zero]; exact hr, by rw [Nat.sub_zero]; exact hi, ⟨b3, rfl, a3.eF, a3.dn, by simp, Nat.zero_le _, Nat.zero_le _, Nat.zero_le _⟩, Nat.zero_le _, a3.b0⟩, h.on st (fun e => e) (a1.on st (fun e => e) (fun e => e)) (Eqm.refl m) a5⟩
end Go.Proofs.Ytpjkmficpedmcaa

namespace Go.Proofs.Ytpjkmficpedmcaa
open Go.RowKit

theorem dk_made8 (D : List Int) : Dk (M.made 16 8 D [] []) (List.replicate 8 false) :=
  ⟨rfl, rfl, by show 0 < 16; decide, by show (splice (List.replicate (16 * 8) 0) 0 []).length = 16 * 8; rw [length_splice _ _ _ (by simp)]; simp, List.length_replicate ..⟩
theorem Wk.start {w w1 w2 w3 : World} {p : Pl} {sp wb : Nat} {D : List Int} (h1 : Dv w1 (M.made 16 8 D [] []) p) (hf : ∀ k, Foot (M.made 16 8 D [] []) p k → w.heap.size ≤ k) (k1 : Kept w w1) (h2 : SpT (tagN w1 2 (tagD p)) w2 sp (List.replicate 8 false)) (k2 : Kept w1 w2) (h3 : WtrAt (tagN w2 3 (tagN w1 2 (tagD p))) 3 w3 p sp wb [] [] 0 false 0 (.slice none 0 0) (.slice none 0 0)) (k3 : Kept w2 w3) :
    Wk (tagN w2 3 (tagN w1 2 (tagD p))) w w3 p sp wb D [] := by
  obtain ⟨q1, q2, q3⟩ := start8 h1 hf k1 h2 k2 h3 k3
  have hk := dk_made8 D
  exact ⟨_, _, [], [], _, _, q1, Wd.none hk, hk, ⟨rfl, rfl, rfl⟩, Nat.le_refl _, by unfold room8; simp only [fre_all]; rfl, q2, q3⟩
theorem clone9 {w : World} {l : List Int} {oa : Option Addr} {c : Nat} (hl : BytesAt w oa l) (h0 : 0 < l.length) (hb : l.length ≤ 140737488355328) (ty : TypeId) :
    ∃ v' w', (Builtin.append_ #[22, 22] ty #[.slice (some ⟨w.heap.size, 0, none⟩) 0 0, .slice oa l.length c]).run Try.prog (w.alloc (.cells #[] 5)) = .ok v' w' ∧ ∃ g c', v' = .slice (some ⟨g, 0, none⟩) l.length c' ∧ Rw w.heap.size w' g l.length c' l ∧ w.heap.size ≤ g ∧ l.length ≤ c' ∧ Kept w w' := by
  have k0 : Kept w (w.alloc (.cells #[] 5)) := (Same.refl _ w).alloc _
  have hnil : oa = none → l.length = 0 ∧ c = 0 := fun e => by
    obtain ⟨ab, off, e2, -, -⟩ := hl 0 (l[0]'h0) (List.getElem?_eq_getElem _)
    rw [e] at e2
    cases e2
  obtain ⟨v', w', h1, h2, h3, h4⟩ := app_bytes (w := w.alloc (.cells #[] 5)) (base := w.heap.size) (xs := []) (World.ownsRow_made w #[] 0 (Nat.le_refl _) (Nat.zero_le _) rfl) (hl.kept k0 (fun _ _ h => h)) hnil (by simpa using hb) (by simp) ty
  rw [List.nil_append] at h2
  have kk : Kept w w' := ((k0.to (fun k => w.heap.size ≤ k)).trans (Same.of_grown h3 (fun k e => e)) fun i _ e => by simp [Value.ownBlock] at e; omega).mono fun i hi e => by omega
  rcases id h2.2 with ⟨e2, hn⟩ | ⟨g, cap, cur, e2, hb3, hg, q1, q2, q3, q4⟩
  · omega
  · exact ⟨v', w', h1, g, cap, e2, by rw [e2] at h2; exact h2, hb3, q1, kk⟩
/-- append of numbers onto an empty literal, wherever it lies. -/
theorem cloneJ {w : World} {l : List Int} {oa : Option Addr} {c : Nat} (b : Addr) (hl : NumsAt w oa l) (h0 : 0 < l.length) (hb : l.length ≤ 1000) (ty : TypeId) :
    ∃ v' w', (Builtin.append_ #[37, 37] ty #[.slice (some b) 0 0, .slice oa l.length c]).run Try.prog w = .ok v' w' ∧ ∃ g cap, v' = .slice (some ⟨g, 0, none⟩) l.length cap ∧ OwnI w.heap.size w' (.slice (some ⟨g, 0, none⟩) l.length cap) l ∧ Kept w w' := by
  obtain ⟨i0, hi0, hz0, hz1, hz2⟩ := info_parts Try.infoInt
  obtain ⟨ab, off, rfl, -, -⟩ := hl 0 (l[0]'h0) (List.getElem?_eq_getElem _)
  have hr := run_append_grow (P := Try.prog) (w := w) 37 ty 3 i0 _ Try.underlying37 hi0 hz0 b 0 0 [] (by simp) (by simp) ⟨ab, off, none⟩ l.length c (nvs l) (by rw [length_nvs, hz1, Nat.mul_one])
    (fun j u hu => by
      rw [nvs_get] at hu
      obtain ⟨x, hx, rfl⟩ := Option.map_eq_some_iff.1 hu
      obtain ⟨b', off', e, _, hc⟩ := hl _ _ hx
      cases e
      rw [Addr.add_lit]
      exact hc) (by omega) (by omega) (by rw [hz2]; exact growslice_fits (by omega) (by omega))
  have hge := grownCap_ge w (0 + l.length) 0 3
  rw [Nat.zero_add] at hr hge
  refine ⟨_, _, hr, w.heap.size, _, rfl, ⟨by simp [nvs], .inr ⟨_, _, _, rfl, Nat.le_refl _, heap_new w.drew _, hge, grownCap_le_maxLen _ _ _ _ (by unfold maxLen; omega), ?_, ?_⟩⟩, ((Same.refl _ w).drew).alloc _⟩
  · have hz : (Value.int IntKind.i64 0).cells.size = 1 := rfl
    simp only [Array.size_append, List.size_toArray, size_zeroCells, hz, length_nvs]
    simp
    omega
  · simp only [Array.toList_append, List.nil_append]
    rw [List.take_append_of_le_length (by simp [nvs]), List.take_of_length_le (by simp [nvs])]
theorem cloneI {w : World} {l : List Int} {oa : Option Addr} {c : Nat} (b : Addr) (hl : NumsAt w oa l) (h0 : 0 < l.length) (hb : l.length ≤ 1000) (ty : TypeId) :
    ∃ v' w', (Builtin.append_ #[37, 37] ty #[.slice (some b) 0 0, .slice oa l.length c]).run Try.prog w = .ok v' w' ∧ ∃ g cap, v' = .slice (some ⟨g, 0, none⟩) l.length cap ∧ NumsAt w' (some ⟨g, 0, none⟩) l ∧ w.heap.size ≤ g ∧ Kept w w' := by
  obtain ⟨v', w', hr, g, cap, e1, ho, k⟩ := cloneJ (c := c) b hl h0 hb ty
  obtain ⟨a, cap', e, hn, -, -, -⟩ := OwnI.nums ho
  simp only [Value.slice.injEq] at e
  obtain ⟨rfl, -, rfl⟩ := e
  refine ⟨v', w', hr, g, cap, e1, hn, ?_, k⟩
  rcases ho.2 with ⟨e2, -⟩ | ⟨g', cap', cur, e2, hb', -⟩
  · cases e2
  · simp only [Value.slice.injEq, Option.some.injEq, Addr.mk.injEq, and_true] at e2
    rw [e2.1]
    exact hb'
theorem app_take {D zs : List Int} {c q : Nat} (h : c + q ≤ D.length) : ((D ++ zs).drop c).take q = (D.drop c).take q := by
  rw [List.drop_append_of_le_length (by omega), List.take_append_of_le_length (by rw [List.length_drop]; omega)]
theorem Fk.dv {ow : Nat → Nat} {w W : World} {p : Pl} {D L zs : List Int} {m : M} (h : Fk ow w W p D L zs m) : DvT ow W m p := by
  obtain ⟨u, a1, -⟩ := h
  exact a1
theorem Fk.len {ow : Nat → Nat} {w W : World} {p : Pl} {D L zs : List Int} {m : M} (h : Fk ow w W p D L zs m) : L.length ≤ 8 ∧ m.B = 16 ∧ Kept w W ∧ m.k ≤ 10000 := by
  obtain ⟨u, a1, a2, a3, a4, ⟨b1, b2, b3⟩, a5, a6, a7, a8⟩ := h
  exact ⟨a6, b1, a7, a5⟩
/-- The file is closed, three readers are open: c1, c2, c3 bytes are read. -/
def Sy (ow : Nat → Nat) (w W : World) (p : Pl) (D L zs : List Int) (rb qb ib K c1 c2 c3 : Nat) : Prop :=
  ∃ m, Fk ow w W p D L zs m ∧ m.k ≤ K ∧ Fr ow 10 W p rb L (D ++ zs) D.length c1 m ∧ Fr ow 20 W p qb L (D ++ zs) D.length c2 m ∧ Ir ow 30 W p ib D c3 m
theorem Sy.kept {ow : Nat → Nat} {w W : World} {p : Pl} {D L zs : List Int} {rb qb ib K c1 c2 c3 : Nat} (h : Sy ow w W p D L zs rb qb ib K c1 c2 c3) : Kept w W := by
  obtain ⟨m, a1, -⟩ := h
  exact a1.len.2.2.1
theorem Sy.on {S : Nat → Prop} {ow o' : Nat → Nat} {w W W' : World} {p : Pl} {D L zs : List Int} {rb qb ib K c1 c2 c3 : Nat} (h : Sy ow w W p D L zs rb qb ib K c1 c2 c3) (st : Step S ow W o' W') (h0 : ¬ S 0) (h1 : ¬ S 1) (h2 : ¬ S 10) (h3 : ¬ S 20) (h4 : ¬ S 30) : Sy o' w W' p D L zs rb qb ib K c1 c2 c3 := by
  obtain ⟨m, a1, a2, a3, a4, a5⟩ := h
  exact ⟨m, a1.on st h0 (a1.dv.on st h0 h1) (Eqm.refl m) a1.len.2.2.2, a2, a3.on st h0 h2 (Eqm.refl m), a4.on st h0 h3 (Eqm.refl m), a5.on st h0 h4 (Eqm.refl m)⟩
/-- What a Read answers and leaves. -/
def RdZ (ow : Nat → Nat) (t : Nat) (W : World) (l : List Int) (Q : (Nat → Nat) → World → Prop) (x : Ending) (W' : World) : Prop :=
  ∃ a c o', x = .returned (.tuple #[.slice a l.length c, .int .i64 0]) ∧ Rw9 (t + 2) o' W.heap.size W' (.slice a l.length c) l ∧ Step (fun n => n = 1 ∨ n = t) ow W o' W' ∧ Q o' W'
section
variable {ow : Nat → Nat} {w W : World} {p : Pl} {D L zs : List Int} {rb qb ib K c1 c2 c3 : Nat}
theorem Sy.read1 (h : Sy ow w W p D L zs rb qb ib K c1 c2 c3) (hK : K ≤ 9000) (hD : D.length ≤ 64) (k : Nat) (hk : k ≤ 64) :
    Calls Try.prog 13 #[.pointer (some ⟨rb, 0, none⟩), .int .i64 (k : Int)] W (RdZ ow 10 W ((D.drop c1).take (min k (D.length - c1))) fun o' W' => Sy o' w W' p D L zs rb qb ib (K + 400) (c1 + min k (D.length - c1)) c2 c3) := by
  obtain ⟨m, a1, a2, a3, a4, a5⟩ := h
  have hc : c1 ≤ D.length := by obtain ⟨_, _, -, -, -, h, -⟩ := a3; exact h
  refine Calls.mono (a3.read a1.dv (by decide) (by have := a1.len.2.2.2; omega) (by have := a1.len.1; omega) k (by omega)) ?_
  rintro x W' ⟨a, c, o', m', rfl, b1, b2, st, d2, e2, k2, f2⟩
  rw [app_take (by omega)] at b1 b2 k2 ⊢
  have hl : ((D.drop c1).take (min k (D.length - c1))).length ≤ 64 := by rw [List.length_take, List.length_drop]; omega
  exact ⟨a, c, o', rfl, ⟨b1, b2⟩, st, m', a1.on st (by decide) d2 e2 (by omega), by omega, f2, a4.on st (by decide) (by decide) e2, a5.on st (by decide) (by decide) e2⟩
theorem Sy.read2 (h : Sy ow w W p D L zs rb qb ib K c1 c2 c3) (hK : K ≤ 9000) (hD : D.length ≤ 64) (k : Nat) (hk : k ≤ 64) :
    Calls Try.prog 13 #[.pointer (some ⟨qb, 0, none⟩), .int .i64 (k : Int)] W (RdZ ow 20 W ((D.drop c2).take (min k (D.length - c2))) fun o' W' => Sy o' w W' p D L zs rb qb ib (K + 400) c1 (c2 + min k (D.length - c2)) c3) := by
  obtain ⟨m, a1, a2, a3, a4, a5⟩ := h
  have hc : c2 ≤ D.length := by obtain ⟨_, _, -, -, -, h, -⟩ := a4; exact h
  refine Calls.mono (a4.read a1.dv (by decide) (by have := a1.len.2.2.2; omega) (by have := a1.len.1; omega) k (by omega)) ?_
  rintro x W' ⟨a, c, o', m', rfl, b1, b2, st, d2, e2, k2, f2⟩
  rw [app_take (by omega)] at b1 b2 k2 ⊢
  have hl : ((D.drop c2).take (min k (D.length - c2))).length ≤ 64 := by rw [List.length_take, List.length_drop]; omega
  exact ⟨a, c, o', rfl, ⟨b1, b2⟩, st, m', a1.on st (by decide) d2 e2 (by omega), by omega, a3.on st (by decide) (by decide) e2, f2, a5.on st (by decide) (by decide) e2⟩
theorem Sy.read3 (h : Sy ow w W p D L zs rb qb ib K c1 c2 c3) (hK : K ≤ 9000) (hD : D.length ≤ 64) (k : Nat) (hk : k ≤ 64) :
    Calls Try.prog 13 #[.pointer (some ⟨ib, 0, none⟩), .int .i64 (k : Int)] W (RdZ ow 30 W ((D.drop c3).take (min k (D.length - c3))) fun o' W' => Sy o' w W' p D L zs rb qb ib (K + 400) c1 c2 (c3 + min k (D.length - c3))) := by
  obtain ⟨m, a1, a2, a3, a4, a5⟩ := h
  refine Calls.mono (a5.read a1.dv (by decide) (by have := a1.len.2.2.2; omega) (by rw [a1.len.2.1]; unfold nblk; omega) k (by omega)) ?_
  rintro x W' ⟨a, c, o', m', rfl, b1, b2, st, d2, e2, k2, f2⟩
  have hl : ((D.drop c3).take (min k (D.length - c3))).length ≤ 64 := by rw [List.length_take, List.length_drop]; omega
  exact ⟨a, c, o', rfl, ⟨b1, b2⟩, st, m', a1.on st (by decide) d2 e2 (by omega), by omega, a3.on st (by decide) (by decide) e2, a4.on st (by decide) (by decide) e2, f2⟩
end
theorem Wk.kept {ow : Nat → Nat} {w W : World} {p : Pl} {sp wb : Nat} {D d : List Int} (h : Wk ow w W p sp wb D d) : Kept w W := by
  obtain ⟨m, u, bl, bg, bv, gv, a1, a2, a3, a4, a5, a6, a7, a8⟩ := h
  exact a7
theorem OwnI.set {base : Nat} {w : World} {g cap : Nat} {n : Nat} {l : List Int} (h : OwnI base w (.slice (some ⟨g, 0, none⟩) n cap) l) {i : Nat} (hi : i < l.length) (x : Int) : OwnI base (w.setCell ⟨g, i, none⟩ (.int .i64 x)) (.slice (some ⟨g, 0, none⟩) n cap) (l.set i x) ∧ w.frozen? ⟨g, i, none⟩ = false ∧ (∃ y, w.cell? ⟨g, i, none⟩ = some (.int .i64 y)) := by
  obtain ⟨a, c', e, hn, -⟩ := OwnI.nums h
  simp only [Value.slice.injEq] at e
  obtain ⟨rfl, -, -⟩ := e
  obtain ⟨b', off', e', -, q1⟩ := hn i (l[i]'hi) (List.getElem?_eq_getElem hi)
  cases e'
  rw [Nat.zero_add] at q1
  rcases h.2 with ⟨h', _⟩ | ⟨g', cap', cur, h', hb, hg, h1, h2, h3, h4⟩
  · cases h'
  · simp only [Value.slice.injEq, Option.some.injEq, Addr.mk.injEq, and_true] at h'
    obtain ⟨rfl, rfl, rfl⟩ := h'
    refine ⟨⟨by simp [nvs], .inr ⟨g, cap, cur.setIfInBounds i (.int .i64 x), by rw [List.length_set], hb, setCell_at hg i _, by rw [List.length_set]; exact h1, h2, by simpa using h3, ?_⟩⟩, frozen_of hg i, _, q1⟩
    rw [List.length_set, Array.toList_setIfInBounds, List.take_set, h4]
    simp [nvs, List.map_set]
def pick3 {α : Type} (a b c : α) : Nat → α
  | 0 => a
  | 1 => b
  | _ => c
/-- What stands while the three rows are written. -/
structure St8 (ow : Nat → Nat) (w W : World) (p : Pl) (D L zs : List Int) (rb qb ib K M LB : Nat) (G C : Nat → Nat) (yb : Nat) (yo : Obj) : Prop where
  sm : Sy ow w W p D L zs rb qb ib K M M M
  list : ∀ i, i < 3 → W.cell? ⟨LB, i, none⟩ = some (.slice (some ⟨G i, 0, none⟩) M (C i))
  lb : LB < W.heap.size
  lt : ow LB = 0
  box : Bx8 ow W yb yo
  gt : ∀ i, i < 3 → ow (G i) = 12 + 10 * i
theorem St8.ap {ow : Nat → Nat} {w W : World} {p : Pl} {D L zs : List Int} {rb qb ib K M LB : Nat} {G C : Nat → Nat} {yb : Nat} {yo : Obj} (h : St8 ow w W p D L zs rb qb ib K M LB G C yb yo) {i j : Nat} (hi : i < 3) (hj : j < 3) (e : i ≠ j) : G i ≠ G j := fun e2 => by
  have := h.gt i hi
  rw [e2, h.gt j hj] at this
  omega
theorem St8.by {ow : Nat → Nat} {w W W' : World} {p : Pl} {D L zs : List Int} {rb qb ib K M LB : Nat} {G C : Nat → Nat} {yb : Nat} {yo : Obj} (h : St8 ow w W p D L zs rb qb ib K M LB G C yb yo) {i : Nat} (hi : i < 3) (s : Same (fun k => k = G i) W W') : St8 ow w W' p D L zs rb qb ib K M LB G C yb yo := by
  have st : Step (fun n => n = 12 + 10 * i) ow W ow W' := ⟨s.mono fun k _ e => by rw [e]; exact h.gt i hi, fun _ _ => rfl⟩
  exact ⟨h.sm.on st (by omega) (by omega) (by omega) (by omega) (by omega), fun j hj => (s.cell (p := ⟨LB, j, none⟩) h.lb (fun e => by have q1 := h.gt i hi; have q2 := h.lt; have e' : LB = G i := e; rw [← e'] at q1; omega)).trans (h.list j hj), Nat.lt_of_lt_of_le h.lb s.size, h.lt, h.box.on st (by omega), h.gt⟩
theorem St8.on {ow : Nat → Nat} {w W W' : World} {p : Pl} {D L zs : List Int} {rb qb ib K M LB : Nat} {G C : Nat → Nat} {yb : Nat} {yo : Obj} (h : St8 ow w W p D L zs rb qb ib K M LB G C yb yo) (s : Kept W W') : St8 ow w W' p D L zs rb qb ib K M LB G C yb yo := by
  have st : Step (fun _ => False) ow W ow W' := ⟨s, fun _ _ => rfl⟩
  exact ⟨h.sm.on st (fun e => e) (fun e => e) (fun e => e) (fun e => e) (fun e => e), fun j hj => (s.cell (p := ⟨LB, j, none⟩) h.lb (fun e => e)).trans (h.list j hj), Nat.lt_of_lt_of_le h.lb s.size, h.lt, h.box.on st (fun e => e), h.gt⟩
end Go.Proofs.Ytpjkmficpedmcaa
