/- What is proved: small laws on a device as it lies in memory; no condition. -/
import Derived.Test.YtpjkmficpedmcaaDMap
namespace Go.Proofs.Ytpjkmficpedmcaa
open Go.RowKit

/-- What a device is: its sizes, bytes, faults; R: how often each block of a region was read; k: calls that were counted. -/
structure M where
  B : Nat
  S : Nat
  inp : List Int
  scr : List Int
  F : List Fl
  R : Int → Int → Nat
  k : Nat
  cI : Nat
  cS : Nat
  cW : Nat
  cT : Nat
  down : Bool
/-- Where it lies. -/
structure Pl where
  db : Nat
  ia : Option Addr
  icap : Nat
  sb : Nat
  fa : Option Addr
  fcap : Nat
  mb : Nat

structure Fine (B : Nat) (f : Fl) : Prop where
  k : 1 ≤ f.k ∧ f.k ≤ 4
  b : 0 ≤ f.b ∧ f.b ≤ 4194304
  n : 1 ≤ f.n ∧ f.n ≤ 1099511627776
  p : 0 ≤ f.p ∧ f.p ≤ B

structure Good (m : M) : Prop where
  b1 : 16 ≤ m.B
  b2 : m.B ≤ 1024
  s2 : m.S ≤ 4096
  inp : m.inp.length ≤ 4194304
  scr : m.scr.length = m.B * m.S
  F : m.F.length ≤ 64
  fine : ∀ f ∈ m.F, Fine m.B f
  cI : m.cI ≤ m.k
  cS : m.cS ≤ m.k
  cW : m.cW ≤ m.k
  cT : m.cT ≤ m.k
  R : ∀ r b, m.R r b ≤ m.k

def devObj (m : M) (p : Pl) : Obj :=
  .cells #[.int .i64 m.B, .int .i64 m.S, .slice p.ia m.inp.length p.icap, .slice (some ⟨p.sb, 0, none⟩) (m.B * m.S) (m.B * m.S), .slice p.fa m.F.length p.fcap, .map (some p.mb), .int .i64 m.cI, .int .i64 m.cS, .int .i64 m.cW, .int .i64 m.cT, .bool m.down] 60 (0, 0)
def rowObj (l : List Int) : Obj := .cells (byt l).toArray 5 (0, 0)

/-- The device m lies in w at p. -/
structure Dv (w : World) (m : M) (p : Pl) : Prop where
  dev : w.heap[p.db]? = some (devObj m p)
  inp : BytesAt w p.ia m.inp
  scr : w.heap[p.sb]? = some (rowObj m.scr)
  flt : FaultsAt w p.fa m.F
  map : MapH w p.mb m.k m.R
  good : Good m
  icap : m.inp.length ≤ p.icap
  inil : p.ia = none → m.inp.length = 0 ∧ p.icap = 0
  api : ∀ b, InB p.ia m.inp.length b → b ≠ p.sb ∧ b ≠ p.db ∧ b ≠ p.mb
  apf : ∀ b, InB p.fa m.F.length b → b ≠ p.sb ∧ b ≠ p.db ∧ b ≠ p.mb

/-- The blocks that a device writes. -/
def Own (p : Pl) (k : Nat) : Prop := k = p.db ∨ k = p.sb ∨ k = p.mb
/-- All its blocks. -/
def Foot (m : M) (p : Pl) (k : Nat) : Prop := Own p k ∨ InB p.ia m.inp.length k ∨ InB p.fa m.F.length k

theorem Dv.db_sb {w : World} {m : M} {p : Pl} (h : Dv w m p) : p.db ≠ p.sb := fun e => by
  have := h.dev; rw [e, h.scr] at this; simp [rowObj, devObj] at this
theorem Dv.db_mb {w : World} {m : M} {p : Pl} (h : Dv w m p) : p.db ≠ p.mb := fun e => by
  obtain ⟨es, c, hm⟩ := h.map.is
  have := h.dev; rw [e, hm] at this; simp [devObj] at this
theorem Dv.sb_mb {w : World} {m : M} {p : Pl} (h : Dv w m p) : p.sb ≠ p.mb := fun e => by
  obtain ⟨es, c, hm⟩ := h.map.is
  have := h.scr; rw [e, hm] at this; simp [rowObj] at this
theorem Dv.lt {w : World} {m : M} {p : Pl} (h : Dv w m p) {k : Nat} (hk : Foot m p k) : k < w.heap.size := by
  rcases hk with (rfl | rfl | rfl) | hk | hk
  · exact lt_of_heap h.dev
  · exact lt_of_heap h.scr
  · exact h.map.lt
  · exact h.inp.lt hk
  · exact h.flt.lt hk
/-- What touches none of its blocks leaves a device as it was. -/
theorem Dv.kept {S : Nat → Prop} {w w' : World} {m : M} {p : Pl} (h : Dv w m p) (hs : Same S w w') (hd : ∀ k, Foot m p k → ¬ S k) : Dv w' m p where
  dev := (hs.block _ (h.lt (.inl (.inl rfl))) (hd _ (.inl (.inl rfl)))).trans h.dev
  inp := h.inp.kept hs fun k hk => hd k (.inr (.inl hk))
  scr := (hs.block _ (h.lt (.inl (.inr (.inl rfl)))) (hd _ (.inl (.inr (.inl rfl))))).trans h.scr
  flt := h.flt.kept hs fun k hk => hd k (.inr (.inr hk))
  map := h.map.kept hs (hd _ (.inl (.inr (.inr rfl))))
  good := h.good
  icap := h.icap
  inil := h.inil
  api := h.api
  apf := h.apf
theorem Dv.kept0 {w w' : World} {m : M} {p : Pl} (h : Dv w m p) (hs : Kept w w') : Dv w' m p := h.kept hs fun _ _ f => f
theorem Dv.drew {w : World} {m : M} {p : Pl} (h : Dv w m p) : Dv w.drew m p := ⟨h.dev, h.inp, h.scr, h.flt, h.map, h.good, h.icap, h.inil, h.api, h.apf⟩

/-- The device's own block turns. -/
theorem Dv.turn {w w' : World} {m m' : M} {p : Pl} (h : Dv w m p) (hs : Same (fun k => k = p.db) w w') (hd : w'.heap[p.db]? = some (devObj m' p)) (e1 : m'.inp = m.inp) (e2 : m'.scr = m.scr) (e3 : m'.F = m.F) (e4 : m'.R = m.R) (e5 : m.k ≤ m'.k) (hg : Good m') : Dv w' m' p where
  dev := hd
  inp := by rw [e1]; exact h.inp.kept hs fun k hk e => (h.api k hk).2.1 e
  scr := by rw [e2]; exact (hs.block _ (h.lt (.inl (.inr (.inl rfl)))) h.db_sb.symm).trans h.scr
  flt := by rw [e3]; exact h.flt.kept hs fun k hk e => (h.apf k hk).2.1 e
  map := by rw [e4]; exact (h.map.kept hs h.db_mb.symm).mono e5
  good := hg
  icap := by rw [e1]; exact h.icap
  inil := by rw [e1]; exact h.inil
  api := by rw [e1]; exact h.api
  apf := by rw [e3]; exact h.apf

/-- The cells of the device's block. -/
theorem Dv.cells {w : World} {m : M} {p : Pl} (h : Dv w m p) : w.cell? ⟨p.db, 0, none⟩ = some (.int .i64 m.B) ∧ w.cell? ⟨p.db, 1, none⟩ = some (.int .i64 m.S) ∧ w.cell? ⟨p.db, 2, none⟩ = some (.slice p.ia m.inp.length p.icap) ∧
    w.cell? ⟨p.db, 3, none⟩ = some (.slice (some ⟨p.sb, 0, none⟩) (m.B * m.S) (m.B * m.S)) ∧ w.cell? ⟨p.db, 4, none⟩ = some (.slice p.fa m.F.length p.fcap) ∧ w.cell? ⟨p.db, 5, none⟩ = some (.map (some p.mb)) :=
  ⟨(cell_of h.dev 0).trans rfl, (cell_of h.dev 1).trans rfl, (cell_of h.dev 2).trans rfl, (cell_of h.dev 3).trans rfl, (cell_of h.dev 4).trans rfl, (cell_of h.dev 5).trans rfl⟩
theorem Dv.counts {w : World} {m : M} {p : Pl} (h : Dv w m p) : w.cell? ⟨p.db, 6, none⟩ = some (.int .i64 m.cI) ∧ w.cell? ⟨p.db, 7, none⟩ = some (.int .i64 m.cS) ∧ w.cell? ⟨p.db, 8, none⟩ = some (.int .i64 m.cW) ∧
    w.cell? ⟨p.db, 9, none⟩ = some (.int .i64 m.cT) ∧ w.cell? ⟨p.db, 10, none⟩ = some (.bool m.down) :=
  ⟨(cell_of h.dev 6).trans rfl, (cell_of h.dev 7).trans rfl, (cell_of h.dev 8).trans rfl, (cell_of h.dev 9).trans rfl, (cell_of h.dev 10).trans rfl⟩

def Hits (l : List Fl) (r b : Int) (n : Nat) : Bool := l.any fun f => f.k == r && f.b == b && f.n == (n : Int)
end Go.Proofs.Ytpjkmficpedmcaa
