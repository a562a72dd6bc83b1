/- What is proved: report's reader: its fields one by one; conditions: lengths, and that the library's variable of the greatest length holds a number. -/
import Derived.Test.YtfhaiklfbnfdlaaDoorRoA
import Derived.Test.YtfhaiklfbnfdlaaDoorCfW
namespace Go.Proofs.YtfhaiklfbnfdlaaDoor
open Go.RowKit

/-- It lies in memory. -/
def RdP (w : World) (rb : Nat) (s : Rs) : Prop := w.heap[rb]? = some (.cells #[tx s.l, .bool s.f] 57 (0, 0))
theorem RdP.kept {w w' : World} {rb : Nat} {s : Rs} (h : RdP w rb s) (k : Kept w w') : RdP w' rb s := (k.block _ (lt_of_heap h) (fun e => e)).trans h
/-- The reader in memory, the library's variable, the words. -/
structure Rq (w : World) (rb : Nat) (s : Rs) : Prop where
  rd : RdP w rb s
  mx : Mx w
  wd : Wds w
theorem Rq.mv {w w' : World} {rb : Nat} {s s' : Rs} (h : Rq w rb s) (r : RdP w' rb s') (m : Mv rb w w') : Rq w' rb s' := by
  have n1 : 2 ≠ rb := fun e => by
    obtain ⟨m, hm⟩ := h.mx
    have h2 : w.cell? ⟨rb, 0, none⟩ = some (tx s.l) := (cell_of h.rd 0).trans rfl
    rw [← e] at h2
    rw [h2] at hm
    cases hm
  have n2 : 0 ≠ rb := fun e => by
    have hm := h.wd.1 1 _ rfl
    have h2 : w.cell? ⟨rb, 1, none⟩ = some (.bool s.f) := (cell_of h.rd 1).trans rfl
    rw [← e] at h2
    rw [h2] at hm
    cases hm
  have n3 : 1 ≠ rb := fun e => by
    have hm := h.wd.2 1 _ rfl
    have h2 : w.cell? ⟨rb, 1, none⟩ = some (.bool s.f) := (cell_of h.rd 1).trans rfl
    rw [← e] at h2
    rw [h2] at hm
    cases hm
  refine ⟨r, ?_, fun i x hx => ?_, fun i x hx => ?_⟩
  · obtain ⟨q, hq⟩ := h.mx
    exact ⟨q, (m.cell (p := ⟨2, 0, none⟩) (World.block_lt_of_cell? w _ hq) n1).trans hq⟩
  · have hq := h.wd.1 i x hx
    exact (m.cell (p := ⟨0, i, none⟩) (World.block_lt_of_cell? w _ hq) n2).trans hq
  · have hq := h.wd.2 i x hx
    exact (m.cell (p := ⟨1, i, none⟩) (World.block_lt_of_cell? w _ hq) n3).trans hq
theorem Rq.kept {w w' : World} {rb : Nat} {s : Rs} (h : Rq w rb s) (k : Kept w w') : Rq w' rb s := ⟨h.rd.kept k, h.mx.on k, h.wd.on k⟩
theorem Rq.facts {w : World} {rb : Nat} {s : Rs} (h : Rq w rb s) : rb < w.heap.size ∧ w.cell? ⟨rb, 0, none⟩ = some (tx s.l) ∧ w.cell? ⟨rb, 1, none⟩ = some (.bool s.f) ∧ w.frozen? ⟨rb, 0, none⟩ = false ∧ w.frozen? ⟨rb, 1, none⟩ = false := ⟨lt_of_heap h.rd, (cell_of h.rd 0).trans rfl, (cell_of h.rd 1).trans rfl, frozen_of h.rd 0, frozen_of h.rd 1⟩
theorem Rq.put0 {w : World} {rb : Nat} {s : Rs} (h : Rq w rb s) (l : List UInt8) : Rq (w.setCell ⟨rb, 0, none⟩ (tx l)) rb ⟨l, s.f⟩ ∧ Mv rb w (w.setCell ⟨rb, 0, none⟩ (tx l)) :=
  have m : Mv rb w (w.setCell ⟨rb, 0, none⟩ (tx l)) := Same.setCell (S := fun k => k = rb) (Same.refl _ w) _ (.inr rfl) _
  ⟨h.mv (setCell_at h.rd 0 _) m, m⟩
theorem Rq.put1 {w : World} {rb : Nat} {s : Rs} (h : Rq w rb s) (b : Bool) : Rq (w.setCell ⟨rb, 1, none⟩ (.bool b)) rb ⟨s.l, b⟩ ∧ Mv rb w (w.setCell ⟨rb, 1, none⟩ (.bool b)) :=
  have m : Mv rb w (w.setCell ⟨rb, 1, none⟩ (.bool b)) := Same.setCell (S := fun k => k = rb) (Same.refl _ w) _ (.inr rfl) _
  ⟨h.mv (setCell_at h.rd 1 _) m, m⟩
def Rs.le (s : Rs) : Prop := s.l.length ≤ 150000000000000
theorem Rs.le.cut {s : Rs} (h : s.le) (p : List UInt8) : (cutp p s).le := Nat.le_trans (trim_le _ _) h
theorem Rs.le.mst {s : Rs} (h : s.le) (p : List UInt8) : (mst p s).le := Nat.le_trans (trim_le _ _) h
/-- What stands ahead of a byte; the state behind it. -/
def utV (c : UInt8) (s : Rs) : List UInt8 := if s.f = true then [] else (cutb c s.l).1
def utS (c : UInt8) (s : Rs) : Rs := if s.f = true then s else ⟨(cutb c s.l).2.1, !(cutb c s.l).2.2⟩
theorem cutb_le (c : UInt8) (l : List UInt8) : (cutb c l).1.length ≤ l.length ∧ (cutb c l).2.1.length ≤ l.length := by
  unfold cutb
  split
  · exact ⟨Nat.le_refl _, Nat.zero_le _⟩
  · exact ⟨by rw [List.length_take]; omega, by rw [List.length_drop]; omega⟩
theorem utV_le (c : UInt8) (s : Rs) : (utV c s).length ≤ s.l.length := by
  unfold utV
  split
  · exact Nat.zero_le _
  · exact (cutb_le c s.l).1
theorem Rs.le.ut {s : Rs} (h : s.le) (c : UInt8) : (utS c s).le := by
  unfold utS
  split
  · exact h
  · exact Nat.le_trans (cutb_le c s.l).2 h
def nuN (p : List UInt8) (c : UInt8) (s : Rs) : Nat := (numb (utV c (mst p s))).getD 0
def nuT (p : List UInt8) (c : UInt8) (s : Rs) : Rs := bad (numb (utV c (mst p s))).isNone (utS c (mst p s))
def woN (p : List UInt8) (s : Rs) : List UInt8 := (uwd (utV 32 (mst p s))).getD []
def woT (p : List UInt8) (s : Rs) : Rs := bad (uwd (utV 32 (mst p s))).isNone (utS 32 (mst p s))
theorem Rs.le.nu {s : Rs} (h : s.le) (p : List UInt8) (c : UInt8) : (nuT p c s).le := (h.mst p).ut c
theorem Rs.le.wo {s : Rs} (h : s.le) (p : List UInt8) : (woT p s).le := (h.mst p).ut 32
def plN (p : List UInt8) (s : Rs) : Int := if hasp (p ++ [45, 32]) s = true then -1 else (nuN p 32 (cutp (p ++ [45, 32]) s) : Nat)
def plT (p : List UInt8) (s : Rs) : Rs := if hasp (p ++ [45, 32]) s = true then cutp (p ++ [45, 32]) s else nuT p 32 (cutp (p ++ [45, 32]) s)
def vaB (p : List UInt8) (s : Rs) : Bool := !hasp (p ++ [45, 32]) s
def vaN (p : List UInt8) (s : Rs) : List UInt8 := if hasp (p ++ [45, 32]) s = true then [] else woN p (cutp (p ++ [45, 32]) s)
def vaT (p : List UInt8) (s : Rs) : Rs := if hasp (p ++ [45, 32]) s = true then cutp (p ++ [45, 32]) s else woT p (cutp (p ++ [45, 32]) s)
theorem Rs.le.pl {s : Rs} (h : s.le) (p : List UInt8) : (plT p s).le := by
  unfold plT
  split
  · exact h.cut _
  · exact (h.cut _).nu _ _
theorem Rs.le.va {s : Rs} (h : s.le) (p : List UInt8) : (vaT p s).le := by
  unfold vaT
  split
  · exact h.cut _
  · exact (h.cut _).wo _
theorem pskip {w : World} {rb : Nat} {s : Rs} (h : Rq w rb s) (p : List UInt8) : Calls Tryd.prog 65 #[rdp rb, tx p] w fun e w' => e = .returned (.bool (hasp p s)) ∧ Rq w' rb (cutp p s) ∧ Mv rb w w' := by
  obtain ⟨h0, h1, h2, h3, h4⟩ := h.facts
  have HP : Hid _ := h.put0 (Lib.trimPrefix s.l p)
  have HC : Hid _ := cut_tx s.l p w
  clear h
  go_enter Tryd.func65, Tryd.ntmps65
  go_wp2_with fail
  refine Calls.mono HC.out ?_
  rintro e w1 ⟨rfl, e1⟩
  subst e1
  go_wp2_with fail
  go_ret
  exact ⟨rfl, HP.out⟩
theorem pmust {w : World} {rb : Nat} {s : Rs} (h : Rq w rb s) (p : List UInt8) : Calls Tryd.prog 49 #[rdp rb, tx p] w fun e w' => e = .returned (.tuple #[]) ∧ Rq w' rb (mst p s) ∧ Mv rb w w' := by
  have HC : Hid _ := pskip h p
  clear h
  go_enter Tryd.func49, Tryd.ntmps49
  go_wp2_with fail
  refine Calls.mono HC.out ?_
  rintro e w1 ⟨rfl, r1, m1⟩
  cases hp : hasp p s
  · obtain ⟨h0, h1, h2, h3, h4⟩ := r1.facts
    have HP : Hid _ := r1.put1 true
    have HM : Hid (Mv rb w w1) := m1
    clear r1 m1
    go_wp2_with fail
    refine bodyPost_end (results_none rfl _ _ _) rfl ?_
    have e : mst p s = ⟨(cutp p s).l, true⟩ := by unfold mst hasp at *; rw [hp]; simp [cutp]
    rw [e]
    exact ⟨rfl, HP.out.1, HM.out.trans' HP.out.2⟩
  · have HM : Hid _ := And.intro r1 m1
    clear r1 m1
    go_wp2_with fail
    refine bodyPost_end (results_none rfl _ _ _) rfl ?_
    have e : mst p s = cutp p s := by unfold mst hasp at *; rw [hp]; simp [cutp]
    rw [e]
    exact ⟨rfl, HM.out⟩
theorem puntil {w : World} {rb : Nat} {s : Rs} (h : Rq w rb s) (hs : s.le) (c : UInt8) : Calls Tryd.prog 66 #[rdp rb, tx [c]] w fun e w' => e = .returned (tx (utV c s)) ∧ Rq w' rb (utS c s) ∧ Mv rb w w' := by
  obtain ⟨h0, h1, h2, h3, h4⟩ := h.facts
  have H : Hid (Rq w rb s) := h
  have HC : Hid _ := cutw_any s.l c w (Nat.le_trans hs (by decide))
  clear h
  unfold utV utS
  cases hf : s.f with
  | true =>
    rw [hf] at h2
    go_enter Tryd.func66, Tryd.ntmps66
    go_wp2_with fail
    go_ret
    exact ⟨rfl, H.out, Same.refl _ _⟩
  | false =>
    rw [hf] at h2
    obtain ⟨l, f⟩ := s
    dsimp only at h1 HC hf ⊢
    subst hf
    generalize cutb c l = CB at *
    obtain ⟨ca, cr, cb⟩ := CB
    dsimp only at HC ⊢
    go_enter Tryd.func66, Tryd.ntmps66
    go_wp2_with fail
    refine Calls.mono HC.out ?_
    rintro e w1 ⟨rfl, nd, e1⟩
    have K1 : Kept w w1 := by rw [e1]; exact Same.drewN (Same.refl _ _) nd
    have H1 : Hid (Rq w1 rb ⟨l, false⟩) := H.out.kept K1
    have KK : Hid (Kept w w1) := K1
    clear e1 K1 h0 h1 h2 h3 h4 HC
    obtain ⟨h0, h1, h2, h3, h4⟩ := H1.out.facts
    have P0 := H1.out.put0 cr
    have P1 : Hid _ := P0.1.put1 (!cb)
    have M0 : Hid _ := P0.2
    clear P0
    go_wp2_with fail
    go_ret
    exact ⟨rfl, P1.out.1, ((Kept.to KK.out _).trans' M0.out).trans' P1.out.2⟩
end Go.Proofs.YtfhaiklfbnfdlaaDoor

namespace Go.Proofs.YtfhaiklfbnfdlaaDoor
open Go.RowKit

theorem add_str (a b : List UInt8) : (⟨a.toArray⟩ : ByteArray) ++ (⟨b.toArray⟩ : ByteArray) = ⟨(a ++ b).toArray⟩ := add_bytes a b
set_option maxRecDepth 100000 in
theorem pnumber {w : World} {rb : Nat} {s0 : Rs} (h : Rq w rb s0) (hs : s0.le) (p : List UInt8) (c : UInt8) : Calls Tryd.prog 51 #[rdp rb, tx p, tx [c]] w fun e w' => e = .returned (.int .i64 (nuN p c s0 : Nat)) ∧ Rq w' rb (nuT p c s0) ∧ Mv rb w w' := by
  have HC : Hid _ := pmust h p
  have hok := hs.mst p
  have HU : Hid (∀ W, Rq W rb (mst p s0) → _) := fun W (q : Rq W rb (mst p s0)) => puntil q hok c
  have hle : (utV c (mst p s0)).length ≤ 281474976710656 := Nat.le_trans (utV_le _ _) (Nat.le_trans hok (by decide))
  have HN : Hid (∀ w, _) := fun w => number_any21 (utV c (mst p s0)) w hle
  unfold nuN nuT
  clear h hs hok hle
  generalize utV c (mst p s0) = uv at *
  generalize utS c (mst p s0) = us at *
  generalize mst p s0 = s at *
  generalize numb uv = o at *
  go_enter Tryd.func51, Tryd.ntmps51
  go_wp2_with fail
  refine Calls.mono HC.out ?_
  rintro e w1 ⟨rfl, r1, m1⟩
  have M1 : Hid (Mv rb w w1) := m1
  have HUW : Hid _ := HU.out w1 r1
  clear r1 m1 HC HU
  go_wp2_with fail
  refine Calls.mono HUW.out ?_
  rintro e w2 ⟨rfl, r2, m2⟩
  have M2 : Hid (Mv rb w w2) := M1.out.trans' m2
  have R2 : Hid (Rq w2 rb us) := r2
  clear m2 r2 HUW M1
  go_wp2_with fail
  refine Calls.mono (HN.out _) ?_
  rintro e w3 ⟨rfl, e3⟩
  subst e3
  obtain ⟨h0, h1, h2, h3, h4⟩ := R2.out.facts
  cases o with
  | none =>
    have HP : Hid _ := R2.out.put1 true
    clear R2 HN
    simp only [numV]
    cases hf : us.f
    · rw [hf] at h2
      go_wp2_with fail
      go_ret
      have e : bad (none : Option Nat).isNone us = ⟨us.l, true⟩ := by simp [bad]
      rw [e]
      exact ⟨rfl, HP.out.1, M2.out.trans' HP.out.2⟩
    · rw [hf] at h2
      go_wp2_with fail
      go_ret
      have e : bad (none : Option Nat).isNone us = ⟨us.l, true⟩ := by simp [bad]
      rw [e]
      exact ⟨rfl, HP.out.1, M2.out.trans' HP.out.2⟩
  | some n =>
    have HP : Hid _ := R2.out.put1 us.f
    clear R2 HN
    simp only [numV]
    have ES2 : Hid (bad (some n).isNone us = ⟨us.l, us.f⟩) := by show _ = _; simp [bad]
    generalize us.f = f at *
    cases f
    · go_wp2_with fail
      go_ret
      rw [ES2.out]
      exact ⟨rfl, HP.out.1, M2.out.trans' HP.out.2⟩
    · go_wp2_with fail
      go_ret
      rw [ES2.out]
      exact ⟨rfl, HP.out.1, M2.out.trans' HP.out.2⟩
set_option maxRecDepth 100000 in
theorem pword {w : World} {rb : Nat} {s0 : Rs} (h : Rq w rb s0) (hs : s0.le) (p : List UInt8) : Calls Tryd.prog 80 #[rdp rb, tx p] w fun e w' => e = .returned (tx (woN p s0)) ∧ Rq w' rb (woT p s0) ∧ Mv rb w w' := by
  have HC : Hid _ := pmust h p
  have hok := hs.mst p
  have HU : Hid (∀ W, Rq W rb (mst p s0) → _) := fun W (q : Rq W rb (mst p s0)) => puntil q hok 32
  have hle : (utV 32 (mst p s0)).length ≤ 150000000000000 := Nat.le_trans (utV_le _ _) (Nat.le_trans hok (by decide))
  have HN : Hid (∀ w, _) := fun w => unword_any (utV 32 (mst p s0)) w hle
  unfold woN woT
  clear h hs hok hle
  generalize utV 32 (mst p s0) = uv at *
  generalize utS 32 (mst p s0) = us at *
  generalize mst p s0 = s at *
  generalize uwd uv = o at *
  go_enter Tryd.func80, Tryd.ntmps80
  go_wp2_with fail
  refine Calls.mono HC.out ?_
  rintro e w1 ⟨rfl, r1, m1⟩
  have M1 : Hid (Mv rb w w1) := m1
  have HUW : Hid _ := HU.out w1 r1
  clear r1 m1 HC HU
  go_wp2_with fail
  refine Calls.mono HUW.out ?_
  rintro e w2 ⟨rfl, r2, m2⟩
  have M2 : Hid (Mv rb w w2) := M1.out.trans' m2
  have R2 : Hid (Rq w2 rb us) := r2
  clear m2 r2 HUW M1
  go_wp2_with fail
  refine Calls.mono (HN.out _) ?_
  rintro e w3 ⟨rfl, k3⟩
  have R3 : Hid (Rq w3 rb us) := R2.out.kept k3
  have M3 : Hid (Mv rb w w3) := M2.out.trans' (k3.to _)
  clear k3 R2 M2
  obtain ⟨h0, h1, h2, h3, h4⟩ := R3.out.facts
  cases o with
  | none =>
    have HP : Hid _ := R3.out.put1 true
    clear R3 HN
    simp only [uwV]
    cases hf : us.f
    · rw [hf] at h2
      go_wp2_with fail
      go_ret
      have e : bad (none : Option (List UInt8)).isNone us = ⟨us.l, true⟩ := by simp [bad]
      rw [e]
      exact ⟨rfl, HP.out.1, M3.out.trans' HP.out.2⟩
    · rw [hf] at h2
      go_wp2_with fail
      go_ret
      have e : bad (none : Option (List UInt8)).isNone us = ⟨us.l, true⟩ := by simp [bad]
      rw [e]
      exact ⟨rfl, HP.out.1, M3.out.trans' HP.out.2⟩
  | some n =>
    have HP : Hid _ := R3.out.put1 us.f
    clear R3 HN
    simp only [uwV]
    have ES2 : Hid (bad (some n).isNone us = ⟨us.l, us.f⟩) := by show _ = _; simp [bad]
    generalize us.f = f at *
    cases f
    · go_wp2_with fail
      go_ret
      rw [ES2.out]
      exact ⟨rfl, HP.out.1, M3.out.trans' HP.out.2⟩
    · go_wp2_with fail
      go_ret
      rw [ES2.out]
      exact ⟨rfl, HP.out.1, M3.out.trans' HP.out.2⟩
set_option maxRecDepth 100000 in
theorem pplace {w : World} {rb : Nat} {s : Rs} (h : Rq w rb s) (hs : s.le) (p : List UInt8) (hp : p.length ≤ 100) : Calls Tryd.prog 79 #[rdp rb, tx p] w fun e w' => e = .returned (.int .i64 (plN p s)) ∧ Rq w' rb (plT p s) ∧ Mv rb w w' := by
  have HC : Hid _ := pskip h (p ++ [45, 32])
  have hok := hs.cut (p ++ [45, 32])
  have HN : Hid (∀ W, Rq W rb (cutp (p ++ [45, 32]) s) → _) := fun W (q : Rq W rb (cutp (p ++ [45, 32]) s)) => pnumber q hok p 32
  have AB : Hid ((⟨p.toArray⟩ : ByteArray) ++ (⟨#[45]⟩ : ByteArray) ++ (⟨#[32]⟩ : ByteArray) = ⟨(p ++ [45, 32]).toArray⟩) := by
    show _ = _
    rw [show (⟨#[45]⟩ : ByteArray) = ⟨[45].toArray⟩ from rfl, show (⟨#[32]⟩ : ByteArray) = ⟨[32].toArray⟩ from rfl, add_bytes, add_bytes, List.append_assoc]
    rfl
  have hz1 : ¬ 9223372036854775807 < p.length + 1 := by omega
  have hz2 : ¬ 9223372036854775807 < p.length + 1 + 1 := by omega
  unfold plN plT
  clear h hs hok
  generalize hq : p ++ [45, 32] = q at *
  clear hq
  generalize cutp q s = s1 at *
  generalize hasp q s = b at *
  go_enter Tryd.func79, Tryd.ntmps79
  go_wp2_with fail
  rw [AB.out]
  refine Calls.mono HC.out ?_
  rintro e w1 ⟨rfl, r1, m1⟩
  have M1 : Hid (Mv rb w w1) := m1
  have R1 : Hid (Rq w1 rb s1) := r1
  have HNW : Hid _ := HN.out w1 r1
  clear r1 m1 HC HN
  cases b with
  | true =>
    simp only
    go_wp2_with fail
    go_ret
    exact ⟨rfl, R1.out, M1.out⟩
  | false =>
    simp only
    go_wp2_with fail
    refine Calls.mono HNW.out ?_
    rintro e w2 ⟨rfl, r2, m2⟩
    have R2 : Hid (Rq w2 rb _) := r2
    have M2 : Hid (Mv rb w w2) := M1.out.trans' m2
    clear r2 m2
    go_wp2_with fail
    go_ret
    exact ⟨rfl, R2.out, M2.out⟩
set_option maxRecDepth 100000 in
theorem pvalue {w : World} {rb : Nat} {s : Rs} (h : Rq w rb s) (hs : s.le) (p : List UInt8) (hp : p.length ≤ 100) : Calls Tryd.prog 81 #[rdp rb, tx p] w fun e w' => e = .returned (.tuple #[.bool (vaB p s), tx (vaN p s)]) ∧ Rq w' rb (vaT p s) ∧ Mv rb w w' := by
  have HC : Hid _ := pskip h (p ++ [45, 32])
  have hok := hs.cut (p ++ [45, 32])
  have HN : Hid (∀ W, Rq W rb (cutp (p ++ [45, 32]) s) → _) := fun W (q : Rq W rb (cutp (p ++ [45, 32]) s)) => pword q hok p
  have AB : Hid ((⟨p.toArray⟩ : ByteArray) ++ (⟨#[45]⟩ : ByteArray) ++ (⟨#[32]⟩ : ByteArray) = ⟨(p ++ [45, 32]).toArray⟩) := by
    show _ = _
    rw [show (⟨#[45]⟩ : ByteArray) = ⟨[45].toArray⟩ from rfl, show (⟨#[32]⟩ : ByteArray) = ⟨[32].toArray⟩ from rfl, add_bytes, add_bytes, List.append_assoc]
    rfl
  have hz1 : ¬ 9223372036854775807 < p.length + 1 := by omega
  have hz2 : ¬ 9223372036854775807 < p.length + 1 + 1 := by omega
  unfold vaB vaN vaT
  clear h hs hok
  generalize hq : p ++ [45, 32] = q at *
  clear hq
  generalize cutp q s = s1 at *
  generalize hasp q s = b at *
  go_enter Tryd.func81, Tryd.ntmps81
  go_wp2_with fail
  rw [AB.out]
  refine Calls.mono HC.out ?_
  rintro e w1 ⟨rfl, r1, m1⟩
  have M1 : Hid (Mv rb w w1) := m1
  have R1 : Hid (Rq w1 rb s1) := r1
  have HNW : Hid _ := HN.out w1 r1
  clear r1 m1 HC HN
  cases b with
  | true =>
    simp only
    go_wp2_with fail
    go_ret2
    exact ⟨rfl, R1.out, M1.out⟩
  | false =>
    simp only
    go_wp2_with fail
    refine Calls.mono HNW.out ?_
    rintro e w2 ⟨rfl, r2, m2⟩
    have R2 : Hid (Rq w2 rb _) := r2
    have M2 : Hid (Mv rb w w2) := M1.out.trans' m2
    clear r2 m2
    go_wp2_with fail
    go_ret2
    exact ⟨rfl, R2.out, M2.out⟩
end Go.Proofs.YtfhaiklfbnfdlaaDoor

namespace Go.Proofs.YtfhaiklfbnfdlaaDoor
open Go.RowKit

/-- The place of a text in a list, or the list's length. -/
def plc (ws : List (List UInt8)) (v : List UInt8) : Nat := ws.findIdx (fun x => x == v)
theorem plc_at {ws : List (List UInt8)} {v : List UInt8} {i : Nat} (h : ∀ j, j < i → ∀ x, ws[j]? = some x → x ≠ v) (hi : ws[i]? = some v) : plc ws v = i := by
  have hlt := (List.getElem?_eq_some_iff.1 hi).1
  refine (List.findIdx_eq hlt).2 ⟨by rw [(List.getElem?_eq_some_iff.1 hi).2]; simp, fun j hj => ?_⟩
  have := h j hj _ (List.getElem?_eq_getElem (by omega))
  simpa using this
theorem plc_none {ws : List (List UInt8)} {v : List UInt8} (h : ∀ (j : Nat) (x : List UInt8), ws[j]? = some x → x ≠ v) : plc ws v = ws.length := by
  refine List.findIdx_eq_length.2 fun x hx => ?_
  obtain ⟨j, hj, rfl⟩ := List.mem_iff_getElem.1 hx
  have := h j _ (List.getElem?_eq_getElem hj)
  simpa using this
def kdN (ws : List (List UInt8)) (c : UInt8) (s : Rs) : Nat := if plc ws (utV c s) < ws.length then plc ws (utV c s) + 1 else 0
def kdT (ws : List (List UInt8)) (c : UInt8) (s : Rs) : Rs := if plc ws (utV c s) < ws.length then utS c s else ⟨(utS c s).l, true⟩
theorem Rs.le.kd {s : Rs} (h : s.le) (ws : List (List UInt8)) (c : UInt8) : (kdT ws c s).le := by
  unfold kdT
  split
  · exact h.ut c
  · exact h.ut c
set_option maxRecDepth 100000 in
set_option maxHeartbeats 1600000 in
theorem pokind {w : World} {rb : Nat} {s : Rs} (h : Rq w rb s) (hs : s.le) : Calls Tryd.prog 50 #[rdp rb] w fun e w' => e = .returned (.int .i64 (kdN oWords 10 s : Nat)) ∧ Rq w' rb (kdT oWords 10 s) ∧ Mv rb w w' := by
  have HU : Hid _ := puntil h hs 10
  have HF : Hid (∀ i, oWords[i]? = some (utV 10 s) → (∀ j, j < i → ∀ x, oWords[j]? = some x → x ≠ utV 10 s) → kdN oWords 10 s = i + 1 ∧ kdT oWords 10 s = utS 10 s) := fun i hi hj => by
    have e := plc_at hj hi
    have hl : i < oWords.length := (List.getElem?_eq_some_iff.1 hi).1
    unfold kdN kdT
    rw [e, if_pos hl, if_pos hl]
    exact ⟨rfl, rfl⟩
  have HZ : Hid ((∀ (j : Nat) (x : List UInt8), oWords[j]? = some x → x ≠ utV 10 s) → kdN oWords 10 s = 0 ∧ kdT oWords 10 s = ⟨(utS 10 s).l, true⟩) := fun hj => by
    have e := plc_none hj
    unfold kdN kdT
    rw [e, if_neg (Nat.lt_irrefl _), if_neg (Nat.lt_irrefl _)]
    exact ⟨rfl, rfl⟩
  clear h hs
  generalize kdN oWords 10 s = KN at *
  generalize kdT oWords 10 s = KT at *
  generalize utV 10 s = uv at *
  generalize utS 10 s = us at *
  go_enter Tryd.func50, Tryd.ntmps50
  go_wp2_with fail
  refine Calls.mono HU.out ?_
  rintro e w1 ⟨rfl, r1, m1⟩
  have R1 : Hid (Rq w1 rb us) := r1
  have M1 : Hid (Mv rb w w1) := m1
  have c0 := r1.wd.1 0 _ rfl
  have c1 := r1.wd.1 1 _ rfl
  have c2 := r1.wd.1 2 _ rfl
  have c3 := r1.wd.1 3 _ rfl
  have c4 := r1.wd.1 4 _ rfl
  have c5 := r1.wd.1 5 _ rfl
  have c6 := r1.wd.1 6 _ rfl
  have c7 := r1.wd.1 7 _ rfl
  have c8 := r1.wd.1 8 _ rfl
  have hbg : 0 < w1.heap.size := World.block_lt_of_cell? w1 _ c0
  obtain ⟨h0, h1, h2, h3, h4⟩ := r1.facts
  clear r1 m1 HU
  go_wp2_with fail
  go_loopw [9] (fun v9 wr => ∃ i : Nat, v9 = .int .i64 (i : Int) ∧ i ≤ 9 ∧ wr = w1 ∧ ∀ j, j < i → ∀ x, oWords[j]? = some x → x ≠ uv) (fun v9 _ => 9 - (intOf v9).toNat)
  case atStart => exact ⟨0, rfl, Nat.zero_le _, rfl, fun j hj => absurd hj (by omega)⟩
  case round =>
    obtain ⟨i, rfl, hi, rfl, hne⟩ := hrel
    have HNE : Hid _ := hne
    clear hne
    have hc : i = 0 ∨ i = 1 ∨ i = 2 ∨ i = 3 ∨ i = 4 ∨ i = 5 ∨ i = 6 ∨ i = 7 ∨ i = 8 ∨ i = 9 := by omega
    clear hi
    rcases hc with rfl | rfl | rfl | rfl | rfl | rfl | rfl | rfl | rfl | rfl
    · have hx1 : ∀ w, (Instr.index 69 (.agg #[tx [99, 111, 110, 102, 105, 103], tx [109, 97, 108, 102, 111, 114, 109, 101, 100], tx [105, 111], tx [99, 114, 97, 115, 104], tx [110, 111, 115, 112, 97, 99, 101], tx [115, 116, 97, 116, 101], tx [99, 97, 110, 99, 101, 108, 108, 101, 100], tx [97, 99, 99, 101, 112, 116], tx [114, 101, 106, 101, 99, 116]]) (.int .i64 0)).run Tryd.prog w = .ok (tx [99, 111, 110, 102, 105, 103]) w := fun _ => rfl
      have hx2 : ∀ w, (Instr.index 69 (.agg #[tx [99, 111, 110, 102, 105, 103], tx [109, 97, 108, 102, 111, 114, 109, 101, 100], tx [105, 111], tx [99, 114, 97, 115, 104], tx [110, 111, 115, 112, 97, 99, 101], tx [115, 116, 97, 116, 101], tx [99, 97, 110, 99, 101, 108, 108, 101, 100], tx [97, 99, 99, 101, 112, 116], tx [114, 101, 106, 101, 99, 116]]) (.int .i64 ((0 : Nat) : Int))).run Tryd.prog w = .ok (tx [99, 111, 110, 102, 105, 103]) w := fun _ => rfl
      by_cases hv : [99, 111, 110, 102, 105, 103] = uv
      · subst hv
        have q : ([99, 111, 110, 102, 105, 103] == [99, 111, 110, 102, 105, 103]) = true := by decide
        obtain ⟨f1, f2⟩ := HF.out 0 rfl HNE.out
        have F1 : Hid _ := And.intro f1 f2
        clear f1 f2
        go_wp2_with fail
        go_ret
        rw [F1.out.1, F1.out.2]
        exact ⟨rfl, R1.out, M1.out⟩
      · have q : ([99, 111, 110, 102, 105, 103] == uv) = false := beq_eq_false_iff_ne.2 hv
        have HV : Hid ([99, 111, 110, 102, 105, 103] ≠ uv) := hv
        clear hv
        go_wp2_with fail
        go_roundw
        case rel =>
          refine ⟨1, by first | rfl | simp, by decide, by first | trivial | rfl, fun j hj x hx => ?_⟩
          by_cases hj2 : j < 0
          · exact HNE.out j hj2 x hx
          · obtain rfl : j = 0 := by omega
            cases hx
            exact HV.out
        case measure => simp only [intOf]; decide
    · have hx1 : ∀ w, (Instr.index 69 (.agg #[tx [99, 111, 110, 102, 105, 103], tx [109, 97, 108, 102, 111, 114, 109, 101, 100], tx [105, 111], tx [99, 114, 97, 115, 104], tx [110, 111, 115, 112, 97, 99, 101], tx [115, 116, 97, 116, 101], tx [99, 97, 110, 99, 101, 108, 108, 101, 100], tx [97, 99, 99, 101, 112, 116], tx [114, 101, 106, 101, 99, 116]]) (.int .i64 1)).run Tryd.prog w = .ok (tx [109, 97, 108, 102, 111, 114, 109, 101, 100]) w := fun _ => rfl
      have hx2 : ∀ w, (Instr.index 69 (.agg #[tx [99, 111, 110, 102, 105, 103], tx [109, 97, 108, 102, 111, 114, 109, 101, 100], tx [105, 111], tx [99, 114, 97, 115, 104], tx [110, 111, 115, 112, 97, 99, 101], tx [115, 116, 97, 116, 101], tx [99, 97, 110, 99, 101, 108, 108, 101, 100], tx [97, 99, 99, 101, 112, 116], tx [114, 101, 106, 101, 99, 116]]) (.int .i64 ((1 : Nat) : Int))).run Tryd.prog w = .ok (tx [109, 97, 108, 102, 111, 114, 109, 101, 100]) w := fun _ => rfl
      by_cases hv : [109, 97, 108, 102, 111, 114, 109, 101, 100] = uv
      · subst hv
        have q : ([109, 97, 108, 102, 111, 114, 109, 101, 100] == [109, 97, 108, 102, 111, 114, 109, 101, 100]) = true := by decide
        obtain ⟨f1, f2⟩ := HF.out 1 rfl HNE.out
        have F1 : Hid _ := And.intro f1 f2
        clear f1 f2
        go_wp2_with fail
        go_ret
        rw [F1.out.1, F1.out.2]
        exact ⟨rfl, R1.out, M1.out⟩
      · have q : ([109, 97, 108, 102, 111, 114, 109, 101, 100] == uv) = false := beq_eq_false_iff_ne.2 hv
        have HV : Hid ([109, 97, 108, 102, 111, 114, 109, 101, 100] ≠ uv) := hv
        clear hv
        go_wp2_with fail
        go_roundw
        case rel =>
          refine ⟨2, by first | rfl | simp, by decide, by first | trivial | rfl, fun j hj x hx => ?_⟩
          by_cases hj2 : j < 1
          · exact HNE.out j hj2 x hx
          · obtain rfl : j = 1 := by omega
            cases hx
            exact HV.out
        case measure => simp only [intOf]; decide
    · have hx1 : ∀ w, (Instr.index 69 (.agg #[tx [99, 111, 110, 102, 105, 103], tx [109, 97, 108, 102, 111, 114, 109, 101, 100], tx [105, 111], tx [99, 114, 97, 115, 104], tx [110, 111, 115, 112, 97, 99, 101], tx [115, 116, 97, 116, 101], tx [99, 97, 110, 99, 101, 108, 108, 101, 100], tx [97, 99, 99, 101, 112, 116], tx [114, 101, 106, 101, 99, 116]]) (.int .i64 2)).run Tryd.prog w = .ok (tx [105, 111]) w := fun _ => rfl
      have hx2 : ∀ w, (Instr.index 69 (.agg #[tx [99, 111, 110, 102, 105, 103], tx [109, 97, 108, 102, 111, 114, 109, 101, 100], tx [105, 111], tx [99, 114, 97, 115, 104], tx [110, 111, 115, 112, 97, 99, 101], tx [115, 116, 97, 116, 101], tx [99, 97, 110, 99, 101, 108, 108, 101, 100], tx [97, 99, 99, 101, 112, 116], tx [114, 101, 106, 101, 99, 116]]) (.int .i64 ((2 : Nat) : Int))).run Tryd.prog w = .ok (tx [105, 111]) w := fun _ => rfl
      by_cases hv : [105, 111] = uv
      · subst hv
        have q : ([105, 111] == [105, 111]) = true := by decide
        obtain ⟨f1, f2⟩ := HF.out 2 rfl HNE.out
        have F1 : Hid _ := And.intro f1 f2
        clear f1 f2
        go_wp2_with fail
        go_ret
        rw [F1.out.1, F1.out.2]
        exact ⟨rfl, R1.out, M1.out⟩
      · have q : ([105, 111] == uv) = false := beq_eq_false_iff_ne.2 hv
        have HV : Hid ([105, 111] ≠ uv) := hv
        clear hv
        go_wp2_with fail
        go_roundw
        case rel =>
          refine ⟨3, by first | rfl | simp, by decide, by first | trivial | rfl, fun j hj x hx => ?_⟩
          by_cases hj2 : j < 2
          · exact HNE.out j hj2 x hx
          · obtain rfl : j = 2 := by omega
            cases hx
            exact HV.out
        case measure => simp only [intOf]; decide
    · have hx1 : ∀ w, (Instr.index 69 (.agg #[tx [99, 111, 110, 102, 105, 103], tx [109, 97, 108, 102, 111, 114, 109, 101, 100], tx [105, 111], tx [99, 114, 97, 115, 104], tx [110, 111, 115, 112, 97, 99, 101], tx [115, 116, 97, 116, 101], tx [99, 97, 110, 99, 101, 108, 108, 101, 100], tx [97, 99, 99, 101, 112, 116], tx [114, 101, 106, 101, 99, 116]]) (.int .i64 3)).run Tryd.prog w = .ok (tx [99, 114, 97, 115, 104]) w := fun _ => rfl
      have hx2 : ∀ w, (Instr.index 69 (.agg #[tx [99, 111, 110, 102, 105, 103], tx [109, 97, 108, 102, 111, 114, 109, 101, 100], tx [105, 111], tx [99, 114, 97, 115, 104], tx [110, 111, 115, 112, 97, 99, 101], tx [115, 116, 97, 116, 101], tx [99, 97, 110, 99, 101, 108, 108, 101, 100], tx [97, 99, 99, 101, 112, 116], tx [114, 101, 106, 101, 99, 116]]) (.int .i64 ((3 : Nat) : Int))).run Tryd.prog w = .ok (tx [99, 114, 97, 115, 104]) w := fun _ => rfl
      by_cases hv : [99, 114, 97, 115, 104] = uv
      · subst hv
        have q : ([99, 114, 97, 115, 104] == [99, 114, 97, 115, 104]) = true := by decide
        obtain ⟨f1, f2⟩ := HF.out 3 rfl HNE.out
        have F1 : Hid _ := And.intro f1 f2
        clear f1 f2
        go_wp2_with fail
        go_ret
        rw [F1.out.1, F1.out.2]
        exact ⟨rfl, R1.out, M1.out⟩
      · have q : ([99, 114, 97, 115, 104] == uv) = false := beq_eq_false_iff_ne.2 hv
        have HV : Hid ([99, 114, 97, 115, 104] ≠ uv) := hv
        clear hv
        go_wp2_with fail
        go_roundw
        case rel =>
          refine ⟨4, by first | rfl | simp, by decide, by first | trivial | rfl, fun j hj x hx => ?_⟩
          by_cases hj2 : j < 3
          · exact HNE.out j hj2 x hx
          · obtain rfl : j = 3 := by omega
            cases hx
            exact HV.out
        case measure => simp only [intOf]; decide
    · have hx1 : ∀ w, (Instr.index 69 (.agg #[tx [99, 111, 110, 102, 105, 103], tx [109, 97, 108, 102, 111, 114, 109, 101, 100], tx [105, 111], tx [99, 114, 97, 115, 104], tx [110, 111, 115, 112, 97, 99, 101], tx [115, 116, 97, 116, 101], tx [99, 97, 110, 99, 101, 108, 108, 101, 100], tx [97, 99, 99, 101, 112, 116], tx [114, 101, 106, 101, 99, 116]]) (.int .i64 4)).run Tryd.prog w = .ok (tx [110, 111, 115, 112, 97, 99, 101]) w := fun _ => rfl
      have hx2 : ∀ w, (Instr.index 69 (.agg #[tx [99, 111, 110, 102, 105, 103], tx [109, 97, 108, 102, 111, 114, 109, 101, 100], tx [105, 111], tx [99, 114, 97, 115, 104], tx [110, 111, 115, 112, 97, 99, 101], tx [115, 116, 97, 116, 101], tx [99, 97, 110, 99, 101, 108, 108, 101, 100], tx [97, 99, 99, 101, 112, 116], tx [114, 101, 106, 101, 99, 116]]) (.int .i64 ((4 : Nat) : Int))).run Tryd.prog w = .ok (tx [110, 111, 115, 112, 97, 99, 101]) w := fun _ => rfl
      by_cases hv : [110, 111, 115, 112, 97, 99, 101] = uv
      · subst hv
        have q : ([110, 111, 115, 112, 97, 99, 101] == [110, 111, 115, 112, 97, 99, 101]) = true := by decide
        obtain ⟨f1, f2⟩ := HF.out 4 rfl HNE.out
        have F1 : Hid _ := And.intro f1 f2
        clear f1 f2
        go_wp2_with fail
        go_ret
        rw [F1.out.1, F1.out.2]
        exact ⟨rfl, R1.out, M1.out⟩
      · have q : ([110, 111, 115, 112, 97, 99, 101] == uv) = false := beq_eq_false_iff_ne.2 hv
        have HV : Hid ([110, 111, 115, 112, 97, 99, 101] ≠ uv) := hv
        clear hv
        go_wp2_with fail
        go_roundw
        case rel =>
          refine ⟨5, by first | rfl | simp, by decide, by first | trivial | rfl, fun j hj x hx => ?_⟩
          by_cases hj2 : j < 4
          · exact HNE.out j hj2 x hx
          · obtain rfl : j = 4 := by omega
            cases hx
            exact HV.out
        case measure => simp only [intOf]; decide
    · have hx1 : ∀ w, (Instr.index 69 (.agg #[tx [99, 111, 110, 102, 105, 103], tx [109, 97, 108, 102, 111, 114, 109, 101, 100], tx [105, 111], tx [99, 114, 97, 115, 104], tx [110, 111, 115, 112, 97, 99, 101], tx [115, 116, 97, 116, 101], tx [99, 97, 110, 99, 101, 108, 108, 101, 100], tx [97, 99, 99, 101, 112, 116], tx [114, 101, 106, 101, 99, 116]]) (.int .i64 5)).run Tryd.prog w = .ok (tx [115, 116, 97, 116, 101]) w := fun _ => rfl
      have hx2 : ∀ w, (Instr.index 69 (.agg #[tx [99, 111, 110, 102, 105, 103], tx [109, 97, 108, 102, 111, 114, 109, 101, 100], tx [105, 111], tx [99, 114, 97, 115, 104], tx [110, 111, 115, 112, 97, 99, 101], tx [115, 116, 97, 116, 101], tx [99, 97, 110, 99, 101, 108, 108, 101, 100], tx [97, 99, 99, 101, 112, 116], tx [114, 101, 106, 101, 99, 116]]) (.int .i64 ((5 : Nat) : Int))).run Tryd.prog w = .ok (tx [115, 116, 97, 116, 101]) w := fun _ => rfl
      by_cases hv : [115, 116, 97, 116, 101] = uv
      · subst hv
        have q : ([115, 116, 97, 116, 101] == [115, 116, 97, 116, 101]) = true := by decide
        obtain ⟨f1, f2⟩ := HF.out 5 rfl HNE.out
        have F1 : Hid _ := And.intro f1 f2
        clear f1 f2
        go_wp2_with fail
        go_ret
        rw [F1.out.1, F1.out.2]
        exact ⟨rfl, R1.out, M1.out⟩
      · have q : ([115, 116, 97, 116, 101] == uv) = false := beq_eq_false_iff_ne.2 hv
        have HV : Hid ([115, 116, 97, 116, 101] ≠ uv) := hv
        clear hv
        go_wp2_with fail
        go_roundw
        case rel =>
          refine ⟨6, by first | rfl | simp, by decide, by first | trivial | rfl, fun j hj x hx => ?_⟩
          by_cases hj2 : j < 5
          · exact HNE.out j hj2 x hx
          · obtain rfl : j = 5 := by omega
            cases hx
            exact HV.out
        case measure => simp only [intOf]; decide
    · have hx1 : ∀ w, (Instr.index 69 (.agg #[tx [99, 111, 110, 102, 105, 103], tx [109, 97, 108, 102, 111, 114, 109, 101, 100], tx [105, 111], tx [99, 114, 97, 115, 104], tx [110, 111, 115, 112, 97, 99, 101], tx [115, 116, 97, 116, 101], tx [99, 97, 110, 99, 101, 108, 108, 101, 100], tx [97, 99, 99, 101, 112, 116], tx [114, 101, 106, 101, 99, 116]]) (.int .i64 6)).run Tryd.prog w = .ok (tx [99, 97, 110, 99, 101, 108, 108, 101, 100]) w := fun _ => rfl
      have hx2 : ∀ w, (Instr.index 69 (.agg #[tx [99, 111, 110, 102, 105, 103], tx [109, 97, 108, 102, 111, 114, 109, 101, 100], tx [105, 111], tx [99, 114, 97, 115, 104], tx [110, 111, 115, 112, 97, 99, 101], tx [115, 116, 97, 116, 101], tx [99, 97, 110, 99, 101, 108, 108, 101, 100], tx [97, 99, 99, 101, 112, 116], tx [114, 101, 106, 101, 99, 116]]) (.int .i64 ((6 : Nat) : Int))).run Tryd.prog w = .ok (tx [99, 97, 110, 99, 101, 108, 108, 101, 100]) w := fun _ => rfl
      by_cases hv : [99, 97, 110, 99, 101, 108, 108, 101, 100] = uv
      · subst hv
        have q : ([99, 97, 110, 99, 101, 108, 108, 101, 100] == [99, 97, 110, 99, 101, 108, 108, 101, 100]) = true := by decide
        obtain ⟨f1, f2⟩ := HF.out 6 rfl HNE.out
        have F1 : Hid _ := And.intro f1 f2
        clear f1 f2
        go_wp2_with fail
        go_ret
        rw [F1.out.1, F1.out.2]
        exact ⟨rfl, R1.out, M1.out⟩
      · have q : ([99, 97, 110, 99, 101, 108, 108, 101, 100] == uv) = false := beq_eq_false_iff_ne.2 hv
        have HV : Hid ([99, 97, 110, 99, 101, 108, 108, 101, 100] ≠ uv) := hv
        clear hv
        go_wp2_with fail
        go_roundw
        case rel =>
          refine ⟨7, by first | rfl | simp, by decide, by first | trivial | rfl, fun j hj x hx => ?_⟩
          by_cases hj2 : j < 6
          · exact HNE.out j hj2 x hx
          · obtain rfl : j = 6 := by omega
            cases hx
            exact HV.out
        case measure => simp only [intOf]; decide
    · have hx1 : ∀ w, (Instr.index 69 (.agg #[tx [99, 111, 110, 102, 105, 103], tx [109, 97, 108, 102, 111, 114, 109, 101, 100], tx [105, 111], tx [99, 114, 97, 115, 104], tx [110, 111, 115, 112, 97, 99, 101], tx [115, 116, 97, 116, 101], tx [99, 97, 110, 99, 101, 108, 108, 101, 100], tx [97, 99, 99, 101, 112, 116], tx [114, 101, 106, 101, 99, 116]]) (.int .i64 7)).run Tryd.prog w = .ok (tx [97, 99, 99, 101, 112, 116]) w := fun _ => rfl
      have hx2 : ∀ w, (Instr.index 69 (.agg #[tx [99, 111, 110, 102, 105, 103], tx [109, 97, 108, 102, 111, 114, 109, 101, 100], tx [105, 111], tx [99, 114, 97, 115, 104], tx [110, 111, 115, 112, 97, 99, 101], tx [115, 116, 97, 116, 101], tx [99, 97, 110, 99, 101, 108, 108, 101, 100], tx [97, 99, 99, 101, 112, 116], tx [114, 101, 106, 101, 99, 116]]) (.int .i64 ((7 : Nat) : Int))).run Tryd.prog w = .ok (tx [97, 99, 99, 101, 112, 116]) w := fun _ => rfl
      by_cases hv : [97, 99, 99, 101, 112, 116] = uv
      · subst hv
        have q : ([97, 99, 99, 101, 112, 116] == [97, 99, 99, 101, 112, 116]) = true := by decide
        obtain ⟨f1, f2⟩ := HF.out 7 rfl HNE.out
        have F1 : Hid _ := And.intro f1 f2
        clear f1 f2
        go_wp2_with fail
        go_ret
        rw [F1.out.1, F1.out.2]
        exact ⟨rfl, R1.out, M1.out⟩
      · have q : ([97, 99, 99, 101, 112, 116] == uv) = false := beq_eq_false_iff_ne.2 hv
        have HV : Hid ([97, 99, 99, 101, 112, 116] ≠ uv) := hv
        clear hv
        go_wp2_with fail
        go_roundw
        case rel =>
          refine ⟨8, by first | rfl | simp, by decide, by first | trivial | rfl, fun j hj x hx => ?_⟩
          by_cases hj2 : j < 7
          · exact HNE.out j hj2 x hx
          · obtain rfl : j = 7 := by omega
            cases hx
            exact HV.out
        case measure => simp only [intOf]; decide
    · have hx1 : ∀ w, (Instr.index 69 (.agg #[tx [99, 111, 110, 102, 105, 103], tx [109, 97, 108, 102, 111, 114, 109, 101, 100], tx [105, 111], tx [99, 114, 97, 115, 104], tx [110, 111, 115, 112, 97, 99, 101], tx [115, 116, 97, 116, 101], tx [99, 97, 110, 99, 101, 108, 108, 101, 100], tx [97, 99, 99, 101, 112, 116], tx [114, 101, 106, 101, 99, 116]]) (.int .i64 8)).run Tryd.prog w = .ok (tx [114, 101, 106, 101, 99, 116]) w := fun _ => rfl
      have hx2 : ∀ w, (Instr.index 69 (.agg #[tx [99, 111, 110, 102, 105, 103], tx [109, 97, 108, 102, 111, 114, 109, 101, 100], tx [105, 111], tx [99, 114, 97, 115, 104], tx [110, 111, 115, 112, 97, 99, 101], tx [115, 116, 97, 116, 101], tx [99, 97, 110, 99, 101, 108, 108, 101, 100], tx [97, 99, 99, 101, 112, 116], tx [114, 101, 106, 101, 99, 116]]) (.int .i64 ((8 : Nat) : Int))).run Tryd.prog w = .ok (tx [114, 101, 106, 101, 99, 116]) w := fun _ => rfl
      by_cases hv : [114, 101, 106, 101, 99, 116] = uv
      · subst hv
        have q : ([114, 101, 106, 101, 99, 116] == [114, 101, 106, 101, 99, 116]) = true := by decide
        obtain ⟨f1, f2⟩ := HF.out 8 rfl HNE.out
        have F1 : Hid _ := And.intro f1 f2
        clear f1 f2
        go_wp2_with fail
        go_ret
        rw [F1.out.1, F1.out.2]
        exact ⟨rfl, R1.out, M1.out⟩
      · have q : ([114, 101, 106, 101, 99, 116] == uv) = false := beq_eq_false_iff_ne.2 hv
        have HV : Hid ([114, 101, 106, 101, 99, 116] ≠ uv) := hv
        clear hv
        go_wp2_with fail
        go_roundw
        case rel =>
          refine ⟨9, by first | rfl | simp, by decide, by first | trivial | rfl, fun j hj x hx => ?_⟩
          by_cases hj2 : j < 8
          · exact HNE.out j hj2 x hx
          · obtain rfl : j = 8 := by omega
            cases hx
            exact HV.out
        case measure => simp only [intOf]; decide
    · obtain ⟨f1, f2⟩ := HZ.out (fun j x hx => HNE.out j (by have := (List.getElem?_eq_some_iff.1 hx).1; exact this) x hx)
      have F1 : Hid _ := And.intro f1 f2
      have P : Hid _ := R1.out.put1 true
      clear f1 f2
      go_wp2_with fail
      go_ret
      rw [F1.out.1, F1.out.2]
      exact ⟨rfl, P.out.1, M1.out.trans' P.out.2⟩
set_option maxRecDepth 100000 in
set_option maxHeartbeats 1600000 in
theorem pvkind {w : World} {rb : Nat} {s : Rs} (h : Rq w rb s) (hs : s.le) : Calls Tryd.prog 78 #[rdp rb] w fun e w' => e = .returned (.int .i64 (kdN vWords 32 s : Nat)) ∧ Rq w' rb (kdT vWords 32 s) ∧ Mv rb w w' := by
  have HU : Hid _ := puntil h hs 32
  have HF : Hid (∀ i, vWords[i]? = some (utV 32 s) → (∀ j, j < i → ∀ x, vWords[j]? = some x → x ≠ utV 32 s) → kdN vWords 32 s = i + 1 ∧ kdT vWords 32 s = utS 32 s) := fun i hi hj => by
    have e := plc_at hj hi
    have hl : i < vWords.length := (List.getElem?_eq_some_iff.1 hi).1
    unfold kdN kdT
    rw [e, if_pos hl, if_pos hl]
    exact ⟨rfl, rfl⟩
  have HZ : Hid ((∀ (j : Nat) (x : List UInt8), vWords[j]? = some x → x ≠ utV 32 s) → kdN vWords 32 s = 0 ∧ kdT vWords 32 s = ⟨(utS 32 s).l, true⟩) := fun hj => by
    have e := plc_none hj
    unfold kdN kdT
    rw [e, if_neg (Nat.lt_irrefl _), if_neg (Nat.lt_irrefl _)]
    exact ⟨rfl, rfl⟩
  clear h hs
  generalize kdN vWords 32 s = KN at *
  generalize kdT vWords 32 s = KT at *
  generalize utV 32 s = uv at *
  generalize utS 32 s = us at *
  go_enter Tryd.func78, Tryd.ntmps78
  go_wp2_with fail
  refine Calls.mono HU.out ?_
  rintro e w1 ⟨rfl, r1, m1⟩
  have R1 : Hid (Rq w1 rb us) := r1
  have M1 : Hid (Mv rb w w1) := m1
  have c0 := r1.wd.2 0 _ rfl
  have c1 := r1.wd.2 1 _ rfl
  have c2 := r1.wd.2 2 _ rfl
  have c3 := r1.wd.2 3 _ rfl
  have c4 := r1.wd.2 4 _ rfl
  have c5 := r1.wd.2 5 _ rfl
  have c6 := r1.wd.2 6 _ rfl
  have c7 := r1.wd.2 7 _ rfl
  have c8 := r1.wd.2 8 _ rfl
  have c9 := r1.wd.2 9 _ rfl
  have hbg : 1 < w1.heap.size := World.block_lt_of_cell? w1 _ c0
  obtain ⟨h0, h1, h2, h3, h4⟩ := r1.facts
  clear r1 m1 HU
  go_wp2_with fail
  go_loopw [9] (fun v9 wr => ∃ i : Nat, v9 = .int .i64 (i : Int) ∧ i ≤ 10 ∧ wr = w1 ∧ ∀ j, j < i → ∀ x, vWords[j]? = some x → x ≠ uv) (fun v9 _ => 10 - (intOf v9).toNat)
  case atStart => exact ⟨0, rfl, Nat.zero_le _, rfl, fun j hj => absurd hj (by omega)⟩
  case round =>
    obtain ⟨i, rfl, hi, rfl, hne⟩ := hrel
    have HNE : Hid _ := hne
    clear hne
    have hc : i = 0 ∨ i = 1 ∨ i = 2 ∨ i = 3 ∨ i = 4 ∨ i = 5 ∨ i = 6 ∨ i = 7 ∨ i = 8 ∨ i = 9 ∨ i = 10 := by omega
    clear hi
    rcases hc with rfl | rfl | rfl | rfl | rfl | rfl | rfl | rfl | rfl | rfl | rfl
    · have hx1 : ∀ w, (Instr.index 83 (.agg #[tx [105, 110, 118, 101, 114, 116, 101, 100], tx [99, 108, 105, 101, 110, 116], tx [101, 97, 114, 108, 121], tx [108, 97, 116, 101], tx [116, 119, 105, 110], tx [105, 110, 116, 101, 114, 110, 97, 108], tx [115, 110, 97, 112, 115, 104, 111, 116], tx [99, 111, 110, 102, 108, 105, 99, 116], tx [114, 101, 112, 101, 97, 116], tx [115, 101, 115, 115, 105, 111, 110]]) (.int .i64 0)).run Tryd.prog w = .ok (tx [105, 110, 118, 101, 114, 116, 101, 100]) w := fun _ => rfl
      have hx2 : ∀ w, (Instr.index 83 (.agg #[tx [105, 110, 118, 101, 114, 116, 101, 100], tx [99, 108, 105, 101, 110, 116], tx [101, 97, 114, 108, 121], tx [108, 97, 116, 101], tx [116, 119, 105, 110], tx [105, 110, 116, 101, 114, 110, 97, 108], tx [115, 110, 97, 112, 115, 104, 111, 116], tx [99, 111, 110, 102, 108, 105, 99, 116], tx [114, 101, 112, 101, 97, 116], tx [115, 101, 115, 115, 105, 111, 110]]) (.int .i64 ((0 : Nat) : Int))).run Tryd.prog w = .ok (tx [105, 110, 118, 101, 114, 116, 101, 100]) w := fun _ => rfl
      by_cases hv : [105, 110, 118, 101, 114, 116, 101, 100] = uv
      · subst hv
        have q : ([105, 110, 118, 101, 114, 116, 101, 100] == [105, 110, 118, 101, 114, 116, 101, 100]) = true := by decide
        obtain ⟨f1, f2⟩ := HF.out 0 rfl HNE.out
        have F1 : Hid _ := And.intro f1 f2
        clear f1 f2
        go_wp2_with fail
        go_ret
        rw [F1.out.1, F1.out.2]
        exact ⟨rfl, R1.out, M1.out⟩
      · have q : ([105, 110, 118, 101, 114, 116, 101, 100] == uv) = false := beq_eq_false_iff_ne.2 hv
        have HV : Hid ([105, 110, 118, 101, 114, 116, 101, 100] ≠ uv) := hv
        clear hv
        go_wp2_with fail
        go_roundw
        case rel =>
          refine ⟨1, by first | rfl | simp, by decide, by first | trivial | rfl, fun j hj x hx => ?_⟩
          by_cases hj2 : j < 0
          · exact HNE.out j hj2 x hx
          · obtain rfl : j = 0 := by omega
            cases hx
            exact HV.out
        case measure => simp only [intOf]; decide
    · have hx1 : ∀ w, (Instr.index 83 (.agg #[tx [105, 110, 118, 101, 114, 116, 101, 100], tx [99, 108, 105, 101, 110, 116], tx [101, 97, 114, 108, 121], tx [108, 97, 116, 101], tx [116, 119, 105, 110], tx [105, 110, 116, 101, 114, 110, 97, 108], tx [115, 110, 97, 112, 115, 104, 111, 116], tx [99, 111, 110, 102, 108, 105, 99, 116], tx [114, 101, 112, 101, 97, 116], tx [115, 101, 115, 115, 105, 111, 110]]) (.int .i64 1)).run Tryd.prog w = .ok (tx [99, 108, 105, 101, 110, 116]) w := fun _ => rfl
      have hx2 : ∀ w, (Instr.index 83 (.agg #[tx [105, 110, 118, 101, 114, 116, 101, 100], tx [99, 108, 105, 101, 110, 116], tx [101, 97, 114, 108, 121], tx [108, 97, 116, 101], tx [116, 119, 105, 110], tx [105, 110, 116, 101, 114, 110, 97, 108], tx [115, 110, 97, 112, 115, 104, 111, 116], tx [99, 111, 110, 102, 108, 105, 99, 116], tx [114, 101, 112, 101, 97, 116], tx [115, 101, 115, 115, 105, 111, 110]]) (.int .i64 ((1 : Nat) : Int))).run Tryd.prog w = .ok (tx [99, 108, 105, 101, 110, 116]) w := fun _ => rfl
      by_cases hv : [99, 108, 105, 101, 110, 116] = uv
      · subst hv
        have q : ([99, 108, 105, 101, 110, 116] == [99, 108, 105, 101, 110, 116]) = true := by decide
        obtain ⟨f1, f2⟩ := HF.out 1 rfl HNE.out
        have F1 : Hid _ := And.intro f1 f2
        clear f1 f2
        go_wp2_with fail
        go_ret
        rw [F1.out.1, F1.out.2]
        exact ⟨rfl, R1.out, M1.out⟩
      · have q : ([99, 108, 105, 101, 110, 116] == uv) = false := beq_eq_false_iff_ne.2 hv
        have HV : Hid ([99, 108, 105, 101, 110, 116] ≠ uv) := hv
        clear hv
        go_wp2_with fail
        go_roundw
        case rel =>
          refine ⟨2, by first | rfl | simp, by decide, by first | trivial | rfl, fun j hj x hx => ?_⟩
          by_cases hj2 : j < 1
          · exact HNE.out j hj2 x hx
          · obtain rfl : j = 1 := by omega
            cases hx
            exact HV.out
        case measure => simp only [intOf]; decide
    · have hx1 : ∀ w, (Instr.index 83 (.agg #[tx [105, 110, 118, 101, 114, 116, 101, 100], tx [99, 108, 105, 101, 110, 116], tx [101, 97, 114, 108, 121], tx [108, 97, 116, 101], tx [116, 119, 105, 110], tx [105, 110, 116, 101, 114, 110, 97, 108], tx [115, 110, 97, 112, 115, 104, 111, 116], tx [99, 111, 110, 102, 108, 105, 99, 116], tx [114, 101, 112, 101, 97, 116], tx [115, 101, 115, 115, 105, 111, 110]]) (.int .i64 2)).run Tryd.prog w = .ok (tx [101, 97, 114, 108, 121]) w := fun _ => rfl
      have hx2 : ∀ w, (Instr.index 83 (.agg #[tx [105, 110, 118, 101, 114, 116, 101, 100], tx [99, 108, 105, 101, 110, 116], tx [101, 97, 114, 108, 121], tx [108, 97, 116, 101], tx [116, 119, 105, 110], tx [105, 110, 116, 101, 114, 110, 97, 108], tx [115, 110, 97, 112, 115, 104, 111, 116], tx [99, 111, 110, 102, 108, 105, 99, 116], tx [114, 101, 112, 101, 97, 116], tx [115, 101, 115, 115, 105, 111, 110]]) (.int .i64 ((2 : Nat) : Int))).run Tryd.prog w = .ok (tx [101, 97, 114, 108, 121]) w := fun _ => rfl
      by_cases hv : [101, 97, 114, 108, 121] = uv
      · subst hv
        have q : ([101, 97, 114, 108, 121] == [101, 97, 114, 108, 121]) = true := by decide
        obtain ⟨f1, f2⟩ := HF.out 2 rfl HNE.out
        have F1 : Hid _ := And.intro f1 f2
        clear f1 f2
        go_wp2_with fail
        go_ret
        rw [F1.out.1, F1.out.2]
        exact ⟨rfl, R1.out, M1.out⟩
      · have q : ([101, 97, 114, 108, 121] == uv) = false := beq_eq_false_iff_ne.2 hv
        have HV : Hid ([101, 97, 114, 108, 121] ≠ uv) := hv
        clear hv
        go_wp2_with fail
        go_roundw
        case rel =>
          refine ⟨3, by first | rfl | simp, by decide, by first | trivial | rfl, fun j hj x hx => ?_⟩
          by_cases hj2 : j < 2
          · exact HNE.out j hj2 x hx
          · obtain rfl : j = 2 := by omega
            cases hx
            exact HV.out
        case measure => simp only [intOf]; decide
    · have hx1 : ∀ w, (Instr.index 83 (.agg #[tx [105, 110, 118, 101, 114, 116, 101, 100], tx [99, 108, 105, 101, 110, 116], tx [101, 97, 114, 108, 121], tx [108, 97, 116, 101], tx [116, 119, 105, 110], tx [105, 110, 116, 101, 114, 110, 97, 108], tx [115, 110, 97, 112, 115, 104, 111, 116], tx [99, 111, 110, 102, 108, 105, 99, 116], tx [114, 101, 112, 101, 97, 116], tx [115, 101, 115, 115, 105, 111, 110]]) (.int .i64 3)).run Tryd.prog w = .ok (tx [108, 97, 116, 101]) w := fun _ => rfl
      have hx2 : ∀ w, (Instr.index 83 (.agg #[tx [105, 110, 118, 101, 114, 116, 101, 100], tx [99, 108, 105, 101, 110, 116], tx [101, 97, 114, 108, 121], tx [108, 97, 116, 101], tx [116, 119, 105, 110], tx [105, 110, 116, 101, 114, 110, 97, 108], tx [115, 110, 97, 112, 115, 104, 111, 116], tx [99, 111, 110, 102, 108, 105, 99, 116], tx [114, 101, 112, 101, 97, 116], tx [115, 101, 115, 115, 105, 111, 110]]) (.int .i64 ((3 : Nat) : Int))).run Tryd.prog w = .ok (tx [108, 97, 116, 101]) w := fun _ => rfl
      by_cases hv : [108, 97, 116, 101] = uv
      · subst hv
        have q : ([108, 97, 116, 101] == [108, 97, 116, 101]) = true := by decide
        obtain ⟨f1, f2⟩ := HF.out 3 rfl HNE.out
        have F1 : Hid _ := And.intro f1 f2
        clear f1 f2
        go_wp2_with fail
        go_ret
        rw [F1.out.1, F1.out.2]
        exact ⟨rfl, R1.out, M1.out⟩
      · have q : ([108, 97, 116, 101] == uv) = false := beq_eq_false_iff_ne.2 hv
        have HV : Hid ([108, 97, 116, 101] ≠ uv) := hv
        clear hv
        go_wp2_with fail
        go_roundw
        case rel =>
          refine ⟨4, by first | rfl | simp, by decide, by first | trivial | rfl, fun j hj x hx => ?_⟩
          by_cases hj2 : j < 3
          · exact HNE.out j hj2 x hx
          · obtain rfl : j = 3 := by omega
            cases hx
            exact HV.out
        case measure => simp only [intOf]; decide
    · have hx1 : ∀ w, (Instr.index 83 (.agg #[tx [105, 110, 118, 101, 114, 116, 101, 100], tx [99, 108, 105, 101, 110, 116], tx [101, 97, 114, 108, 121], tx [108, 97, 116, 101], tx [116, 119, 105, 110], tx [105, 110, 116, 101, 114, 110, 97, 108], tx [115, 110, 97, 112, 115, 104, 111, 116], tx [99, 111, 110, 102, 108, 105, 99, 116], tx [114, 101, 112, 101, 97, 116], tx [115, 101, 115, 115, 105, 111, 110]]) (.int .i64 4)).run Tryd.prog w = .ok (tx [116, 119, 105, 110]) w := fun _ => rfl
      have hx2 : ∀ w, (Instr.index 83 (.agg #[tx [105, 110, 118, 101, 114, 116, 101, 100], tx [99, 108, 105, 101, 110, 116], tx [101, 97, 114, 108, 121], tx [108, 97, 116, 101], tx [116, 119, 105, 110], tx [105, 110, 116, 101, 114, 110, 97, 108], tx [115, 110, 97, 112, 115, 104, 111, 116], tx [99, 111, 110, 102, 108, 105, 99, 116], tx [114, 101, 112, 101, 97, 116], tx [115, 101, 115, 115, 105, 111, 110]]) (.int .i64 ((4 : Nat) : Int))).run Tryd.prog w = .ok (tx [116, 119, 105, 110]) w := fun _ => rfl
      by_cases hv : [116, 119, 105, 110] = uv
      · subst hv
        have q : ([116, 119, 105, 110] == [116, 119, 105, 110]) = true := by decide
        obtain ⟨f1, f2⟩ := HF.out 4 rfl HNE.out
        have F1 : Hid _ := And.intro f1 f2
        clear f1 f2
        go_wp2_with fail
        go_ret
        rw [F1.out.1, F1.out.2]
        exact ⟨rfl, R1.out, M1.out⟩
      · have q : ([116, 119, 105, 110] == uv) = false := beq_eq_false_iff_ne.2 hv
        have HV : Hid ([116, 119, 105, 110] ≠ uv) := hv
        clear hv
        go_wp2_with fail
        go_roundw
        case rel =>
          refine ⟨5, by first | rfl | simp, by decide, by first | trivial | rfl, fun j hj x hx => ?_⟩
          by_cases hj2 : j < 4
          · exact HNE.out j hj2 x hx
          · obtain rfl : j = 4 := by omega
            cases hx
            exact HV.out
        case measure => simp only [intOf]; decide
    · have hx1 : ∀ w, (Instr.index 83 (.agg #[tx [105, 110, 118, 101, 114, 116, 101, 100], tx [99, 108, 105, 101, 110, 116], tx [101, 97, 114, 108, 121], tx [108, 97, 116, 101], tx [116, 119, 105, 110], tx [105, 110, 116, 101, 114, 110, 97, 108], tx [115, 110, 97, 112, 115, 104, 111, 116], tx [99, 111, 110, 102, 108, 105, 99, 116], tx [114, 101, 112, 101, 97, 116], tx [115, 101, 115, 115, 105, 111, 110]]) (.int .i64 5)).run Tryd.prog w = .ok (tx [105, 110, 116, 101, 114, 110, 97, 108]) w := fun _ => rfl
      have hx2 : ∀ w, (Instr.index 83 (.agg #[tx [105, 110, 118, 101, 114, 116, 101, 100], tx [99, 108, 105, 101, 110, 116], tx [101, 97, 114, 108, 121], tx [108, 97, 116, 101], tx [116, 119, 105, 110], tx [105, 110, 116, 101, 114, 110, 97, 108], tx [115, 110, 97, 112, 115, 104, 111, 116], tx [99, 111, 110, 102, 108, 105, 99, 116], tx [114, 101, 112, 101, 97, 116], tx [115, 101, 115, 115, 105, 111, 110]]) (.int .i64 ((5 : Nat) : Int))).run Tryd.prog w = .ok (tx [105, 110, 116, 101, 114, 110, 97, 108]) w := fun _ => rfl
      by_cases hv : [105, 110, 116, 101, 114, 110, 97, 108] = uv
      · subst hv
        have q : ([105, 110, 116, 101, 114, 110, 97, 108] == [105, 110, 116, 101, 114, 110, 97, 108]) = true := by decide
        obtain ⟨f1, f2⟩ := HF.out 5 rfl HNE.out
        have F1 : Hid _ := And.intro f1 f2
        clear f1 f2
        go_wp2_with fail
        go_ret
        rw [F1.out.1, F1.out.2]
        exact ⟨rfl, R1.out, M1.out⟩
      · have q : ([105, 110, 116, 101, 114, 110, 97, 108] == uv) = false := beq_eq_false_iff_ne.2 hv
        have HV : Hid ([105, 110, 116, 101, 114, 110, 97, 108] ≠ uv) := hv
        clear hv
        go_wp2_with fail
        go_roundw
        case rel =>
          refine ⟨6, by first | rfl | simp, by decide, by first | trivial | rfl, fun j hj x hx => ?_⟩
          by_cases hj2 : j < 5
          · exact HNE.out j hj2 x hx
          · obtain rfl : j = 5 := by omega
            cases hx
            exact HV.out
        case measure => simp only [intOf]; decide
    · have hx1 : ∀ w, (Instr.index 83 (.agg #[tx [105, 110, 118, 101, 114, 116, 101, 100], tx [99, 108, 105, 101, 110, 116], tx [101, 97, 114, 108, 121], tx [108, 97, 116, 101], tx [116, 119, 105, 110], tx [105, 110, 116, 101, 114, 110, 97, 108], tx [115, 110, 97, 112, 115, 104, 111, 116], tx [99, 111, 110, 102, 108, 105, 99, 116], tx [114, 101, 112, 101, 97, 116], tx [115, 101, 115, 115, 105, 111, 110]]) (.int .i64 6)).run Tryd.prog w = .ok (tx [115, 110, 97, 112, 115, 104, 111, 116]) w := fun _ => rfl
      have hx2 : ∀ w, (Instr.index 83 (.agg #[tx [105, 110, 118, 101, 114, 116, 101, 100], tx [99, 108, 105, 101, 110, 116], tx [101, 97, 114, 108, 121], tx [108, 97, 116, 101], tx [116, 119, 105, 110], tx [105, 110, 116, 101, 114, 110, 97, 108], tx [115, 110, 97, 112, 115, 104, 111, 116], tx [99, 111, 110, 102, 108, 105, 99, 116], tx [114, 101, 112, 101, 97, 116], tx [115, 101, 115, 115, 105, 111, 110]]) (.int .i64 ((6 : Nat) : Int))).run Tryd.prog w = .ok (tx [115, 110, 97, 112, 115, 104, 111, 116]) w := fun _ => rfl
      by_cases hv : [115, 110, 97, 112, 115, 104, 111, 116] = uv
      · subst hv
        have q : ([115, 110, 97, 112, 115, 104, 111, 116] == [115, 110, 97, 112, 115, 104, 111, 116]) = true := by decide
        obtain ⟨f1, f2⟩ := HF.out 6 rfl HNE.out
        have F1 : Hid _ := And.intro f1 f2
        clear f1 f2
        go_wp2_with fail
        go_ret
        rw [F1.out.1, F1.out.2]
        exact ⟨rfl, R1.out, M1.out⟩
      · have q : ([115, 110, 97, 112, 115, 104, 111, 116] == uv) = false := beq_eq_false_iff_ne.2 hv
        have HV : Hid ([115, 110, 97, 112, 115, 104, 111, 116] ≠ uv) := hv
        clear hv
        go_wp2_with fail
        go_roundw
        case rel =>
          refine ⟨7, by first | rfl | simp, by decide, by first | trivial | rfl, fun j hj x hx => ?_⟩
          by_cases hj2 : j < 6
          · exact HNE.out j hj2 x hx
          · obtain rfl : j = 6 := by omega
            cases hx
            exact HV.out
        case measure => simp only [intOf]; decide
    · have hx1 : ∀ w, (Instr.index 83 (.agg #[tx [105, 110, 118, 101, 114, 116, 101, 100], tx [99, 108, 105, 101, 110, 116], tx [101, 97, 114, 108, 121], tx [108, 97, 116, 101], tx [116, 119, 105, 110], tx [105, 110, 116, 101, 114, 110, 97, 108], tx [115, 110, 97, 112, 115, 104, 111, 116], tx [99, 111, 110, 102, 108, 105, 99, 116], tx [114, 101, 112, 101, 97, 116], tx [115, 101, 115, 115, 105, 111, 110]]) (.int .i64 7)).run Tryd.prog w = .ok (tx [99, 111, 110, 102, 108, 105, 99, 116]) w := fun _ => rfl
      have hx2 : ∀ w, (Instr.index 83 (.agg #[tx [105, 110, 118, 101, 114, 116, 101, 100], tx [99, 108, 105, 101, 110, 116], tx [101, 97, 114, 108, 121], tx [108, 97, 116, 101], tx [116, 119, 105, 110], tx [105, 110, 116, 101, 114, 110, 97, 108], tx [115, 110, 97, 112, 115, 104, 111, 116], tx [99, 111, 110, 102, 108, 105, 99, 116], tx [114, 101, 112, 101, 97, 116], tx [115, 101, 115, 115, 105, 111, 110]]) (.int .i64 ((7 : Nat) : Int))).run Tryd.prog w = .ok (tx [99, 111, 110, 102, 108, 105, 99, 116]) w := fun _ => rfl
      by_cases hv : [99, 111, 110, 102, 108, 105, 99, 116] = uv
      · subst hv
        have q : ([99, 111, 110, 102, 108, 105, 99, 116] == [99, 111, 110, 102, 108, 105, 99, 116]) = true := by decide
        obtain ⟨f1, f2⟩ := HF.out 7 rfl HNE.out
        have F1 : Hid _ := And.intro f1 f2
        clear f1 f2
        go_wp2_with fail
        go_ret
        rw [F1.out.1, F1.out.2]
        exact ⟨rfl, R1.out, M1.out⟩
      · have q : ([99, 111, 110, 102, 108, 105, 99, 116] == uv) = false := beq_eq_false_iff_ne.2 hv
        have HV : Hid ([99, 111, 110, 102, 108, 105, 99, 116] ≠ uv) := hv
        clear hv
        go_wp2_with fail
        go_roundw
        case rel =>
          refine ⟨8, by first | rfl | simp, by decide, by first | trivial | rfl, fun j hj x hx => ?_⟩
          by_cases hj2 : j < 7
          · exact HNE.out j hj2 x hx
          · obtain rfl : j = 7 := by omega
            cases hx
            exact HV.out
        case measure => simp only [intOf]; decide
    · have hx1 : ∀ w, (Instr.index 83 (.agg #[tx [105, 110, 118, 101, 114, 116, 101, 100], tx [99, 108, 105, 101, 110, 116], tx [101, 97, 114, 108, 121], tx [108, 97, 116, 101], tx [116, 119, 105, 110], tx [105, 110, 116, 101, 114, 110, 97, 108], tx [115, 110, 97, 112, 115, 104, 111, 116], tx [99, 111, 110, 102, 108, 105, 99, 116], tx [114, 101, 112, 101, 97, 116], tx [115, 101, 115, 115, 105, 111, 110]]) (.int .i64 8)).run Tryd.prog w = .ok (tx [114, 101, 112, 101, 97, 116]) w := fun _ => rfl
      have hx2 : ∀ w, (Instr.index 83 (.agg #[tx [105, 110, 118, 101, 114, 116, 101, 100], tx [99, 108, 105, 101, 110, 116], tx [101, 97, 114, 108, 121], tx [108, 97, 116, 101], tx [116, 119, 105, 110], tx [105, 110, 116, 101, 114, 110, 97, 108], tx [115, 110, 97, 112, 115, 104, 111, 116], tx [99, 111, 110, 102, 108, 105, 99, 116], tx [114, 101, 112, 101, 97, 116], tx [115, 101, 115, 115, 105, 111, 110]]) (.int .i64 ((8 : Nat) : Int))).run Tryd.prog w = .ok (tx [114, 101, 112, 101, 97, 116]) w := fun _ => rfl
      by_cases hv : [114, 101, 112, 101, 97, 116] = uv
      · subst hv
        have q : ([114, 101, 112, 101, 97, 116] == [114, 101, 112, 101, 97, 116]) = true := by decide
        obtain ⟨f1, f2⟩ := HF.out 8 rfl HNE.out
        have F1 : Hid _ := And.intro f1 f2
        clear f1 f2
        go_wp2_with fail
        go_ret
        rw [F1.out.1, F1.out.2]
        exact ⟨rfl, R1.out, M1.out⟩
      · have q : ([114, 101, 112, 101, 97, 116] == uv) = false := beq_eq_false_iff_ne.2 hv
        have HV : Hid ([114, 101, 112, 101, 97, 116] ≠ uv) := hv
        clear hv
        go_wp2_with fail
        go_roundw
        case rel =>
          refine ⟨9, by first | rfl | simp, by decide, by first | trivial | rfl, fun j hj x hx => ?_⟩
          by_cases hj2 : j < 8
          · exact HNE.out j hj2 x hx
          · obtain rfl : j = 8 := by omega
            cases hx
            exact HV.out
        case measure => simp only [intOf]; decide
    · have hx1 : ∀ w, (Instr.index 83 (.agg #[tx [105, 110, 118, 101, 114, 116, 101, 100], tx [99, 108, 105, 101, 110, 116], tx [101, 97, 114, 108, 121], tx [108, 97, 116, 101], tx [116, 119, 105, 110], tx [105, 110, 116, 101, 114, 110, 97, 108], tx [115, 110, 97, 112, 115, 104, 111, 116], tx [99, 111, 110, 102, 108, 105, 99, 116], tx [114, 101, 112, 101, 97, 116], tx [115, 101, 115, 115, 105, 111, 110]]) (.int .i64 9)).run Tryd.prog w = .ok (tx [115, 101, 115, 115, 105, 111, 110]) w := fun _ => rfl
      have hx2 : ∀ w, (Instr.index 83 (.agg #[tx [105, 110, 118, 101, 114, 116, 101, 100], tx [99, 108, 105, 101, 110, 116], tx [101, 97, 114, 108, 121], tx [108, 97, 116, 101], tx [116, 119, 105, 110], tx [105, 110, 116, 101, 114, 110, 97, 108], tx [115, 110, 97, 112, 115, 104, 111, 116], tx [99, 111, 110, 102, 108, 105, 99, 116], tx [114, 101, 112, 101, 97, 116], tx [115, 101, 115, 115, 105, 111, 110]]) (.int .i64 ((9 : Nat) : Int))).run Tryd.prog w = .ok (tx [115, 101, 115, 115, 105, 111, 110]) w := fun _ => rfl
      by_cases hv : [115, 101, 115, 115, 105, 111, 110] = uv
      · subst hv
        have q : ([115, 101, 115, 115, 105, 111, 110] == [115, 101, 115, 115, 105, 111, 110]) = true := by decide
        obtain ⟨f1, f2⟩ := HF.out 9 rfl HNE.out
        have F1 : Hid _ := And.intro f1 f2
        clear f1 f2
        go_wp2_with fail
        go_ret
        rw [F1.out.1, F1.out.2]
        exact ⟨rfl, R1.out, M1.out⟩
      · have q : ([115, 101, 115, 115, 105, 111, 110] == uv) = false := beq_eq_false_iff_ne.2 hv
        have HV : Hid ([115, 101, 115, 115, 105, 111, 110] ≠ uv) := hv
        clear hv
        go_wp2_with fail
        go_roundw
        case rel =>
          refine ⟨10, by first | rfl | simp, by decide, by first | trivial | rfl, fun j hj x hx => ?_⟩
          by_cases hj2 : j < 9
          · exact HNE.out j hj2 x hx
          · obtain rfl : j = 9 := by omega
            cases hx
            exact HV.out
        case measure => simp only [intOf]; decide
    · obtain ⟨f1, f2⟩ := HZ.out (fun j x hx => HNE.out j (by have := (List.getElem?_eq_some_iff.1 hx).1; exact this) x hx)
      have F1 : Hid _ := And.intro f1 f2
      have P : Hid _ := R1.out.put1 true
      clear f1 f2
      go_wp2_with fail
      go_ret
      rw [F1.out.1, F1.out.2]
      exact ⟨rfl, P.out.1, M1.out.trans' P.out.2⟩
end Go.Proofs.YtfhaiklfbnfdlaaDoor
