/- What is proved: two writers of one device by turns, their closing, the opening and the reading back of both files, the rows and the boxes of the law StreamBack; the conditions stand in each. -/
import Derived.Test.YtpjkmficpedmcaaSBkM
import Derived.Test.YtpjkmficpedmcaaSAnchW
namespace Go.Proofs.Ytpjkmficpedmcaa
open Go.RowKit

/-- Two writers, of d and of e so far, on a device of blocks of B bytes with 4096 blocks. -/
def Bk (ow : Nat → Nat) (w : World) (B : Nat) (p : Pl) (sp : Nat) (t t' wb vb : Nat) (wr : World) (d e : List Int) : Prop :=
  ∃ (m : M) (u : List Bool) (bl bg cl cg : List Int) (bv gv cv hv : Value), DvT ow wr m p ∧ SpT ow wr sp u ∧ WtrAt ow t wr p sp wb bl bg d.length false 0 bv gv ∧ WtrAt ow t' wr p sp vb cl cg e.length false 0 cv hv ∧ (Wd m u bl bg d ∧ Wd m u cl cg e) ∧ Dk m u ∧ (∀ b ∈ bl, b ∉ cl) ∧ (m.B = B ∧ m.S = 4096 ∧ m.inp = [] ∧ m.cS = 0 ∧ m.cI = 0) ∧ m.k ≤ d.length + e.length ∧ bl.length + cl.length + fre u = 4096 ∧ m.cW = full ⟨m, u, bl, bg, 0, 0⟩ + full ⟨m, u, cl, cg, 0, 0⟩ ∧ Kept w wr ∧ ∀ k, k < w.heap.size → ow k = 0
theorem Wd.len {m : M} {u : List Bool} {bl bg d : List Int} (h : Wd m u bl bg d) (hk : Dk m u) : d.length + (if bg = [] then 0 else m.B) = bl.length * m.B + bg.length := by
  have q := congrArg List.length h.data
  rw [List.length_append, cont_len hk (fun b hb => by
    have hb2 : b ∈ bl := by
      by_cases e : bg = []
      · rw [if_pos e] at hb; exact hb
      · rw [if_neg e] at hb; exact (List.dropLast_sublist _).subset hb
    exact ⟨(h.ok b hb2).1, (h.ok b hb2).2.1⟩)] at q
  by_cases e : bg = []
  · rw [if_pos e] at q ⊢
    omega
  · rw [if_neg e] at q ⊢
    have h1 := List.length_pos_iff.2 (h.ne e)
    rw [List.length_dropLast] at q
    have : bl.length * m.B = (bl.length - 1) * m.B + m.B := by
      have := Nat.succ_mul (bl.length - 1) m.B
      rw [show Nat.succ (bl.length - 1) = bl.length by omega] at this
      exact this
    omega
theorem Bk.swap {ow : Nat → Nat} {w : World} {B : Nat} {p : Pl} {sp t t' wb vb : Nat} {wr : World} {d e : List Int} (h : Bk ow w B p sp t t' wb vb wr d e) : Bk ow w B p sp t' t vb wb wr e d := by
  obtain ⟨m, u, bl, bg, cl, cg, bv, gv, cv, hv, h1, h2, h3, h4, h5, h6, h7, h8, h9, h10, h11, h12, h13⟩ := h
  exact ⟨m, u, cl, cg, bl, bg, cv, hv, bv, gv, h1, h2, h4, h3, ⟨h5.2, h5.1⟩, h6, fun b hb hb2 => h7 b hb2 hb, h8, by omega, by omega, by omega, h12, h13⟩
theorem Bk.kept {ow : Nat → Nat} {w : World} {B : Nat} {p : Pl} {sp t t' wb vb : Nat} {wr : World} {d e : List Int} (h : Bk ow w B p sp t t' wb vb wr d e) : Kept w wr := by
  obtain ⟨m, u, bl, bg, cl, cg, bv, gv, cv, hv, h1, h2, h3, h4, h5, h6, h7, h8, h9, h10, h11, h12, h13⟩ := h
  exact h12
theorem Bk.on {ow : Nat → Nat} {w : World} {B : Nat} {p : Pl} {sp t t' wb vb : Nat} {wr W : World} {d e : List Int} (h : Bk ow w B p sp t t' wb vb wr d e) (k : Kept wr W) : Bk ow w B p sp t t' wb vb W d e := by
  obtain ⟨m, u, bl, bg, cl, cg, bv, gv, cv, hv, h1, h2, h3, h4, h5, h6, h7, h8, h9, h10, h11, h12, h13⟩ := h
  have st : Step (fun _ => False) ow wr ow W := ⟨k, fun _ _ => rfl⟩
  exact ⟨m, u, bl, bg, cl, cg, bv, gv, cv, hv, h1.on st (fun h => h) (fun h => h), h2.on st (fun h => h), h3.on st (fun h => h), h4.on st (fun h => h), h5, h6, h7, h8, h9, h10, h11, h12.trans' k, h13⟩
/-- A block that is neither's has turned: one with a tag of its own. -/
theorem Bk.far {ow : Nat → Nat} {w : World} {B : Nat} {p : Pl} {sp t t' wb vb : Nat} {wr W : World} {d e : List Int} {o' : Nat → Nat} {g : Nat} (h : Bk ow w B p sp t t' wb vb wr d e) (st : Step (fun n => n = g) ow wr o' W) (hg : g ≠ 0 ∧ g ≠ 1 ∧ g ≠ 2 ∧ g ≠ t ∧ g ≠ t') : Bk o' w B p sp t t' wb vb W d e := by
  obtain ⟨m, u, bl, bg, cl, cg, bv, gv, cv, hv, h1, h2, h3, h4, h5, h6, h7, h8, h9, h10, h11, h12, h13⟩ := h
  exact ⟨m, u, bl, bg, cl, cg, bv, gv, cv, hv, h1.on st (fun e => hg.1 e.symm) (fun e => hg.2.1 e.symm), h2.on st (fun e => hg.2.2.1 e.symm), h3.on st (fun e => hg.2.2.2.1 e.symm), h4.on st (fun e => hg.2.2.2.2 e.symm), h5, h6, h7, h8, h9, h10, h11, kept_of h12 st fun j hj => by rw [h13 j hj]; exact fun e => hg.1 e.symm, fun j hj => (st.tag j (Nat.lt_of_lt_of_le hj h12.size)).trans (h13 j hj)⟩
/-- There is room for some thousand bytes more. -/
theorem Bk.room {m : M} {u : List Bool} {bl bg cl cg d e : List Int} (h1 : Wd m u bl bg d) (h2 : Wd m u cl cg e) (hk : Dk m u) (hB : 16 ≤ m.B) (hf : bl.length + cl.length + fre u = 4096) (hs : d.length + e.length ≤ 48000) {n : Nat} (hn : n ≤ 16000) : n ≤ fre u * m.B := by
  have q1 := h1.len hk
  have q2 := h2.len hk
  have a1 : bl.length * m.B ≤ d.length + m.B := by
    by_cases e0 : bg = []
    · rw [if_pos e0] at q1; omega
    · rw [if_neg e0] at q1; omega
  have a2 : cl.length * m.B ≤ e.length + m.B := by
    by_cases e0 : cg = []
    · rw [if_pos e0] at q2; omega
    · rw [if_neg e0] at q2; omega
  have b1 : (bl.length - 1) * 16 ≤ d.length := by
    by_cases e0 : bl.length = 0
    · rw [e0]; omega
    · have := Nat.succ_mul (bl.length - 1) m.B
      rw [show Nat.succ (bl.length - 1) = bl.length by omega] at this
      have := Nat.mul_le_mul_left (bl.length - 1) hB
      omega
  have b2 : (cl.length - 1) * 16 ≤ e.length := by
    by_cases e0 : cl.length = 0
    · rw [e0]; omega
    · have := Nat.succ_mul (cl.length - 1) m.B
      rw [show Nat.succ (cl.length - 1) = cl.length by omega] at this
      have := Nat.mul_le_mul_left (cl.length - 1) hB
      omega
  have := Nat.mul_le_mul_left (fre u) hB
  omega
theorem Bk.write {ow : Nat → Nat} {w : World} {B : Nat} {p : Pl} {sp t t' wb vb : Nat} {wr W : World} {d e : List Int} (h : Bk ow w B p sp t t' wb vb wr d e) (k : Kept wr W) (ht : Tg t) (ht2 : ¬ Wt t t') (hB : 16 ≤ B) {a : Option Addr} {c : Nat} {l : List Int} (hb : BytesAt W a l) (hnew : ∀ j, InB a l.length j → wr.heap.size ≤ j) (cap : l.length ≤ c) (nil : a = none → l.length = 0 ∧ c = 0) (spot : ∀ ad, a = some ad → ad.spot = none) (hl : l.length ≤ 16000) (hs : d.length + e.length ≤ 48000) :
    Calls Try.prog 8 #[.pointer (some ⟨wb, 0, none⟩), .slice a l.length c] W fun x w2 => x = .returned (.int .i64 0) ∧ ∃ o', Step (Wt t) ow wr o' w2 ∧ Bk o' w B p sp t t' wb vb w2 (d ++ l) e := by
  obtain ⟨m, u, bl, bg, cl, cg, bv, gv, cv, hv, h1, h2, h3, h4, h5, h6, h7, ⟨g1, g2, g3, g4, g5⟩, h9, h10, h11, h12, h13⟩ := h
  have st0 : Step (fun _ => False) ow wr (tagN wr 0 ow) W := ⟨k, fun j hj => tagN_old hj⟩
  have hB2 : 16 ≤ m.B := by rw [g1]; exact hB
  have hroom := Bk.room h5.1 h5.2 h6 hB2 h10 hs hl
  obtain ⟨s', e1, a1, a2, a3, a4, ⟨b1, b2, b3, b4, b5⟩, a6, a7, a8, a9, a10, a11⟩ := Wd.bytes l (s := ⟨m, u, bl, bg, d.length, 0⟩) h5.1 h6 h5.2 h7 (by
    unfold room8
    simp only
    omega)
  simp only at b1 b2 b3 b4 b5 a6 a7 a8 a9 a10
  have wi : WI ⟨m, u, bl, bg, d.length, 0⟩ := ⟨h5.1.lt, h5.1.ne, h5.1.len h6, fun b hb2 => by
    have q := h5.1.ok b hb2
    rw [g2] at q
    exact ⟨q.1, by have := q.2.1; omega⟩, rfl, h2.small⟩
  have wt : WrT (tagN wr 0 ow) t W p sp wb ⟨m, u, bl, bg, d.length, 0⟩ false bv gv := ⟨h1.on st0 (fun h => h) (fun h => h), h2.on st0 (fun h => h), h3.on st0 (fun h => h)⟩
  have src : Src8 (tagN wr 0 ow) t W a c l := ⟨hb, fun j hj => by
    rw [tagN_new (hnew j hj)]
    rintro (q | q | q)
    · omega
    · omega
    · exact ht.n0 q.symm, cap, nil, spot⟩
  refine Calls.mono (write_ok8 wt ht wi a c l src (by show m.k + 2 * l.length + 10 < 4611686018427387904; omega) (by show d.length + l.length ≤ 549755813888; omega)) ?_
  rintro x w2 ⟨rfl, ⟨o', bv', gv', st, wt2⟩, -⟩
  rw [e1] at wt2 ⊢
  have st1 : Step (Wt t) ow wr o' w2 := (st0.mono fun _ q => q.elim).trans st
  refine ⟨rfl, o', st1, s'.m, s'.u, s'.bl, s'.bg, cl, cg, bv', gv', cv, hv, wt2.dv, wt2.spc, ?_, h4.on st1 ht2, ⟨a1, a3⟩, a2, a4, ⟨b1.trans g1, b2.trans g2, b3.trans g3, b4.trans g4, b5.trans g5⟩, ?_, by omega, ?_, kept_of h12 st1 fun j hj => ?_, fun j hj => ?_⟩
  · have := wt2.wtr
    rw [a6, a7] at this
    rw [List.length_append]
    exact this
  · rw [List.length_append]
    omega
  · have q : full ⟨m, u, bl, bg, d.length, 0⟩ = full ⟨m, u, bl, bg, 0, 0⟩ := rfl
    have q2 : full ⟨s'.m, s'.u, s'.bl, s'.bg, 0, 0⟩ = full s' := rfl
    have q3 : full ⟨s'.m, s'.u, cl, cg, 0, 0⟩ = full ⟨m, u, cl, cg, 0, 0⟩ := rfl
    rw [q2, q3]
    rw [q] at a10
    omega
  · rw [h13 j hj]
    rintro (q | q | q)
    · omega
    · omega
    · exact ht.n0 q.symm
  · rw [st1.tag j (Nat.lt_of_lt_of_le hj h12.size)]
    exact h13 j hj
end Go.Proofs.Ytpjkmficpedmcaa
namespace Go.Proofs.Ytpjkmficpedmcaa
open Go.RowKit

theorem Wm.flush {s : WrS} {pre d bl2 bg2 d2 zs : List Int} {n : Nat} (h : Wm s.m s.u pre s.bg d n) (hbl : s.bl = pre ++ [(n : Int)]) (hk : Dk s.m s.u) (h2 : Wd s.m s.u bl2 bg2 d2) (ap : ∀ b ∈ pre ++ [(n : Int)], b ∉ bl2) (hy : (s.bg ++ zs).length = s.m.B) :
    ({ s with bg := s.bg ++ zs } : WrS).flush = (0, { s with m := s.m.cW1.torn (n * s.m.B) (s.bg ++ zs) false, bg := [] }) ∧ Wd (s.m.cW1.torn (n * s.m.B) (s.bg ++ zs) false) s.u s.bl [] (d ++ zs) ∧ Dk (s.m.cW1.torn (n * s.m.B) (s.bg ++ zs) false) s.u ∧ Wd (s.m.cW1.torn (n * s.m.B) (s.bg ++ zs) false) s.u bl2 bg2 d2 := by
  have hgl : s.bl.getLastD 0 = (n : Int) := by rw [hbl]; simp
  have hw := write_fit (m := s.m) (n := n) (d := s.bg ++ zs) hk.dn h.n1 hy hk.eF
  refine ⟨?_, ⟨?_, by rw [hbl]; exact h.nd, hk.b0, fun e => absurd rfl e, ?_⟩, ⟨hk.eF, rfl, hk.b0, ?_, hk.len⟩, ⟨h2.ok, h2.nd, h2.lt, h2.ne, ?_⟩⟩
  · unfold WrS.flush
    simp only [hgl, hw]
    rw [if_neg (by simp)]
  · intro b hb
    rw [hbl] at hb
    rcases List.mem_append.1 hb with hb2 | hb2
    · exact h.ok b hb2
    · rw [List.mem_singleton] at hb2
      subst hb2
      exact ⟨by omega, by have := h.n1; show (n : Int) < (s.m.S : Int); omega, by rw [Int.toNat_natCast]; exact h.n2⟩
  · show d ++ zs = cont (s.m.cW1.torn (n * s.m.B) (s.bg ++ zs) false) (if ([] : List Int) = [] then s.bl else s.bl.dropLast) ++ []
    rw [if_pos rfl, List.append_nil, hbl]
    have e1 : cont (s.m.cW1.torn (n * s.m.B) (s.bg ++ zs) false) pre = cont s.m pre := cont_write hk h.n1 hy (fun b hb => ⟨(h.ok b hb).1, fun e => by
      subst e
      have := (List.nodup_append.1 h.nd).2.2 _ hb _ (List.mem_singleton.2 rfl)
      exact this rfl⟩) _ rfl rfl
    have e2 : cont (s.m.cW1.torn (n * s.m.B) (s.bg ++ zs) false) (pre ++ [(n : Int)]) = cont (s.m.cW1.torn (n * s.m.B) (s.bg ++ zs) false) pre ++ cut s.m.B (splice s.m.scr (n * s.m.B) (s.bg ++ zs)) n := by
      unfold cont
      rw [List.flatMap_append]
      simp [M.torn, M.cW1]
    rw [e2, e1, cut_same hy (fits hk h.n1), h.data, List.append_assoc]
  · show (splice s.m.scr (n * s.m.B) (s.bg ++ zs)).length = s.m.B * s.m.S
    rw [length_splice _ _ _ (by rw [hy]; exact fits hk h.n1)]
    exact hk.scr
  · have e1 : ∀ L : List Int, (∀ b ∈ L, b ∈ bl2) → cont (s.m.cW1.torn (n * s.m.B) (s.bg ++ zs) false) L = cont s.m L := fun L hL => cont_write hk h.n1 hy (fun b hb => ⟨(h2.ok b (hL b hb)).1, fun e => ap b (by rw [e]; simp) (hL b hb)⟩) _ rfl rfl
    have q := h2.data
    by_cases eb : bg2 = []
    · rw [if_pos eb] at q ⊢
      rw [e1 bl2 fun b hb => hb]
      exact q
    · rw [if_neg eb] at q ⊢
      rw [e1 bl2.dropLast fun b hb => (List.dropLast_sublist _).subset hb]
      exact q
/-- A writer that is closed. -/
theorem Wd.fill {s : WrS} {d bl2 bg2 d2 : List Int} (h : Wd s.m s.u s.bl s.bg d) (hk : Dk s.m s.u) (h2 : Wd s.m s.u bl2 bg2 d2) (ap : ∀ b ∈ s.bl, b ∉ bl2) :
    ∃ s' zs, s.fill = (0, s') ∧ s'.bl = s.bl ∧ s'.u = s.u ∧ s'.sz = s.sz ∧ s'.br = s.br ∧ Wd s'.m s'.u s'.bl [] (d ++ zs) ∧ Dk s'.m s'.u ∧ Wd s'.m s'.u bl2 bg2 d2 ∧ (s'.m.B = s.m.B ∧ s'.m.S = s.m.S ∧ s'.m.inp = s.m.inp ∧ s'.m.cS = s.m.cS ∧ s'.m.cI = s.m.cI) ∧ s'.m.cW + full s = s.m.cW + s.bl.length ∧ s'.m.k ≤ s.m.k + 1 ∧ zs.length < s.m.B := by
  by_cases hb : s.bg = []
  · refine ⟨s, [], ?_, rfl, rfl, rfl, rfl, ?_, hk, h2, ⟨rfl, rfl, rfl, rfl, rfl⟩, ?_, Nat.le_succ _, hk.b0⟩
    · unfold WrS.fill
      rw [if_pos hb]
    · rw [List.append_nil]
      rw [hb] at h
      exact h
    · unfold full
      rw [if_pos hb]
      rfl
  · obtain ⟨pre, n, u', e1, wm, hk1, h21, ap1, hc⟩ := h.begin hk h2 ap fun e => absurd e hb
    rcases hc with ⟨-, e3, e4⟩ | ⟨e0, -⟩
    · subst e3
      have hlt := h.lt
      have hpos := List.length_pos_iff.2 hb
      obtain ⟨q1, q2, q3, q4⟩ := Wm.flush (s := s) (zs := List.replicate (s.m.B - s.bg.length) 0) wm e4.symm hk1 h21 ap1 (by rw [List.length_append, List.length_replicate]; omega)
      refine ⟨{ s with m := s.m.cW1.torn (n * s.m.B) (s.bg ++ List.replicate (s.m.B - s.bg.length) 0) false, bg := [] }, List.replicate (s.m.B - s.bg.length) 0, ?_, rfl, rfl, rfl, rfl, q2, q3, q4, ⟨rfl, rfl, rfl, rfl, rfl⟩, ?_, Nat.le_refl _, by rw [List.length_replicate]; omega⟩
      · unfold WrS.fill
        rw [if_neg hb, q1]
      · show s.m.cW + 1 + full s = s.m.cW + s.bl.length
        unfold full
        have := List.length_pos_iff.2 (h.ne hb)
        rw [if_neg hb]
        omega
    · exact absurd e0 hb
/-- A file is closed: its blocks a; the other writer goes on. -/
def Bc (ow : Nat → Nat) (w : World) (B : Nat) (p : Pl) (sp : Nat) (t t' vb : Nat) (a : Option Addr) (n c : Nat) (wr : World) (d e : List Int) : Prop :=
  ∃ (m : M) (u : List Bool) (L zs cl cg : List Int) (cv hv : Value), n = L.length ∧ DvT ow wr m p ∧ SpT ow wr sp u ∧ (OwnI 0 wr (.slice a n c) L ∧ ∀ k, (Value.slice a n c).ownBlock = some k → ow k = t) ∧ WtrAt ow t' wr p sp vb cl cg e.length false 0 cv hv ∧ (Wd m u L [] (d ++ zs) ∧ Wd m u cl cg e) ∧ zs.length < B ∧ Dk m u ∧ (∀ b ∈ L, b ∉ cl) ∧ (m.B = B ∧ m.S = 4096 ∧ m.inp = [] ∧ m.cS = 0 ∧ m.cI = 0) ∧ m.k ≤ d.length + e.length + 1 ∧ L.length + cl.length + fre u = 4096 ∧ m.cW = L.length + full ⟨m, u, cl, cg, 0, 0⟩ ∧ Kept w wr ∧ ∀ k, k < w.heap.size → ow k = 0
theorem Bk.wi {m : M} {u : List Bool} {bl bg d : List Int} (h : Wd m u bl bg d) (hk : Dk m u) (hS : m.S = 4096) (hu : u.length ≤ 4096) : WI ⟨m, u, bl, bg, d.length, 0⟩ :=
  ⟨h.lt, h.ne, h.len hk, fun b hb2 => by
    have q := h.ok b hb2
    rw [hS] at q
    exact ⟨q.1, by have := q.2.1; omega⟩, rfl, hu⟩
theorem close_all {o : Nat → Nat} {t : Nat} {w : World} {p : Pl} {sp wb : Nat} {s : WrS} {bv gv : Value} (h : WrT o t w p sp wb s false bv gv) (ht : Tg t) (hi : WI s) (hk : s.m.k + 10 < 4611686018427387904) (hz : s.sz ≤ 549755813888) : Calls Try.prog 10 #[.pointer (some ⟨wb, 0, none⟩)] w (CloseP o t w p sp wb s) := by
  by_cases hg : s.bg = []
  · exact close_none h ht hi hg
  · exact close_some h ht hi hg hk hz
theorem Bk.close {ow : Nat → Nat} {w : World} {B : Nat} {p : Pl} {sp t t' wb vb : Nat} {wr : World} {d e : List Int} (h : Bk ow w B p sp t t' wb vb wr d e) (ht : Tg t) (ht2 : ¬ Wt t t') (hs : d.length + e.length ≤ 48000) :
    Calls Try.prog 10 #[.pointer (some ⟨wb, 0, none⟩)] wr fun x w2 => ∃ a n c, x = .returned (.tuple #[fileV a n c (d.length : Nat), .int .i64 0]) ∧ ∃ o', Step (Wt t) ow wr o' w2 ∧ Bc o' w B p sp t t' vb a n c w2 d e := by
  obtain ⟨m, u, bl, bg, cl, cg, bv, gv, cv, hv, h1, h2, h3, h4, h5, h6, h7, ⟨g1, g2, g3, g4, g5⟩, h9, h10, h11, h12, h13⟩ := h
  have wt : WrT ow t wr p sp wb ⟨m, u, bl, bg, d.length, 0⟩ false bv gv := ⟨h1, h2, h3⟩
  obtain ⟨s', zs, e1, a1, a2, a3, a4, a5, a6, a7, ⟨b1, b2, b3, b4, b5⟩, a8, a9, a10⟩ := Wd.fill (s := ⟨m, u, bl, bg, d.length, 0⟩) h5.1 h6 h5.2 h7
  simp only at a1 a2 a3 a4 b1 b2 b3 b4 b5 a8 a9 a10
  refine Calls.mono (close_all wt ht (Bk.wi h5.1 h6 g2 h2.small) (by show m.k + 10 < 4611686018427387904; omega) (by show d.length ≤ 549755813888; omega)) ?_
  rintro x w2 (⟨q, -⟩ | ⟨-, o', a, c, rfl, st, ow2, otag, wt2⟩)
  · rw [e1] at q
    exact absurd rfl q
  · rw [e1] at ow2 otag wt2 ⊢
    simp only at ow2 otag wt2
    refine ⟨a, s'.bl.length, c, rfl, o', st, s'.m, s'.u, s'.bl, zs, cl, cg, cv, hv, rfl, wt2.dv, wt2.spc, ⟨ow2, fun k hk => (otag k hk).1⟩, h4.on st ht2, ⟨a5, a7⟩, by rw [← g1]; exact a10, a6, by rw [a1]; exact h7, ⟨b1.trans g1, b2.trans g2, b3.trans g3, b4.trans g4, b5.trans g5⟩, by omega, by rw [a1, a2]; exact h10, ?_, kept_of h12 st fun j hj => ?_, fun j hj => ?_⟩
    · have q : full ⟨m, u, bl, bg, d.length, 0⟩ = full ⟨m, u, bl, bg, 0, 0⟩ := rfl
      have q3 : full ⟨s'.m, s'.u, cl, cg, 0, 0⟩ = full ⟨m, u, cl, cg, 0, 0⟩ := rfl
      rw [q3, a1]
      rw [q] at a8
      omega
    · rw [h13 j hj]
      rintro (q | q | q)
      · omega
      · omega
      · exact ht.n0 q.symm
    · rw [st.tag j (Nat.lt_of_lt_of_le hj h12.size)]
      exact h13 j hj
/-- Both files are closed. -/
def Bd (ow : Nat → Nat) (w : World) (B : Nat) (p : Pl) (sp : Nat) (t t' : Nat) (a : Option Addr) (n c : Nat) (a' : Option Addr) (n' c' : Nat) (wr : World) (d e : List Int) : Prop :=
  ∃ (m : M) (u : List Bool) (L zs L' zs' : List Int), (n = L.length ∧ n' = L'.length) ∧ DvT ow wr m p ∧ SpT ow wr sp u ∧ (OwnI 0 wr (.slice a n c) L ∧ ∀ k, (Value.slice a n c).ownBlock = some k → ow k = t) ∧ (OwnI 0 wr (.slice a' n' c') L' ∧ ∀ k, (Value.slice a' n' c').ownBlock = some k → ow k = t') ∧ (Wd m u L [] (d ++ zs) ∧ Wd m u L' [] (e ++ zs')) ∧ (zs.length < B ∧ zs'.length < B) ∧ Dk m u ∧ (m.B = B ∧ m.S = 4096 ∧ m.inp = [] ∧ m.cS = 0 ∧ m.cI = 0) ∧ m.k ≤ d.length + e.length + 2 ∧ L.length + L'.length + fre u = 4096 ∧ m.cW = L.length + L'.length ∧ Kept w wr ∧ ∀ k, k < w.heap.size → ow k = 0
theorem Bc.close {ow : Nat → Nat} {w : World} {B : Nat} {p : Pl} {sp t t' vb : Nat} {a : Option Addr} {n c : Nat} {wr : World} {d e : List Int} (h : Bc ow w B p sp t t' vb a n c wr d e) (ht : Tg t') (ht2 : ¬ Wt t' t) (hs : d.length + e.length ≤ 48000) :
    Calls Try.prog 10 #[.pointer (some ⟨vb, 0, none⟩)] wr fun x w2 => ∃ a' n' c', x = .returned (.tuple #[fileV a' n' c' (e.length : Nat), .int .i64 0]) ∧ ∃ o', Step (Wt t') ow wr o' w2 ∧ Bd o' w B p sp t t' a n c a' n' c' w2 d e := by
  obtain ⟨m, u, L, zs, cl, cg, cv, hv, rfl, h1, h2, h3, h4, h5, hz, h6, h7, ⟨g1, g2, g3, g4, g5⟩, h9, h10, h11, h12, h13⟩ := h
  have wt : WrT ow t' wr p sp vb ⟨m, u, cl, cg, e.length, 0⟩ false cv hv := ⟨h1, h2, h4⟩
  obtain ⟨s', zs', e1, a1, a2, a3, a4, a5, a6, a7, ⟨b1, b2, b3, b4, b5⟩, a8, a9, a10⟩ := Wd.fill (s := ⟨m, u, cl, cg, e.length, 0⟩) h5.2 h6 h5.1 (fun b hb hb2 => h7 b hb2 hb)
  simp only at a1 a2 a3 a4 b1 b2 b3 b4 b5 a8 a9 a10
  refine Calls.mono (close_all wt ht (Bk.wi h5.2 h6 g2 h2.small) (by show m.k + 10 < 4611686018427387904; omega) (by show e.length ≤ 549755813888; omega)) ?_
  rintro x w2 (⟨q, -⟩ | ⟨-, o', a', c', rfl, st, ow2, otag, wt2⟩)
  · rw [e1] at q
    exact absurd rfl q
  · rw [e1] at ow2 otag wt2 ⊢
    simp only at ow2 otag wt2
    refine ⟨a', s'.bl.length, c', rfl, o', st, s'.m, s'.u, L, zs, s'.bl, zs', ⟨rfl, rfl⟩, wt2.dv, wt2.spc, ⟨own_kept h3.1 st.same fun k hk => by rw [h3.2 k hk]; exact ht2, fun k hk => (st.tag k (own_lt h3.1 hk).1).trans (h3.2 k hk)⟩, ⟨ow2, fun k hk => (otag k hk).1⟩, ⟨a7, a5⟩, ⟨hz, by rw [← g1]; exact a10⟩, a6, ⟨b1.trans g1, b2.trans g2, b3.trans g3, b4.trans g4, b5.trans g5⟩, by omega, by rw [a1, a2]; exact h10, ?_, kept_of h12 st fun j hj => ?_, fun j hj => ?_⟩
    · have q : full ⟨m, u, cl, cg, e.length, 0⟩ = full ⟨m, u, cl, cg, 0, 0⟩ := rfl
      rw [a1]
      rw [q] at a8
      omega
    · rw [h13 j hj]
      rintro (q | q | q)
      · omega
      · omega
      · exact ht.n0 q.symm
    · rw [st.tag j (Nat.lt_of_lt_of_le hj h12.size)]
      exact h13 j hj
end Go.Proofs.Ytpjkmficpedmcaa
namespace Go.Proofs.Ytpjkmficpedmcaa
open Go.RowKit

theorem fre_cnt (u : List Bool) : fcnt u = fre u := by
  unfold fcnt fre
  exact List.countP_eq_length_filter
theorem Wd.turn {m m' : M} {u : List Bool} {bl bg d : List Int} (h : Wd m u bl bg d) (e1 : m'.B = m.B) (e2 : m'.S = m.S) (e3 : m'.scr = m.scr) : Wd m' u bl bg d := by
  have hc : ∀ L, cont m' L = cont m L := fun L => by unfold cont; rw [e1, e3]
  exact ⟨by rw [e2]; exact h.ok, h.nd, by rw [e1]; exact h.lt, h.ne, by rw [hc]; exact h.data⟩
theorem Wd.blocks {m : M} {u : List Bool} {L d zs : List Int} (h : Wd m u L [] (d ++ zs)) (hk : Dk m u) (hz : zs.length < m.B) : L.length = nblk d.length m.B := by
  have q := h.len hk
  rw [if_pos rfl, List.length_append] at q
  exact nblk_of hk.b0 hz (by simpa using q)
/-- What is told of two files. -/
theorem Bd.facts {ow : Nat → Nat} {w : World} {B : Nat} {p : Pl} {sp t t' : Nat} {a : Option Addr} {n c : Nat} {a' : Option Addr} {n' c' : Nat} {wr : World} {d e : List Int} (h : Bd ow w B p sp t t' a n c a' n' c' wr d e) : n = nblk d.length B ∧ n' = nblk e.length B ∧ n + n' ≤ 4096 := by
  obtain ⟨m, u, L, zs, L', zs', ⟨rfl, rfl⟩, h1, h2, h3, h4, h5, hz, h6, ⟨g1, g2, g3, g4, g5⟩, h9, h10, h11, h12, h13⟩ := h
  have q1 := h5.1.blocks h6 (by rw [g1]; exact hz.1)
  have q2 := h5.2.blocks h6 (by rw [g1]; exact hz.2)
  rw [g1] at q1 q2
  exact ⟨q1, q2, by omega⟩
theorem Bd.on {ow : Nat → Nat} {w : World} {B : Nat} {p : Pl} {sp t t' : Nat} {a : Option Addr} {n c : Nat} {a' : Option Addr} {n' c' : Nat} {wr W : World} {d e : List Int} (h : Bd ow w B p sp t t' a n c a' n' c' wr d e) (k : Kept wr W) : Bd ow w B p sp t t' a n c a' n' c' W d e := by
  obtain ⟨m, u, L, zs, L', zs', h0, h1, h2, h3, h4, h5, hz, h6, h8, h9, h10, h11, h12, h13⟩ := h
  have st : Step (fun _ => False) ow wr ow W := ⟨k, fun _ _ => rfl⟩
  exact ⟨m, u, L, zs, L', zs', h0, h1.on st (fun h => h) (fun h => h), h2.on st (fun h => h), ⟨own_kept h3.1 k (fun _ _ h => h), h3.2⟩, ⟨own_kept h4.1 k (fun _ _ h => h), h4.2⟩, h5, hz, h6, h8, h9, h10, h11, h12.trans' k, h13⟩
/-- A file that was opened is read back whole. -/
theorem file_read {ow : Nat → Nat} {wr : World} {m : M} {u : List Bool} {p : Pl} {rb t : Nat} {L d zs : List Int} (hd : DvT ow wr m p) (hr : Rdr ow t wr p rb (.file L) 0 [] 0 d.length 0) (hi : RI (.file L) m (0 + d.length) 0 0 []) (hk : Dk m u) (hw : Wd m u L [] (d ++ zs)) (hz : zs.length < m.B) (ht : t ≠ 0 ∧ t ≠ 1) (hl : d.length ≤ 65536) (hkk : m.k + 200000 < 4611686018427387904) :
    Calls Try.prog 13 #[.pointer (some ⟨rb, 0, none⟩), .int .i64 65536] wr fun x w2 => ∃ va vc o' m', x = .returned (.tuple #[.slice va d.length vc, .int .i64 0]) ∧ BytesAt w2 va d ∧ (∀ k, InB va d.length k → wr.heap.size ≤ k ∧ o' k = t + 2) ∧ Step (fun n => n = 1 ∨ n = t) ow wr o' w2 ∧ DvT o' w2 m' p ∧ (m'.B = m.B ∧ m'.S = m.S ∧ m'.scr = m.scr ∧ m'.inp = m.inp) ∧ Dk m' u ∧ m'.cS = m.cS + L.length ∧ m'.cW = m.cW ∧ m'.cI = m.cI ∧ m'.k = m.k + 2 * L.length := by
  obtain ⟨s', e1, g1, g2, g3, g4, g5⟩ := rd_file (L := L) (C := d ++ zs) d.length 0 ⟨m, 0, []⟩ (rdF_new hk hw) (by rw [List.length_append]; omega)
  have hall := g1.all (by rw [Nat.zero_add]; exact hw.blocks hk hz)
  simp only [Nat.add_zero, Nat.mul_zero] at g2 g3 g4 g5
  have hm : min 65536 d.length = d.length := Nat.min_eq_right hl
  have hrd := read_ok8 hd hr ht hi hkk 65536 (Nat.le_refl _)
  rw [hm] at hrd
  refine Calls.mono hrd ?_
  rintro x w2 ⟨o2, st2, hd2, hc⟩
  rw [e1] at hd2 hc
  rcases hc with ⟨-, v, rfl, hv, hvt, -, -, -⟩ | ⟨hne, -⟩
  · simp only [List.drop_zero, List.take_left'] at hv
    obtain ⟨va, vc, e, hb, hin⟩ := BytesAt.of_row hv
    subst e
    refine ⟨va, vc, o2, s'.m, rfl, hb, ?_, st2, hd2, ⟨g1.eB, g4.2.2.1, g4.2.1, g4.2.2.2⟩, ⟨g1.eF, g1.dn, by rw [g1.eB]; exact g1.b0, g1.scr, by rw [g4.2.2.1]; exact hk.len⟩, by omega, g4.1, g3, by omega⟩
    intro k hk2
    obtain ⟨h0, off, rfl⟩ := hk2
    have hob : (Value.slice (some ⟨k, off, none⟩) d.length vc).ownBlock = some k := by simp [Value.ownBlock]
    exact ⟨hin k ⟨h0, off, rfl⟩, hvt k hob⟩
  · exact absurd rfl hne
end Go.Proofs.Ytpjkmficpedmcaa
namespace Go.Proofs.Ytpjkmficpedmcaa
open Go.RowKit

theorem Wd.none {m : M} {u : List Bool} (h : Dk m u) : Wd m u [] [] [] := ⟨fun b hb => (by cases hb), List.nodup_nil, h.b0, fun e => absurd rfl e, rfl⟩
theorem dk_made {B : Nat} (hB : 0 < B) : Dk (M.made B 4096 [] [] []) (List.replicate 4096 false) :=
  ⟨rfl, rfl, hB, by show (splice (List.replicate (B * 4096) 0) 0 []).length = B * 4096; rw [length_splice _ _ _ (by simp)]; simp, List.length_replicate ..⟩
theorem fre_all (n : Nat) : fre (List.replicate n false) = n := by
  unfold fre
  rw [List.filter_eq_self.2 fun x hx => by rw [List.eq_of_mem_replicate hx]; rfl, List.length_replicate]
/-- Two writers just made. -/
theorem Bk.start {w w1 w2 w3 w4 : World} {B : Nat} {p : Pl} {sp wb vb : Nat} (hB : 0 < B) (h1 : Dv w1 (M.made B 4096 [] [] []) p) (hf : ∀ k, Foot (M.made B 4096 [] [] []) p k → w.heap.size ≤ k) (k1 : Kept w w1) (h2 : SpT (tagN w1 2 (tagD p)) w2 sp (List.replicate 4096 false)) (k2 : Kept w1 w2)
    (h3 : WtrAt (tagN w2 3 (tagN w1 2 (tagD p))) 3 w3 p sp wb [] [] 0 false 0 (.slice none 0 0) (.slice none 0 0)) (k3 : Kept w2 w3) (h4 : WtrAt (tagN w3 4 (tagN w2 3 (tagN w1 2 (tagD p)))) 4 w4 p sp vb [] [] 0 false 0 (.slice none 0 0) (.slice none 0 0)) (k4 : Kept w3 w4) :
    Bk (tagN w3 4 (tagN w2 3 (tagN w1 2 (tagD p)))) w B p sp 3 4 wb vb w4 [] [] := by
  obtain ⟨q1, q2, q3⟩ := start8 h1 hf k1 h2 k2 h3 k3
  have s4 : Step (fun _ => False) (tagN w2 3 (tagN w1 2 (tagD p))) w3 (tagN w3 4 (tagN w2 3 (tagN w1 2 (tagD p)))) w4 := ⟨k4, fun k hk => tagN_old hk⟩
  have hk := dk_made hB
  refine ⟨M.made B 4096 [] [] [], List.replicate 4096 false, [], [], [], [], _, _, _, _, q1.dv.on s4 (fun h => h) (fun h => h), q1.spc.on s4 (fun h => h), h3.on s4 (fun h => h), h4, ⟨Wd.none hk, Wd.none hk⟩, hk, fun b hb => (by cases hb), ⟨rfl, rfl, rfl, rfl, rfl⟩, Nat.le_refl _, ?_, rfl, q2.trans' k4, fun k hk2 => ?_⟩
  · rw [fre_all]; rfl
  · rw [tagN_old (Nat.lt_of_lt_of_le hk2 q2.size)]
    exact q3 k hk2
/-- The first file is opened. -/
def Bo (ow : Nat → Nat) (w : World) (B : Nat) (p : Pl) (t' rb n : Nat) (a' : Option Addr) (n' c' : Nat) (wr : World) (d e : List Int) : Prop :=
  ∃ (m : M) (u : List Bool) (L zs L' zs' : List Int), (n = L.length ∧ n' = L'.length) ∧ DvT ow wr m p ∧ (Rdr ow 5 wr p rb (.file L) 0 [] 0 d.length 0 ∧ RI (.file L) m (0 + d.length) 0 0 []) ∧ (OwnI 0 wr (.slice a' n' c') L' ∧ ∀ k, (Value.slice a' n' c').ownBlock = some k → ow k = t') ∧ (Wd m u L [] (d ++ zs) ∧ Wd m u L' [] (e ++ zs')) ∧ (zs.length < B ∧ zs'.length < B) ∧ Dk m u ∧ (m.B = B ∧ m.S = 4096 ∧ m.cS = 0 ∧ m.cI = 0) ∧ m.k ≤ d.length + e.length + 2 ∧ L.length + L'.length ≤ 4096 ∧ Kept w wr ∧ ∀ k, k < w.heap.size → ow k = 0
theorem Bd.open_ {ow : Nat → Nat} {w : World} {B : Nat} {p : Pl} {sp t t' : Nat} {a : Option Addr} {n c : Nat} {a' : Option Addr} {n' c' : Nat} {wr : World} {d e : List Int} (h : Bd ow w B p sp t t' a n c a' n' c' wr d e) (hs : d.length + e.length ≤ 48000) :
    Calls Try.prog 11 #[.pointer (some ⟨p.db, 0, none⟩), fileV a n c (d.length : Nat)] wr fun x w2 => ∃ rb o', x = .returned (.tuple #[.pointer (some ⟨rb, 0, none⟩), .int .i64 0]) ∧ Step (fun _ => False) ow wr o' w2 ∧ Bo o' w B p t' rb n a' n' c' w2 d e := by
  obtain ⟨m, u, L, zs, L', zs', ⟨rfl, rfl⟩, h1, h2, h3, h4, h5, hz, h6, ⟨g1, g2, g3, g4, g5⟩, h9, h10, h11, h12, h13⟩ := h
  obtain ⟨a2, c2, e2, hn, hcap, hnil, -⟩ := OwnI.nums h3.1
  simp only [Value.slice.injEq, true_and] at e2
  obtain ⟨rfl, rfl⟩ := e2
  refine Calls.mono (open_yes (o := ow) 5 h1.dv L a c d.length (by omega) (h5.1.blocks h6 (by rw [g1]; exact hz.1)) (fun b hb => ⟨(h5.1.ok b hb).1, (h5.1.ok b hb).2.1⟩) hn hnil (by omega)) ?_
  rintro x w2 ⟨rb, o', rfl, -, st, hr, hi⟩
  refine ⟨rb, o', rfl, st, m, u, L, zs, L', zs', ⟨rfl, rfl⟩, h1.on st (fun h => h) (fun h => h), ⟨hr, hi⟩, ⟨own_kept h4.1 st.same (fun _ _ h => h), fun k hk => (st.tag k (own_lt h4.1 hk).1).trans (h4.2 k hk)⟩, h5, hz, h6, ⟨g1, g2, g4, g5⟩, h9, by omega, kept_of h12 st (fun _ _ h => h), fun k hk => (st.tag k (Nat.lt_of_lt_of_le hk h12.size)).trans (h13 k hk)⟩
/-- Both are opened. -/
def Be (ow : Nat → Nat) (w : World) (B : Nat) (p : Pl) (rb qb n n' : Nat) (wr : World) (d e : List Int) : Prop :=
  ∃ (m : M) (u : List Bool) (L zs L' zs' : List Int), (n = L.length ∧ n' = L'.length) ∧ DvT ow wr m p ∧ (Rdr ow 5 wr p rb (.file L) 0 [] 0 d.length 0 ∧ RI (.file L) m (0 + d.length) 0 0 []) ∧ (Rdr ow 6 wr p qb (.file L') 0 [] 0 e.length 0 ∧ RI (.file L') m (0 + e.length) 0 0 []) ∧ (Wd m u L [] (d ++ zs) ∧ Wd m u L' [] (e ++ zs')) ∧ (zs.length < B ∧ zs'.length < B) ∧ Dk m u ∧ (m.B = B ∧ m.S = 4096 ∧ m.cS = 0 ∧ m.cI = 0) ∧ m.k ≤ d.length + e.length + 2 ∧ L.length + L'.length ≤ 4096 ∧ Kept w wr ∧ ∀ k, k < w.heap.size → ow k = 0
theorem Bo.open_ {ow : Nat → Nat} {w : World} {B : Nat} {p : Pl} {t' rb n : Nat} {a' : Option Addr} {n' c' : Nat} {wr : World} {d e : List Int} (h : Bo ow w B p t' rb n a' n' c' wr d e) (hs : d.length + e.length ≤ 48000) :
    Calls Try.prog 11 #[.pointer (some ⟨p.db, 0, none⟩), fileV a' n' c' (e.length : Nat)] wr fun x w2 => ∃ qb o', x = .returned (.tuple #[.pointer (some ⟨qb, 0, none⟩), .int .i64 0]) ∧ Step (fun _ => False) ow wr o' w2 ∧ Be o' w B p rb qb n n' w2 d e := by
  obtain ⟨m, u, L, zs, L', zs', ⟨rfl, rfl⟩, h1, h3, h4, h5, hz, h6, ⟨g1, g2, g4, g5⟩, h9, h10, h12, h13⟩ := h
  obtain ⟨a2, c2, e2, hn, hcap, hnil, -⟩ := OwnI.nums h4.1
  simp only [Value.slice.injEq, true_and] at e2
  obtain ⟨rfl, rfl⟩ := e2
  refine Calls.mono (open_yes (o := ow) 6 h1.dv L' a' c' e.length (by omega) (h5.2.blocks h6 (by rw [g1]; exact hz.2)) (fun b hb => ⟨(h5.2.ok b hb).1, (h5.2.ok b hb).2.1⟩) hn hnil (by omega)) ?_
  rintro x w2 ⟨qb, o', rfl, -, st, hr, hi⟩
  exact ⟨qb, o', rfl, st, m, u, L, zs, L', zs', ⟨rfl, rfl⟩, h1.on st (fun h => h) (fun h => h), ⟨h3.1.on st (fun h => h) (fun h => h), h3.2⟩, ⟨hr, hi⟩, h5, hz, h6, ⟨g1, g2, g4, g5⟩, h9, h10, kept_of h12 st (fun _ _ h => h), fun k hk => (st.tag k (Nat.lt_of_lt_of_le hk h12.size)).trans (h13 k hk)⟩
/-- The first is read. -/
def Bf (ow : Nat → Nat) (w : World) (B : Nat) (p : Pl) (qb n n' : Nat) (wr : World) (e : List Int) : Prop :=
  ∃ (m : M) (u : List Bool) (L' zs' : List Int), n' = L'.length ∧ DvT ow wr m p ∧ (Rdr ow 6 wr p qb (.file L') 0 [] 0 e.length 0 ∧ RI (.file L') m (0 + e.length) 0 0 []) ∧ Wd m u L' [] (e ++ zs') ∧ zs'.length < B ∧ Dk m u ∧ (m.B = B ∧ m.S = 4096 ∧ m.cS = n ∧ m.cI = 0) ∧ m.k ≤ 100000 ∧ Kept w wr ∧ ∀ k, k < w.heap.size → ow k = 0
theorem Be.read {ow : Nat → Nat} {w : World} {B : Nat} {p : Pl} {rb qb n n' : Nat} {wr : World} {d e : List Int} (h : Be ow w B p rb qb n n' wr d e) (hs : d.length + e.length ≤ 48000) :
    Calls Try.prog 13 #[.pointer (some ⟨rb, 0, none⟩), .int .i64 65536] wr fun x w2 => ∃ va vc o', x = .returned (.tuple #[.slice va d.length vc, .int .i64 0]) ∧ BytesAt w2 va d ∧ (∀ k, InB va d.length k → wr.heap.size ≤ k ∧ o' k = 7) ∧ Step (fun n => n = 1 ∨ n = 5) ow wr o' w2 ∧ Bf o' w B p qb n n' w2 e := by
  obtain ⟨m, u, L, zs, L', zs', ⟨rfl, rfl⟩, h1, h3, h4, h5, hz, h6, ⟨g1, g2, g4, g5⟩, h9, h10, h12, h13⟩ := h
  refine Calls.mono (file_read h1 h3.1 h3.2 h6 h5.1 (by rw [g1]; exact hz.1) ⟨by decide, by decide⟩ (by omega) (by omega)) ?_
  rintro x w2 ⟨va, vc, o', m', rfl, hb, hin, st, hd, ⟨q1, q2, q3, q4⟩, hk, c1, c2, c3, c4⟩
  refine ⟨va, vc, o', rfl, hb, hin, st, m', u, L', zs', rfl, hd, ⟨h4.1.on st (by decide) (by decide), ?_⟩, h5.2.turn q1 q2 q3, hz.2, hk, ⟨q1.trans g1, q2.trans g2, by omega, by omega⟩, by omega, kept_of h12 st fun k hk2 => by rw [h13 k hk2]; decide, fun k hk2 => (st.tag k (Nat.lt_of_lt_of_le hk2 h12.size)).trans (h13 k hk2)⟩
  have r := h4.2
  refine ⟨r.le, r.len, fun e => (by cases e), fun L2 e2 => ?_⟩
  rw [q1, q2]
  exact r.file L2 e2
/-- The second is read: the blocks of both were read once. -/
theorem Bf.read {ow : Nat → Nat} {w : World} {B : Nat} {p : Pl} {qb n n' : Nat} {wr : World} {e : List Int} (h : Bf ow w B p qb n n' wr e) (hs : e.length ≤ 48000) :
    Calls Try.prog 13 #[.pointer (some ⟨qb, 0, none⟩), .int .i64 65536] wr fun x w2 => ∃ va vc o', x = .returned (.tuple #[.slice va e.length vc, .int .i64 0]) ∧ BytesAt w2 va e ∧ (∀ k, InB va e.length k → wr.heap.size ≤ k ∧ o' k = 8) ∧ Step (fun n => n = 1 ∨ n = 6) ow wr o' w2 ∧ Kept w w2 ∧ ∃ (m : M), Dv w2 m p ∧ m.cS = n + n' ∧ m.cI = 0 := by
  obtain ⟨m, u, L', zs', rfl, h1, h3, h5, hz, h6, ⟨g1, g2, g4, g5⟩, h9, h12, h13⟩ := h
  refine Calls.mono (file_read h1 h3.1 h3.2 h6 h5 (by rw [g1]; exact hz) ⟨by decide, by decide⟩ (by omega) (by omega)) ?_
  rintro x w2 ⟨va, vc, o', m', rfl, hb, hin, st, hd, ⟨q1, q2, q3, q4⟩, hk, c1, c2, c3, c4⟩
  exact ⟨va, vc, o', rfl, hb, hin, st, kept_of h12 st fun k hk2 => by rw [h13 k hk2]; decide, m', hd.dv, by omega, by omega⟩
end Go.Proofs.Ytpjkmficpedmcaa
namespace Go.Proofs.Ytpjkmficpedmcaa
open Go.RowKit

theorem clone8 {w : World} {l : List Int} {oa : Option Addr} {c : Nat} (hl : BytesAt w oa l) (hnil : oa = none → l.length = 0 ∧ c = 0) (hb : l.length ≤ 140737488355328) (ty : TypeId) :
    ∃ v' w', (Builtin.append_ #[22, 22] ty #[.slice (some ⟨w.heap.size, 0, none⟩) 0 0, .slice oa l.length c]).run Try.prog (w.alloc (.cells #[] 5)) = .ok v' w' ∧ ∃ a c', v' = .slice a l.length c' ∧ BytesAt w' a l ∧ (∀ j, InB a l.length j → w.heap.size ≤ j) ∧ l.length ≤ c' ∧ (a = none → l.length = 0 ∧ c' = 0) ∧ (∀ ad, a = some ad → ad.spot = none) ∧ Kept w w' := by
  have k0 : Kept w (w.alloc (.cells #[] 5)) := (Same.refl _ w).alloc _
  obtain ⟨v', w', h1, h2, h3, h4⟩ := app_bytes (w := w.alloc (.cells #[] 5)) (base := w.heap.size) (xs := []) (World.ownsRow_made w #[] 0 (Nat.le_refl _) (Nat.zero_le _) rfl) (hl.kept k0 (fun _ _ h => h)) hnil (by simpa using hb) (by simp) ty
  rw [List.nil_append] at h2
  have kk : Kept w w' := ((k0.to (fun k => w.heap.size ≤ k)).trans (Same.of_grown h3 (fun k e => e)) fun i _ e => by simp [Value.ownBlock] at e; omega).mono fun i hi e => by omega
  obtain ⟨a, c', e, hb2, hin⟩ := BytesAt.of_row h2
  refine ⟨v', w', h1, a, c', e, hb2, hin, ?_⟩
  rcases h2.2 with ⟨e2, hn⟩ | ⟨g, cap, cur, e2, hb3, hg, q1, q2, q3, q4⟩
  · rw [e] at e2
    simp only [Value.slice.injEq] at e2
    obtain ⟨rfl, e3, rfl⟩ := e2
    exact ⟨by omega, fun _ => ⟨e3, rfl⟩, (fun ad e => by cases e), kk⟩
  · rw [e] at e2
    simp only [Value.slice.injEq] at e2
    obtain ⟨rfl, e3, rfl⟩ := e2
    exact ⟨q1, (fun e => by cases e), (fun ad e => by cases e; rfl), kk⟩
/-- A row of the law's own, with a tag of its own. -/
def Rw9 (g : Nat) (ow : Nat → Nat) (base : Nat) (wr : World) (v : Value) (A : List Int) : Prop := OwnB8 base wr v A ∧ ∀ k, v.ownBlock = some k → ow k = g
theorem Rw9.on {S : Nat → Prop} {g : Nat} {ow o' : Nat → Nat} {base : Nat} {wr w' : World} {v : Value} {A : List Int} (h : Rw9 g ow base wr v A) (st : Step S ow wr o' w') (hg : ¬ S g) : Rw9 g o' base w' v A :=
  ⟨own_kept h.1 st.same fun k hk => by rw [h.2 k hk]; exact hg, fun k hk => (st.tag k (own_lt h.1 hk).1).trans (h.2 k hk)⟩
theorem Rw9.nil (g : Nat) (ow : Nat → Nat) (base : Nat) (wr : World) : Rw9 g ow base wr (.slice none 0 0) [] := ⟨World.ownsRow_nil _ _ 5 1, fun k e => by cases e⟩
/-- Bytes more behind it: nothing else turns. -/
theorem Rw9.app {g : Nat} {ow : Nat → Nat} {base : Nat} {wr : World} {v : Value} {A l : List Int} {oa : Option Addr} {c : Nat} (h : Rw9 g ow base wr v A) (hl : BytesAt wr oa l) (hnil : oa = none → l.length = 0 ∧ c = 0) (hb : A.length + l.length ≤ 140737488355328) (hbase : base ≤ wr.heap.size) (ty : TypeId) :
    ∃ v' w', (Builtin.append_ #[22, 22] ty #[v, .slice oa l.length c]).run Try.prog wr = .ok v' w' ∧ ∃ o', Step (fun n => n = g) ow wr o' w' ∧ Rw9 g o' base w' v' (A ++ l) := by
  obtain ⟨v', w', h1, h2, h3, h4⟩ := app_bytes (c := c) h.1 hl hnil hb hbase ty
  have s3 : Same (fun k => v.ownBlock = some k) wr w' := Same.of_grown h3 (fun k e => e)
  refine ⟨v', w', h1, tagN wr g ow, ⟨s3.mono fun k _ e => h.2 k e, fun k hk => tagN_old hk⟩, h2, fun k hk => ?_⟩
  rcases h4 with e | e
  · rw [e] at hk
    exact (tagN_old (own_lt h.1 hk).1).trans (h.2 k hk)
  · rw [e] at hk
    cases hk
    exact tagN_new (Nat.le_refl _)
/-- A box of the law's own. -/
def Bx8 (ow : Nat → Nat) (wr : World) (g : Nat) (o : Obj) : Prop := wr.heap[g]? = some o ∧ ow g = 0
theorem Bx8.on {S : Nat → Prop} {ow o' : Nat → Nat} {wr w' : World} {g : Nat} {o : Obj} (h : Bx8 ow wr g o) (st : Step S ow wr o' w') (h0 : ¬ S 0) : Bx8 o' w' g o :=
  ⟨(st.same.block g (lt_of_heap h.1) (by rw [h.2]; exact h0)).trans h.1, (st.tag g (lt_of_heap h.1)).trans h.2⟩
theorem Bx8.new (ow : Nat → Nat) (wr : World) (o : Obj) : Bx8 (tagN wr 0 ow) (wr.alloc o) wr.heap.size o ∧ Step (fun _ => False) ow wr (tagN wr 0 ow) (wr.alloc o) :=
  ⟨⟨heap_new wr o, tagN_new (Nat.le_refl _)⟩, ⟨(Same.refl _ wr).alloc o, fun _ hk => tagN_old hk⟩⟩
theorem Bc.step {ow o' : Nat → Nat} {w : World} {B : Nat} {p : Pl} {sp t t' vb : Nat} {a : Option Addr} {n c : Nat} {wr W : World} {d e : List Int} (h : Bc ow w B p sp t t' vb a n c wr d e) (st : Step (fun _ => False) ow wr o' W) : Bc o' w B p sp t t' vb a n c W d e := by
  obtain ⟨m, u, L, zs, cl, cg, cv, hv, h0, h1, h2, h3, h4, h5, hz, h6, h7, h8, h9, h10, h11, h12, h13⟩ := h
  exact ⟨m, u, L, zs, cl, cg, cv, hv, h0, h1.on st (fun h => h) (fun h => h), h2.on st (fun h => h), ⟨own_kept h3.1 st.same (fun _ _ h => h), fun k hk => (st.tag k (own_lt h3.1 hk).1).trans (h3.2 k hk)⟩, h4.on st (fun h => h), h5, hz, h6, h7, h8, h9, h10, h11, kept_of h12 st (fun _ _ h => h), fun k hk => (st.tag k (Nat.lt_of_lt_of_le hk h12.size)).trans (h13 k hk)⟩
theorem Bd.step {ow o' : Nat → Nat} {w : World} {B : Nat} {p : Pl} {sp t t' : Nat} {a : Option Addr} {n c : Nat} {a' : Option Addr} {n' c' : Nat} {wr W : World} {d e : List Int} (h : Bd ow w B p sp t t' a n c a' n' c' wr d e) (st : Step (fun _ => False) ow wr o' W) : Bd o' w B p sp t t' a n c a' n' c' W d e := by
  obtain ⟨m, u, L, zs, L', zs', h0, h1, h2, h3, h4, h5, hz, h6, h8, h9, h10, h11, h12, h13⟩ := h
  exact ⟨m, u, L, zs, L', zs', h0, h1.on st (fun h => h) (fun h => h), h2.on st (fun h => h), ⟨own_kept h3.1 st.same (fun _ _ h => h), fun k hk => (st.tag k (own_lt h3.1 hk).1).trans (h3.2 k hk)⟩, ⟨own_kept h4.1 st.same (fun _ _ h => h), fun k hk => (st.tag k (own_lt h4.1 hk).1).trans (h4.2 k hk)⟩, h5, hz, h6, h8, h9, h10, h11, kept_of h12 st (fun _ _ h => h), fun k hk => (st.tag k (Nat.lt_of_lt_of_le hk h12.size)).trans (h13 k hk)⟩
end Go.Proofs.Ytpjkmficpedmcaa
