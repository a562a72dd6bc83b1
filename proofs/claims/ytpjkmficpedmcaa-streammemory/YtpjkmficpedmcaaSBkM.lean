/- What is proved: plain facts on files: the bytes that a writer has written lie in its blocks, another's blocks stay as they are, and a reader over these blocks gives them back; no condition. -/
import Derived.Test.YtpjkmficpedmcaaSModel
import Derived.Test.YtpjkmficpedmcaaDSet
namespace Go.Proofs.Ytpjkmficpedmcaa
open Go.RowKit

theorem fm_len {f : Int → List Int} {B : Nat} : ∀ (L : List Int), (∀ b ∈ L, (f b).length = B) → (L.flatMap f).length = L.length * B
  | [], _ => by simp
  | b :: L, h => by
    rw [List.flatMap_cons, List.length_append, h b (List.mem_cons_self ..), fm_len L fun x hx => h x (List.mem_cons_of_mem _ hx), List.length_cons, Nat.add_mul]
    omega
theorem fm_cut {f : Int → List Int} {B : Nat} : ∀ (L : List Int) (i : Nat) (hi : i < L.length), (∀ b ∈ L, (f b).length = B) → cut B (L.flatMap f) i = f L[i]
  | b :: L, 0, _, h => by
    unfold cut
    rw [Nat.zero_mul, List.drop_zero, List.flatMap_cons, ← h b (List.mem_cons_self ..), List.take_left']
    · rfl
    · rfl
  | b :: L, i + 1, hi, h => by
    have ih := fm_cut L i (by simpa using hi) fun x hx => h x (List.mem_cons_of_mem _ hx)
    unfold cut at ih ⊢
    have hb := h b (List.mem_cons_self ..)
    rw [List.flatMap_cons, List.drop_append, List.drop_eq_nil_of_le (by rw [hb, Nat.add_mul]; omega), List.nil_append, hb, show (i + 1) * B - B = i * B by rw [Nat.add_mul]; omega, ih]
    rfl
theorem cut_len {B n : Nat} {l : List Int} (h : n * B + B ≤ l.length) : (cut B l n).length = B := by
  rw [length_cut]
  omega
theorem cut_same {B n : Nat} {l ys : List Int} (hy : ys.length = B) (h : n * B + B ≤ l.length) : cut B (splice l (n * B) ys) n = ys := by
  refine List.ext_getElem? fun i => ?_
  unfold cut
  by_cases hi : i < B
  · rw [List.getElem?_take_of_lt hi, List.getElem?_drop, splice_get _ _ _ _ (by omega), if_pos (by omega), Nat.add_sub_cancel_left]
  · rw [List.getElem?_eq_none (by rw [List.length_take]; omega), List.getElem?_eq_none (by omega)]
theorem cut_other {B n k : Nat} {l ys : List Int} (hy : ys.length = B) (h : n * B + B ≤ l.length) (hk : k ≠ n) : cut B (splice l (n * B) ys) k = cut B l k := by
  refine List.ext_getElem? fun i => ?_
  unfold cut
  by_cases hi : i < B
  · rw [List.getElem?_take_of_lt hi, List.getElem?_take_of_lt hi, List.getElem?_drop, List.getElem?_drop, splice_get _ _ _ _ (by omega), if_neg]
    rintro ⟨h1, h2⟩
    rcases Nat.lt_or_gt_of_ne hk with h3 | h3
    · have := Nat.mul_le_mul_right B (Nat.succ_le_of_lt h3)
      rw [Nat.succ_mul] at this
      omega
    · have := Nat.mul_le_mul_right B (Nat.succ_le_of_lt h3)
      rw [Nat.succ_mul] at this
      omega
  · rw [List.getElem?_eq_none (by rw [List.length_take]; omega), List.getElem?_eq_none (by rw [List.length_take]; omega)]
/-- What lies in blocks. -/
def cont (m : M) (L : List Int) : List Int := L.flatMap fun b => cut m.B m.scr b.toNat
/-- A device that nothing strikes, and the blocks in use. -/
structure Dk (m : M) (u : List Bool) : Prop where
  eF : m.F = []
  dn : m.down = false
  b0 : 0 < m.B
  scr : m.scr.length = m.B * m.S
  len : u.length = m.S
/-- A writer that has written d: its blocks, and what it has begun. -/
structure Wd (m : M) (u : List Bool) (bl bg d : List Int) : Prop where
  ok : ∀ b ∈ bl, 0 ≤ b ∧ b < (m.S : Int) ∧ u[b.toNat]? = some true
  nd : bl.Nodup
  lt : bg.length < m.B
  ne : bg ≠ [] → bl ≠ []
  data : d = cont m (if bg = [] then bl else bl.dropLast) ++ bg
theorem fits {m : M} {u : List Bool} (h : Dk m u) {n : Nat} (hn : n < m.S) : n * m.B + m.B ≤ m.scr.length := by
  rw [h.scr, Nat.mul_comm m.B m.S]
  have := Nat.mul_le_mul_right m.B (Nat.succ_le_of_lt hn)
  rw [Nat.succ_mul] at this
  exact this
theorem cont_len {m : M} {u : List Bool} (h : Dk m u) {L : List Int} (ok : ∀ b ∈ L, 0 ≤ b ∧ b < (m.S : Int)) : (cont m L).length = L.length * m.B :=
  fm_len L fun b hb => cut_len (fits h (by have := ok b hb; omega))
/-- A block of one's own is written: what lies in other blocks stays. -/
theorem cont_write {m : M} {u : List Bool} (h : Dk m u) {n : Nat} (hn : n < m.S) {ys : List Int} (hy : ys.length = m.B) {L : List Int} (hL : ∀ b ∈ L, 0 ≤ b ∧ b ≠ (n : Int)) (m' : M) (eB : m'.B = m.B) (es : m'.scr = splice m.scr (n * m.B) ys) : cont m' L = cont m L := by
  unfold cont
  rw [eB, es]
  refine congrArg List.flatten (List.map_congr_left fun b hb => ?_) |>.trans rfl
  have := hL b hb
  exact cut_other hy (fits h hn) (by omega)
/-- A reader over the blocks L, in which C lies, at place c. -/
structure RdF (B : Nat) (L C : List Int) (c : Nat) (s : RdS) : Prop where
  eB : s.m.B = B
  b0 : 0 < B
  eF : s.m.F = []
  dn : s.m.down = false
  scr : s.m.scr.length = s.m.B * s.m.S
  ok : ∀ b ∈ L, 0 ≤ b ∧ b < (s.m.S : Int)
  cn : cont s.m L = C
  held : s.held = (C.take (s.nx * B)).drop c
  le : c ≤ C.length
  nx : c ≤ s.nx * B
  nb : s.nx ≤ L.length
theorem RdF.len {B : Nat} {L C : List Int} {c : Nat} {s : RdS} (h : RdF B L C c s) : C.length = L.length * B := by
  have hd : Dk s.m (List.replicate s.m.S true) := ⟨h.eF, h.dn, by rw [h.eB]; exact h.b0, h.scr, by simp⟩
  rw [← h.cn, cont_len hd h.ok, h.eB]
theorem RdF.cut {B : Nat} {L C : List Int} {c : Nat} {s : RdS} (h : RdF B L C c s) {i : Nat} (hi : i < L.length) : cut B C i = cut B s.m.scr L[i].toNat := by
  have hd : Dk s.m (List.replicate s.m.S true) := ⟨h.eF, h.dn, by rw [h.eB]; exact h.b0, h.scr, by simp⟩
  have := fm_cut (f := fun b => Go.Proofs.Ytpjkmficpedmcaa.cut s.m.B s.m.scr b.toNat) (B := s.m.B) L i hi fun b hb => cut_len (fits hd (by have := h.ok b hb; omega))
  rw [h.eB] at this
  rw [← h.cn]
  unfold cont
  rw [h.eB]
  exact this
/-- A byte is held. -/
theorem RdF.hold {B : Nat} {L C : List Int} {c : Nat} {s : RdS} (h : RdF B L C c s) (hc : c < C.length) : ∃ s', s.hold (.file L) = (0, s') ∧ RdF B L C c s' ∧ c < s'.nx * B ∧ s'.m.cS + s.nx = s.m.cS + s'.nx ∧ s'.m.cI = s.m.cI ∧ (s'.m.cW = s.m.cW ∧ s'.m.scr = s.m.scr ∧ s'.m.S = s.m.S ∧ s'.m.inp = s.m.inp) ∧ s'.m.k + 2 * s.nx = s.m.k + 2 * s'.nx := by
  have hlen := h.len
  have hnB : s.nx * B ≤ C.length := by rw [hlen]; exact Nat.mul_le_mul_right B h.nb
  by_cases h0 : s.held = []
  · have hlt : s.nx * B = c := by
      have h1 := h.held
      rw [h0] at h1
      have h2 := congrArg List.length h1
      simp only [List.length_nil, List.length_drop, List.length_take] at h2
      have := h.nx
      omega
    have hn : s.nx < L.length := by
      refine Nat.lt_of_not_le fun h1 => ?_
      have := Nat.mul_le_mul_right B h1
      omega
    have hok := h.ok _ (List.getElem_mem hn)
    obtain ⟨n, en⟩ : ∃ n : Nat, L[s.nx] = (n : Int) := ⟨L[s.nx].toNat, by omega⟩
    have hb : (Src.file L).blk s.m s.nx = (0, Go.Proofs.Ytpjkmficpedmcaa.cut B C s.nx, s.m.cS1.rd 2 (n : Int)) := by
      show s.m.readSc (L.getD s.nx 0) = _
      rw [List.getD_eq_getElem?_getD, List.getElem?_eq_getElem hn, Option.getD_some, en, readSc_fit h.dn (by rw [en] at hok; omega) h.eF, h.cut hn, en, h.eB]
      rfl
    refine ⟨⟨s.m.cS1.rd 2 (n : Int), s.nx + 1, Go.Proofs.Ytpjkmficpedmcaa.cut B C s.nx⟩, ?_, ⟨h.eB, h.b0, h.eF, h.dn, h.scr, h.ok, h.cn, ?_, h.le, ?_, hn⟩, ?_, ?_, rfl, ⟨rfl, rfl, rfl, rfl⟩, ?_⟩
    · unfold RdS.hold
      rw [if_neg (by rw [h0]; simp), hb, if_neg (by simp)]
    · show Go.Proofs.Ytpjkmficpedmcaa.cut B C s.nx = (C.take ((s.nx + 1) * B)).drop c
      unfold Go.Proofs.Ytpjkmficpedmcaa.cut
      rw [← hlt, List.drop_take, Nat.add_mul, Nat.one_mul, Nat.add_sub_cancel_left]
    · show c ≤ (s.nx + 1) * B
      rw [Nat.add_mul]
      omega
    · show c < (s.nx + 1) * B
      have := h.b0
      rw [Nat.add_mul]
      omega
    · show s.m.cS + 1 + s.nx = s.m.cS + (s.nx + 1)
      omega
    · show s.m.k + 1 + 1 + 2 * s.nx = s.m.k + 2 * (s.nx + 1)
      omega
  · refine ⟨s, hold_some h0, h, ?_, rfl, rfl, ⟨rfl, rfl, rfl, rfl⟩, rfl⟩
    have h1 := List.length_pos_iff.2 h0
    rw [h.held] at h1
    simp only [List.length_drop, List.length_take] at h1
    omega
/-- So many bytes more are those that lie in the blocks. -/
theorem rd_file {B : Nat} {L C : List Int} : ∀ (k c : Nat) (s : RdS), RdF B L C c s → c + k ≤ C.length → ∃ s', rd (.file L) k s = (0, (C.drop c).take k, s') ∧ RdF B L C (c + k) s' ∧ s'.m.cS + s.nx = s.m.cS + s'.nx ∧ s'.m.cI = s.m.cI ∧ (s'.m.cW = s.m.cW ∧ s'.m.scr = s.m.scr ∧ s'.m.S = s.m.S ∧ s'.m.inp = s.m.inp) ∧ s'.m.k + 2 * s.nx = s.m.k + 2 * s'.nx
  | 0, c, s, h, _ => ⟨s, by simp [rd], h, rfl, rfl, ⟨rfl, rfl, rfl, rfl⟩, rfl⟩
  | k + 1, c, s, h, hk => by
    obtain ⟨s1, e1, h1, hx, hc1, hc2, hc3, hc4⟩ := h.hold (by omega)
    have hcl : c < C.length := by omega
    have hh : s1.held = C[c] :: (C.take (s1.nx * B)).drop (c + 1) := by
      rw [h1.held, List.drop_eq_getElem_cons (by rw [List.length_take]; omega)]
      congr 1
      exact List.getElem_take
    have h2 : RdF B L C (c + 1) ⟨s1.m, s1.nx, (C.take (s1.nx * B)).drop (c + 1)⟩ := ⟨h1.eB, h1.b0, h1.eF, h1.dn, h1.scr, h1.ok, h1.cn, rfl, by omega, by show c + 1 ≤ s1.nx * B; omega, h1.nb⟩
    obtain ⟨s2, e2, h3, g1, g2, g3, g4⟩ := rd_file k (c + 1) _ h2 (by omega)
    refine ⟨s2, ?_, by rw [show c + (k + 1) = c + 1 + k by omega]; exact h3, ?_, g2.trans hc2, ⟨g3.1.trans hc3.1, g3.2.1.trans hc3.2.1, g3.2.2.1.trans hc3.2.2.1, g3.2.2.2.trans hc3.2.2.2⟩, ?_⟩
    · simp only [rd, e1]
      rw [if_neg (by simp), hh]
      simp only [e2]
      rw [List.drop_eq_getElem_cons hcl, List.take_succ_cons]
    · simp only at g1
      omega
    · simp only at g4
      omega
/-- A file that is read anew. -/
theorem rdF_new {m : M} {u : List Bool} {L d : List Int} (hk : Dk m u) (h : Wd m u L [] d) : RdF m.B L d 0 ⟨m, 0, []⟩ := by
  have q := h.data
  rw [if_pos rfl, List.append_nil] at q
  exact ⟨rfl, hk.b0, hk.eF, hk.dn, hk.scr, fun b hb => ⟨(h.ok b hb).1, (h.ok b hb).2.1⟩, q.symm, by simp, Nat.zero_le _, Nat.zero_le _, Nat.zero_le _⟩
theorem nblk_of {n B z x : Nat} (hB : 0 < B) (hz : z < B) (h : n + z = x * B) : x = nblk n B := by
  unfold nblk
  have e : n + B - 1 = x * B + (B - 1 - z) := by omega
  rw [e, Nat.add_comm, Nat.add_mul_div_right _ _ hB, Nat.div_eq_of_lt (by omega), Nat.zero_add]
/-- All of a file is read: each of its blocks once. -/
theorem RdF.all {B : Nat} {L C : List Int} {c : Nat} {s : RdS} (h : RdF B L C c s) (hL : L.length = nblk c B) : s.nx = L.length := by
  have h1 := h.nb
  have h2 := h.nx
  refine Nat.le_antisymm h1 ?_
  rw [hL]
  unfold nblk
  have hb := h.b0
  have : (c + B - 1) / B ≤ (s.nx * B + (B - 1)) / B := Nat.div_le_div_right (by omega)
  rw [Nat.add_comm (s.nx * B), Nat.add_mul_div_right _ _ hb, Nat.div_eq_of_lt (show B - 1 < B by omega), Nat.zero_add] at this
  exact this
/-- A block is begun: n is the one. -/
structure Wm (m : M) (u : List Bool) (pre bg d : List Int) (n : Nat) : Prop where
  ok : ∀ b ∈ pre, 0 ≤ b ∧ b < (m.S : Int) ∧ u[b.toNat]? = some true
  nd : (pre ++ [(n : Int)]).Nodup
  lt : bg.length < m.B
  n1 : n < m.S
  n2 : u[n]? = some true
  data : d = cont m pre ++ bg
/-- A writer goes on with a block that it has begun, or takes the lowest free one; another's blocks stay. -/
theorem Wd.begin {s : WrS} {d bl2 bg2 d2 : List Int} (h : Wd s.m s.u s.bl s.bg d) (hk : Dk s.m s.u) (h2 : Wd s.m s.u bl2 bg2 d2) (ap : ∀ b ∈ s.bl, b ∉ bl2) (free : s.bg = [] → ∃ i, low s.u = some i) :
    ∃ (pre : List Int) (n : Nat) (u' : List Bool), s.begin = (0, { s with u := u', bl := pre ++ [(n : Int)] }) ∧ Wm s.m u' pre s.bg d n ∧ Dk s.m u' ∧ Wd s.m u' bl2 bg2 d2 ∧ (∀ b ∈ pre ++ [(n : Int)], b ∉ bl2) ∧ ((s.bg ≠ [] ∧ u' = s.u ∧ pre ++ [(n : Int)] = s.bl) ∨ (s.bg = [] ∧ s.u[n]? = some false ∧ u' = s.u.set n true ∧ pre = s.bl)) := by
  by_cases hb : s.bg = []
  · obtain ⟨i, hi⟩ := free hb
    obtain ⟨l1, l2⟩ := low_some.1 hi
    have hil : i < s.u.length := (List.getElem?_eq_some_iff.1 l1).1
    have hset : ∀ j : Nat, s.u[j]? = some true → (s.u.set i true)[j]? = some true := fun j hj => by
      rw [List.getElem?_set]
      by_cases e : i = j
      · rw [if_pos e, if_pos hil]
      · rw [if_neg e]; exact hj
    have hni : ∀ (bl : List Int), (∀ b ∈ bl, 0 ≤ b ∧ b < (s.m.S : Int) ∧ s.u[b.toNat]? = some true) → (i : Int) ∉ bl := fun bl q e => by
      have := (q _ e).2.2
      rw [Int.toNat_natCast, l1] at this
      cases this
    refine ⟨s.bl, i, s.u.set i true, ?_, ⟨fun b hb2 => ⟨(h.ok b hb2).1, (h.ok b hb2).2.1, hset _ (h.ok b hb2).2.2⟩, ?_, h.lt, by rw [← hk.len]; exact hil, ?_, ?_⟩, ⟨hk.eF, hk.dn, hk.b0, hk.scr, by rw [List.length_set]; exact hk.len⟩, ⟨fun b hb2 => ⟨(h2.ok b hb2).1, (h2.ok b hb2).2.1, hset _ (h2.ok b hb2).2.2⟩, h2.nd, h2.lt, h2.ne, h2.data⟩, ?_, .inr ⟨hb, l1, rfl, rfl⟩⟩
    · unfold WrS.begin
      rw [if_neg (by rw [hb]; simp), hi]
    · refine List.nodup_append.2 ⟨h.nd, by simp, fun a ha b hb2 => ?_⟩
      rw [List.mem_singleton] at hb2
      subst hb2
      rintro rfl
      exact hni _ h.ok ha
    · rw [List.getElem?_set, if_pos rfl, if_pos hil]
    · have := h.data
      rw [if_pos hb] at this
      exact this
    · intro b hb2
      rcases List.mem_append.1 hb2 with hb3 | hb3
      · exact ap b hb3
      · rw [List.mem_singleton] at hb3
        subst hb3
        exact hni _ h2.ok
  · have hne := h.ne hb
    have el := List.dropLast_concat_getLast hne
    have hlast := h.ok _ (List.getLast_mem hne)
    obtain ⟨n, en⟩ : ∃ n : Nat, s.bl.getLast hne = (n : Int) := ⟨(s.bl.getLast hne).toNat, by omega⟩
    rw [en] at el hlast
    refine ⟨s.bl.dropLast, n, s.u, ?_, ⟨fun b hb2 => h.ok b ((List.dropLast_sublist _).subset hb2), by rw [el]; exact h.nd, h.lt, by omega, by simpa using hlast.2.2, ?_⟩, hk, h2, by rw [el]; exact ap, .inl ⟨hb, rfl, el⟩⟩
    · rw [begin_held hb, el]
    · have := h.data
      rw [if_neg hb] at this
      exact this
/-- A byte more behind a block that is begun. -/
theorem Wm.more {s : WrS} {pre d bl2 bg2 d2 : List Int} {n : Nat} (h : Wm s.m s.u pre s.bg d n) (hbl : s.bl = pre ++ [(n : Int)]) (hk : Dk s.m s.u) (h2 : Wd s.m s.u bl2 bg2 d2) (ap : ∀ b ∈ pre ++ [(n : Int)], b ∉ bl2) (x : Int) :
    ∃ s', s.more [x] = (0, s') ∧ Wd s'.m s'.u s'.bl s'.bg (d ++ [x]) ∧ Dk s'.m s'.u ∧ Wd s'.m s'.u bl2 bg2 d2 ∧ s'.bl = s.bl ∧ s'.u = s.u ∧ s'.sz = s.sz + 1 ∧ s'.br = s.br ∧ s'.m.B = s.m.B ∧ s'.m.S = s.m.S ∧ s'.m.inp = s.m.inp ∧ s'.m.cS = s.m.cS ∧ s'.m.cI = s.m.cI ∧ ((s.bg.length + 1 = s.m.B ∧ s'.bg = [] ∧ s'.m.cW = s.m.cW + 1 ∧ s'.m.k = s.m.k + 1) ∨ (s.bg.length + 1 < s.m.B ∧ s'.bg = s.bg ++ [x] ∧ s'.m = s.m)) := by
  have hgl : s.bl.getLastD 0 = (n : Int) := by rw [hbl]; simp
  have hdl : s.bl.dropLast = pre := by rw [hbl]; simp
  by_cases hB : s.bg.length + 1 = s.m.B
  · have hw := write_fit (m := s.m) (n := n) (d := s.bg ++ [x]) hk.dn h.n1 (by simpa using hB) hk.eF
    have hy : (s.bg ++ [x]).length = s.m.B := by simpa using hB
    refine ⟨{ s with m := s.m.cW1.torn (n * s.m.B) (s.bg ++ [x]) false, bg := [], sz := s.sz + 1 }, ?_, ⟨?_, by show s.bl.Nodup; rw [hbl]; exact h.nd, hk.b0, fun e => absurd rfl e, ?_⟩, ⟨hk.eF, rfl, hk.b0, ?_, hk.len⟩, ⟨h2.ok, h2.nd, h2.lt, h2.ne, ?_⟩, rfl, rfl, rfl, rfl, rfl, rfl, rfl, rfl, rfl, .inl ⟨hB, rfl, rfl, rfl⟩⟩
    · unfold WrS.more
      rw [if_pos (by simpa using hB)]
      unfold WrS.flush
      simp only [hgl, hw]
      rw [if_neg (by simp)]
      rfl
    · intro b hb
      rw [hbl] at hb
      rcases List.mem_append.1 hb with hb2 | hb2
      · exact h.ok b hb2
      · rw [List.mem_singleton] at hb2
        subst hb2
        exact ⟨by omega, by have := h.n1; show (n : Int) < (s.m.S : Int); omega, by rw [Int.toNat_natCast]; exact h.n2⟩
    · show d ++ [x] = cont (s.m.cW1.torn (n * s.m.B) (s.bg ++ [x]) false) (if ([] : List Int) = [] then s.bl else s.bl.dropLast) ++ []
      rw [if_pos rfl, List.append_nil, hbl]
      have e1 : cont (s.m.cW1.torn (n * s.m.B) (s.bg ++ [x]) false) pre = cont s.m pre := cont_write hk h.n1 hy (fun b hb => ⟨(h.ok b hb).1, fun e => by
        subst e
        have := (List.nodup_append.1 h.nd).2.2 _ hb _ (List.mem_singleton.2 rfl)
        exact this rfl⟩) _ rfl rfl
      have e2 : cont (s.m.cW1.torn (n * s.m.B) (s.bg ++ [x]) false) (pre ++ [(n : Int)]) = cont (s.m.cW1.torn (n * s.m.B) (s.bg ++ [x]) false) pre ++ cut s.m.B (splice s.m.scr (n * s.m.B) (s.bg ++ [x])) n := by
        unfold cont
        rw [List.flatMap_append]
        simp [M.torn, M.cW1]
      rw [e2, e1, cut_same hy (fits hk h.n1), h.data, List.append_assoc]
    · show (splice s.m.scr (n * s.m.B) (s.bg ++ [x])).length = s.m.B * s.m.S
      rw [length_splice _ _ _ (by rw [hy]; exact fits hk h.n1)]
      exact hk.scr
    · have e1 : ∀ L : List Int, (∀ b ∈ L, b ∈ bl2) → cont (s.m.cW1.torn (n * s.m.B) (s.bg ++ [x]) false) L = cont s.m L := fun L hL => cont_write hk h.n1 hy (fun b hb => ⟨(h2.ok b (hL b hb)).1, fun e => ap b (by rw [e]; simp) (hL b hb)⟩) _ rfl rfl
      have q := h2.data
      by_cases eb : bg2 = []
      · rw [if_pos eb] at q ⊢
        rw [e1 bl2 fun b hb => hb]
        exact q
      · rw [if_neg eb] at q ⊢
        rw [e1 bl2.dropLast fun b hb => (List.dropLast_sublist _).subset hb]
        exact q
  · have hlt : s.bg.length + 1 < s.m.B := by
      have := h.lt
      omega
    refine ⟨{ s with bg := s.bg ++ [x], sz := s.sz + 1 }, ?_, ⟨?_, by show s.bl.Nodup; rw [hbl]; exact h.nd, by simpa using hlt, fun _ => by show s.bl ≠ []; rw [hbl]; simp, ?_⟩, hk, h2, rfl, rfl, rfl, rfl, rfl, rfl, rfl, rfl, rfl, .inr ⟨hlt, rfl, rfl⟩⟩
    · unfold WrS.more
      rw [if_neg (by simpa using hB)]
      rfl
    · intro b hb
      rw [hbl] at hb
      rcases List.mem_append.1 hb with hb2 | hb2
      · exact h.ok b hb2
      · rw [List.mem_singleton] at hb2
        subst hb2
        exact ⟨by omega, by have := h.n1; show (n : Int) < (s.m.S : Int); omega, by rw [Int.toNat_natCast]; exact h.n2⟩
    · show d ++ [x] = cont s.m (if s.bg ++ [x] = [] then s.bl else s.bl.dropLast) ++ (s.bg ++ [x])
      rw [if_neg (by simp), hdl, h.data, List.append_assoc]
/-- How many blocks are free. -/
def fre (u : List Bool) : Nat := (u.filter fun x => !x).length
theorem fre_low {u : List Bool} (h : 0 < fre u) : ∃ i, low u = some i := by
  cases e : low u with
  | some i => exact ⟨i, rfl⟩
  | none =>
    exfalso
    have q := low_none.1 e
    have : u.filter (fun x => !x) = [] := by
      rw [List.filter_eq_nil_iff]
      intro x hx
      obtain ⟨i, hi, rfl⟩ := List.mem_iff_getElem.1 hx
      have := q i hi
      rw [List.getElem?_eq_getElem hi] at this
      simp only [Option.some.injEq] at this
      rw [this]
      simp
    unfold fre at h
    rw [this] at h
    exact absurd h (by decide)
theorem fre_set : ∀ {u : List Bool} {i : Nat}, u[i]? = some false → fre (u.set i true) + 1 = fre u
  | [], i, h => by simp at h
  | b :: u, 0, h => by
    cases h
    simp [fre]
  | b :: u, i + 1, h => by
    have ih := fre_set (u := u) (i := i) (by simpa using h)
    unfold fre at ih ⊢
    rw [List.set_cons_succ, List.filter_cons, List.filter_cons]
    cases b
    · simp only [Bool.not_false, if_true, List.length_cons]
      omega
    · simp only [Bool.not_true]
      exact ih
/-- How many whole blocks a writer has written; for how many bytes there is room. -/
def full (s : WrS) : Nat := s.bl.length - (if s.bg = [] then 0 else 1)
def room8 (s : WrS) : Nat := (if s.bg = [] then 0 else s.m.B - s.bg.length) + fre s.u * s.m.B
/-- A byte more. -/
theorem Wd.byte {s : WrS} {d bl2 bg2 d2 : List Int} (h : Wd s.m s.u s.bl s.bg d) (hk : Dk s.m s.u) (h2 : Wd s.m s.u bl2 bg2 d2) (ap : ∀ b ∈ s.bl, b ∉ bl2) (hr : 0 < room8 s) (x : Int) :
    ∃ s', (∀ r, wr (x :: r) s = wr r s') ∧ Wd s'.m s'.u s'.bl s'.bg (d ++ [x]) ∧ Dk s'.m s'.u ∧ Wd s'.m s'.u bl2 bg2 d2 ∧ (∀ b ∈ s'.bl, b ∉ bl2) ∧ (s'.m.B = s.m.B ∧ s'.m.S = s.m.S ∧ s'.m.inp = s.m.inp ∧ s'.m.cS = s.m.cS ∧ s'.m.cI = s.m.cI) ∧ s'.sz = s.sz + 1 ∧ s'.br = s.br ∧ s'.m.k ≤ s.m.k + 1 ∧ s'.bl.length + fre s'.u = s.bl.length + fre s.u ∧ s'.m.cW + full s = s.m.cW + full s' ∧ room8 s' + 1 = room8 s := by
  have hf : s.bg = [] → 0 < fre s.u := fun e => by
    unfold room8 at hr
    rw [if_pos e, Nat.zero_add] at hr
    exact Nat.pos_of_mul_pos_right hr
  obtain ⟨pre, n, u', e1, wm, hk1, h21, ap1, hc⟩ := h.begin hk h2 ap fun e => fre_low (hf e)
  obtain ⟨s', e2, q1, q2, q3, q4, q5, q6, q7, q8, q9, q10, q11, q12, q13⟩ := Wm.more (s := { s with u := u', bl := pre ++ [(n : Int)] }) (pre := pre) (d := d) (n := n) wm rfl hk1 h21 ap1 x
  simp only at q4 q5 q6 q7 q8 q9 q10 q11 q12 q13
  refine ⟨s', fun r => ?_, q1, q2, q3, by rw [q4]; exact ap1, ⟨q8, q9, q10, q11, q12⟩, q6, q7, ?_, ?_, ?_, ?_⟩
  · rw [wr, e1]
    simp only
    rw [if_neg (by simp), e2, if_neg (by simp)]
  · rcases q13 with ⟨-, -, -, e⟩ | ⟨-, -, e⟩
    · omega
    · rw [e]; omega
  · rw [q4, q5]
    rcases hc with ⟨-, e3, e4⟩ | ⟨-, e3, e4, e5⟩
    · rw [e4, e3]
    · have := fre_set e3
      rw [← e4] at this
      rw [e5, List.length_append, List.length_singleton]
      omega
  · unfold full
    rw [q4]
    rcases hc with ⟨e0, e3, e4⟩ | ⟨e0, e3, e4, e5⟩
    · rw [if_neg e0, ← e4, List.length_append, List.length_singleton]
      rcases q13 with ⟨-, e6, e7, -⟩ | ⟨-, e6, e7⟩
      · rw [if_pos e6, e7]
        omega
      · rw [if_neg (by rw [e6]; simp), e7]
    · rw [if_pos e0, e5, List.length_append, List.length_singleton]
      rcases q13 with ⟨-, e6, e7, -⟩ | ⟨-, e6, e7⟩
      · rw [if_pos e6, e7]
        omega
      · rw [if_neg (by rw [e6]; simp), e7]
        omega
  · unfold room8
    rw [q5, q8]
    rcases hc with ⟨e0, e3, e4⟩ | ⟨e0, e3, e4, e5⟩
    · rw [if_neg e0, e3]
      rcases q13 with ⟨e8, e6, e7, -⟩ | ⟨e8, e6, e7⟩
      · rw [if_pos e6]
        omega
      · rw [if_neg (by rw [e6]; simp), e6, List.length_append, List.length_singleton]
        omega
    · have hs := fre_set e3
      rw [← e4] at hs
      have hm : fre s.u * s.m.B = fre u' * s.m.B + s.m.B := by rw [← hs, Nat.add_mul, Nat.one_mul]
      have hb := hk.b0
      rw [if_pos e0, hm]
      rw [e0] at q13
      rcases q13 with ⟨e8, e6, e7, -⟩ | ⟨e8, e6, e7⟩
      · rw [if_pos e6]
        simp only [List.length_nil] at e8
        omega
      · rw [if_neg (by rw [e6]; simp), e6]
        simp only [List.nil_append, List.length_singleton, List.length_nil] at e8 ⊢
        omega
/-- Bytes more, as long as there is room; another writer's file stays as it is. -/
theorem Wd.bytes : ∀ (l : List Int) {s : WrS} {d bl2 bg2 d2 : List Int}, Wd s.m s.u s.bl s.bg d → Dk s.m s.u → Wd s.m s.u bl2 bg2 d2 → (∀ b ∈ s.bl, b ∉ bl2) → l.length ≤ room8 s →
    ∃ s', wr l s = (0, s') ∧ Wd s'.m s'.u s'.bl s'.bg (d ++ l) ∧ Dk s'.m s'.u ∧ Wd s'.m s'.u bl2 bg2 d2 ∧ (∀ b ∈ s'.bl, b ∉ bl2) ∧ (s'.m.B = s.m.B ∧ s'.m.S = s.m.S ∧ s'.m.inp = s.m.inp ∧ s'.m.cS = s.m.cS ∧ s'.m.cI = s.m.cI) ∧ s'.sz = s.sz + l.length ∧ s'.br = s.br ∧ s'.m.k ≤ s.m.k + l.length ∧ s'.bl.length + fre s'.u = s.bl.length + fre s.u ∧ s'.m.cW + full s = s.m.cW + full s' ∧ room8 s' + l.length = room8 s
  | [], s, d, bl2, bg2, d2, h, hk, h2, ap, _ => ⟨s, rfl, by rw [List.append_nil]; exact h, hk, h2, ap, ⟨rfl, rfl, rfl, rfl, rfl⟩, rfl, rfl, Nat.le_refl _, rfl, rfl, rfl⟩
  | x :: l, s, d, bl2, bg2, d2, h, hk, h2, ap, hr => by
    rw [List.length_cons] at hr
    obtain ⟨s1, e1, a1, a2, a3, a4, ⟨b1, b2, b3, b4, b5⟩, a6, a7, a8, a9, a10, a11⟩ := h.byte hk h2 ap (by omega) x
    obtain ⟨s', e2, c1, c2, c3, c4, ⟨d1, d2', d3, d4, d5⟩, c6, c7, c8, c9, c10, c11⟩ := Wd.bytes l a1 a2 a3 a4 (by omega)
    refine ⟨s', by rw [e1, e2], by rw [List.append_assoc] at c1; exact c1, c2, c3, c4, ⟨d1.trans b1, d2'.trans b2, d3.trans b3, d4.trans b4, d5.trans b5⟩, ?_, c7.trans a7, ?_, c9.trans a9, by omega, ?_⟩
    · rw [List.length_cons]; omega
    · rw [List.length_cons]; omega
    · rw [List.length_cons]; omega
end Go.Proofs.Ytpjkmficpedmcaa
