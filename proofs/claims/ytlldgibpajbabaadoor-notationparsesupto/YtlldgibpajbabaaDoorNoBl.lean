/- What is proved: plain facts: a line of the form is read as the transaction that it writes, and what is read was a line of the form; no condition. -/
import Derived.Test.YtlldgibpajbabaaDoorNoBk
namespace Go.Proofs.YtlldgibpajbabaaDoor
open Go.RowKit

theorem cutp_app (p r : List UInt8) (f : Bool) : cutp p ⟨p ++ r, f⟩ = ⟨r, f⟩ := by
  unfold cutp
  simp only [trim_app]
theorem hasp_app (p r : List UInt8) (f : Bool) : hasp p ⟨p ++ r, f⟩ = true := has_app p r
theorem cutp_no {p : List UInt8} {s : Rs} (h : hasp p s = false) : cutp p s = s := by
  unfold cutp
  rw [trim_no h]
theorem cut_inv {p : List UInt8} {s : Rs} (h : hasp p s = true) : s.l = p ++ (cutp p s).l := has_inv h
theorem wd_cons (l : List UInt8) : ∃ b r, wd l = b :: r ∧ wch b = true := by
  have h := wd_wch l
  cases e : wd l with
  | nil =>
    unfold wd at e
    split at e
    · rename_i hp
      subst e
      simp [pln] at hp
    · cases e
  | cons b r =>
    rw [e] at h
    simp only [List.all_cons, Bool.and_eq_true] at h
    exact ⟨b, r, rfl, h.1⟩
theorem dash_no (v r : List UInt8) (f : Bool) : hasp [45] ⟨wd v ++ r, f⟩ = false := by
  obtain ⟨b, r', e, hb⟩ := wd_cons v
  unfold hasp
  rw [e]
  exact has_ne (fun e => by subst e; exact absurd hb (by decide)) _ _
theorem op_app {o : OpM} (h : FormO o) {r : List UInt8} (hr : Rest r) : opR ⟨32 :: opL o ++ r, false⟩ = (o, ⟨r, false⟩) := by
  obtain ⟨kind, key, fd, v⟩ := o
  have hw : ∀ x, Halt wch ([41, 61] ++ x) := fun x => halt_cons (by decide) _
  have hw2 : ∀ x, Halt wch ([41] ++ x) := fun x => halt_cons (by decide) _
  rcases h with ⟨h1, h2⟩ | ⟨h1, h2⟩ | ⟨h1, h2, h3⟩
  · simp only at h1 h2
    subst h1
    cases fd with
    | true =>
      have E : (32 :: opL ⟨1, key, true, v⟩ ++ r) = [32] ++ ([114, 40] ++ (wd key.data.toList ++ ([41, 61] ++ (wd v.data.toList ++ r)))) := by simp [opL, letr, keyL, valL]
      rw [E]
      unfold opR
      dsimp only
      rw [mst_app, hasp_app, cutp_app, (wrd_app (hw _) _).1, (wrd_app (hw _) _).2, mst_app, dash_no, cutp_no (dash_no _ _ _), (wrd_app hr.w _).1, (wrd_app hr.w _).2]
      rfl
    | false =>
      obtain rfl := size_nil (h2.resolve_left (by simp))
      have E : (32 :: opL ⟨1, key, false, bts []⟩ ++ r) = [32] ++ ([114, 40] ++ (wd key.data.toList ++ ([41, 61] ++ ([45] ++ r)))) := by simp [opL, letr, keyL]
      rw [E]
      unfold opR
      dsimp only
      rw [mst_app, hasp_app, cutp_app, (wrd_app (hw _) _).1, (wrd_app (hw _) _).2, mst_app, hasp_app, cutp_app]
      rfl
  · simp only at h1 h2
    subst h1 h2
    have E : (32 :: opL ⟨2, key, true, v⟩ ++ r) = [32] ++ ([119, 40] ++ (wd key.data.toList ++ ([41, 61] ++ (wd v.data.toList ++ r)))) := by simp [opL, letr, keyL, valL]
    have N : ∀ x f, hasp [114, 40] ⟨[119, 40] ++ x, f⟩ = false := fun x f => has_ne (by decide) _ _
    rw [E]
    unfold opR
    dsimp only
    rw [mst_app, N, cutp_no (N _ _), hasp_app, cutp_app, (wrd_app (hw _) _).1, (wrd_app (hw _) _).2, mst_app, (wrd_app hr.w _).1, (wrd_app hr.w _).2]
    rfl
  · simp only at h1 h2 h3
    subst h1 h2
    obtain rfl := size_nil h3
    have E : (32 :: opL ⟨3, key, false, bts []⟩ ++ r) = [32] ++ ([100, 40] ++ (wd key.data.toList ++ ([41] ++ r))) := by simp [opL, letr, keyL]
    have N : ∀ x f, hasp [114, 40] ⟨[100, 40] ++ x, f⟩ = false := fun x f => has_ne (by decide) _ _
    have N2 : ∀ x f, hasp [119, 40] ⟨[100, 40] ++ x, f⟩ = false := fun x f => has_ne (by decide) _ _
    rw [E]
    unfold opR
    dsimp only
    rw [mst_app, N, cutp_no (N _ _), N2, cutp_no (N2 _ _), mst_app, (wrd_app (hw2 _) _).1, (wrd_app (hw2 _) _).2, mst_app]
    rfl
theorem op_inv {s : Rs} (h : (opR s).2.f = false) : s.f = false ∧ FormO (opR s).1 ∧ s.l = 32 :: opL (opR s).1 ++ (opR s).2.l := by
  unfold opR at h ⊢
  dsimp only at h ⊢
  by_cases c1 : hasp [114, 40] (mst [32] s) = true
  · rw [if_pos c1] at h ⊢
    have q1 := cut_inv c1
    by_cases c2 : hasp [45] (mst [41, 61] (wrdS (cutp [114, 40] (mst [32] s)))) = true
    · rw [if_pos c2] at h ⊢
      have q2 := cut_inv c2
      obtain ⟨g1, g2⟩ := mst_inv (s := wrdS (cutp [114, 40] (mst [32] s))) h
      obtain ⟨i1, i2⟩ := wrd_inv g1
      obtain ⟨j1, j2⟩ := mst_inv (s := s) i1
      refine ⟨j1, .inl ⟨rfl, .inr rfl⟩, ?_⟩
      rw [j2, q1, i2, g2, q2]
      simp [opL, letr, keyL, bts]
    · rw [if_neg c2] at h ⊢
      have c2' : hasp [45] (mst [41, 61] (wrdS (cutp [114, 40] (mst [32] s)))) = false := by simpa using c2
      rw [cutp_no c2'] at h ⊢
      obtain ⟨k1, k2⟩ := wrd_inv h
      obtain ⟨g1, g2⟩ := mst_inv k1
      obtain ⟨i1, i2⟩ := wrd_inv g1
      obtain ⟨j1, j2⟩ := mst_inv (s := s) i1
      refine ⟨j1, .inl ⟨rfl, .inl rfl⟩, ?_⟩
      rw [j2, q1, i2, g2, k2]
      simp [opL, letr, keyL, valL, bts]
  · rw [if_neg c1] at h ⊢
    have c1' : hasp [114, 40] (mst [32] s) = false := by simpa using c1
    rw [cutp_no c1'] at h ⊢
    by_cases c2 : hasp [119, 40] (mst [32] s) = true
    · rw [if_pos c2] at h ⊢
      have q1 := cut_inv c2
      obtain ⟨k1, k2⟩ := wrd_inv h
      obtain ⟨g1, g2⟩ := mst_inv k1
      obtain ⟨i1, i2⟩ := wrd_inv g1
      obtain ⟨j1, j2⟩ := mst_inv (s := s) i1
      refine ⟨j1, .inr (.inl ⟨rfl, rfl⟩), ?_⟩
      rw [j2, q1, i2, g2, k2]
      simp [opL, letr, keyL, valL, bts]
    · rw [if_neg c2] at h ⊢
      have c2' : hasp [119, 40] (mst [32] s) = false := by simpa using c2
      rw [cutp_no c2'] at h ⊢
      obtain ⟨g1, g2⟩ := mst_inv h
      obtain ⟨i1, i2⟩ := wrd_inv g1
      obtain ⟨k1, k2⟩ := mst_inv i1
      obtain ⟨j1, j2⟩ := mst_inv (s := s) k1
      refine ⟨j1, .inr (.inr ⟨rfl, rfl, rfl⟩), ?_⟩
      rw [j2, k2, i2, g2]
      simp [opL, letr, keyL, bts]
theorem opsL_cons (o : OpM) (ops : List OpM) : opsL (o :: ops) = 32 :: opL o ++ opsL ops := by simp [opsL]
theorem opsL_rest (ops : List OpM) : Rest (opsL ops) := by
  cases ops with
  | nil => exact .inl rfl
  | cons o ops => exact .inr ⟨opL o ++ opsL ops, by rw [opsL_cons]; rfl⟩
theorem opsL_ge : ∀ (ops : List OpM), ops.length ≤ (opsL ops).length
  | [] => Nat.zero_le _
  | o :: ops => by
    have := opsL_ge ops
    rw [opsL_cons]
    simp
    omega
theorem opsR_end (n : Nat) (acc : List OpM) {s : Rs} (h : s.l = [] ∨ s.f = true) : opsR n acc s = (acc, s) := by
  cases n with
  | zero => rfl
  | succ n => rw [opsR, if_pos h]
theorem ops_app : ∀ (ops : List OpM) (n : Nat) (acc : List OpM), (∀ o ∈ ops, FormO o) → ops.length ≤ n → acc.length ≤ 17 → opsR n acc ⟨opsL ops, false⟩ = ((acc ++ ops).take 17, ⟨[], false⟩)
  | [], n, acc, _, _, ha => by
    rw [opsR_end n acc (.inl rfl), List.append_nil, List.take_of_length_le ha]
    rfl
  | o :: ops, 0, acc, _, hn, _ => by simp at hn
  | o :: ops, n + 1, acc, hf, hn, ha => by
    have h1 := op_app (hf o List.mem_cons_self) (opsL_rest ops)
    rw [opsR, if_neg (by rw [opsL_cons]; simp), opsL_cons, h1]
    dsimp only
    have hf' : ∀ x ∈ ops, FormO x := fun x hx => hf x (List.mem_cons_of_mem _ hx)
    have hn' : ops.length ≤ n := by simp at hn; omega
    by_cases c : acc.length ≤ 16
    · rw [if_pos c, ops_app ops n (acc ++ [o]) hf' hn' (by simp; omega), List.append_assoc]
      rfl
    · rw [if_neg c, ops_app ops n acc hf' hn' ha, List.take_append_of_le_length (by omega), List.take_append_of_le_length (by omega)]
theorem ops_inv : ∀ (n : Nat) (acc : List OpM) (s : Rs), rk s ≤ n → (opsR n acc s).2.f = false → s.f = false ∧ ∃ ops, (∀ o ∈ ops, FormO o) ∧ s.l = opsL ops
  | 0, acc, s, h, hf => by
    have hf' : s.f = false := hf
    unfold rk at h
    rw [hf'] at h
    simp at h
  | n + 1, acc, s, h, hf => by
    rw [opsR] at hf
    by_cases c : s.l = [] ∨ s.f = true
    · rw [if_pos c] at hf
      have hf' : s.f = false := hf
      rcases c with c | c
      · exact ⟨hf', [], by simp, by rw [c]; rfl⟩
      · rw [c] at hf'; cases hf'
    · rw [if_neg c] at hf
      simp only [not_or, Bool.not_eq_true] at c
      have h1 := op_rk (s := s) c.2
      obtain ⟨g, ops, ho, e⟩ := ops_inv n _ (opR s).2 (by omega) hf
      obtain ⟨i1, i2, i3⟩ := op_inv g
      refine ⟨i1, (opR s).1 :: ops, fun o h => ?_, by rw [i3, e, opsL_cons]⟩
      rcases List.mem_cons.1 h with rfl | h
      · exact i2
      · exact ho o h
theorem sts_app {st : Int} (h : st = 0 ∨ st = 1) (r : List UInt8) : stsV ⟨stw st ++ r, false⟩ = st ∧ stsS ⟨stw st ++ r, false⟩ = ⟨r, false⟩ := by
  rcases h with rfl | rfl
  · have e : stw 0 = wAbort := rfl
    have N : hasp wCommit ⟨wAbort ++ r, false⟩ = false := has_ne (by decide) _ _
    rw [e]
    unfold stsV stsS
    rw [N, cutp_no N, mst_app]
    exact ⟨rfl, rfl⟩
  · have e : stw 1 = wCommit := rfl
    rw [e]
    unfold stsV stsS
    rw [hasp_app, cutp_app]
    exact ⟨rfl, rfl⟩
theorem sts_inv {s : Rs} (h : (stsS s).f = false) : s.f = false ∧ (stsV s = 0 ∨ stsV s = 1) ∧ s.l = stw (stsV s) ++ (stsS s).l := by
  unfold stsS at h ⊢
  unfold stsV
  by_cases c : hasp wCommit s = true
  · rw [if_pos c] at h ⊢
    rw [if_pos c]
    exact ⟨h, .inr rfl, cut_inv c⟩
  · rw [if_neg c] at h ⊢
    rw [if_neg c]
    have c' : hasp wCommit s = false := by simpa using c
    rw [cutp_no c'] at h ⊢
    obtain ⟨g1, g2⟩ := mst_inv h
    exact ⟨g1, .inl rfl, g2⟩
theorem nat_of {n : Int} (h : inF n) : ∃ m : Nat, n = (m : Int) ∧ m < 1000000000000000 := by
  obtain ⟨m, rfl⟩ := Int.eq_ofNat_of_zero_le h.1
  exact ⟨m, rfl, by have := h.2; omega⟩
theorem line_eq (t : TxM) : line t = numL [115] t.f0 ++ (numL [32, 113] t.f1 ++ (numL [32, 116] t.f2 ++ (numL [45] t.f3 ++ (numL [32, 99] t.f4 ++ (numL [45] t.f5 ++ ([32] ++ (stw t.f6 ++ opsL t.ops))))))) := by
  unfold line headL
  simp only [List.append_assoc]
theorem form_read {t : TxM} (h : Form t) : readT (line t) = (⟨t.f0, t.f1, t.f2, t.f3, t.f4, t.f5, t.f6, t.ops.take 17⟩, true) := by
  obtain ⟨f0, f1, f2, f3, f4, f5, f6, ops⟩ := t
  obtain ⟨a0, a1, a2, a3, a4, a5, a6, ho⟩ := h
  simp only at a0 a1 a2 a3 a4 a5 a6 ho
  obtain ⟨n0, rfl, b0⟩ := nat_of a0
  obtain ⟨n1, rfl, b1⟩ := nat_of a1
  obtain ⟨n2, rfl, b2⟩ := nat_of a2
  obtain ⟨n3, rfl, b3⟩ := nat_of a3
  obtain ⟨n4, rfl, b4⟩ := nat_of a4
  obtain ⟨n5, rfl, b5⟩ := nat_of a5
  have hlen : ops.length ≤ (line ⟨n0, n1, n2, n3, n4, n5, f6, ops⟩).length + 2 := by
    have := opsL_ge ops
    unfold line
    rw [List.length_append]
    dsimp only
    omega
  have eL := line_eq ⟨n0, n1, n2, n3, n4, n5, f6, ops⟩
  dsimp only at eL
  have hd : ∀ {b : UInt8} (p x y : List UInt8), dg b = false → Halt dg ((b :: p ++ x) ++ y) := fun p x y hb => halt_cons hb _
  generalize eA : opsL ops = RA at eL
  obtain ⟨s1, s2⟩ := sts_app a6 RA
  generalize eB : stw f6 ++ RA = RB at eL s1 s2
  obtain ⟨p5, q5⟩ := num_app b5 (r := [32] ++ RB) (halt_cons (by decide) _) [45]
  generalize eC : numL [45] (n5 : Int) ++ ([32] ++ RB) = RC at eL p5 q5
  have hC : Halt dg RC := by rw [← eC]; exact halt_cons (by decide) _
  obtain ⟨p4, q4⟩ := num_app b4 hC [32, 99]
  generalize eD : numL [32, 99] (n4 : Int) ++ RC = RD at eL p4 q4
  have hD : Halt dg RD := by rw [← eD]; exact halt_cons (by decide) _
  obtain ⟨p3, q3⟩ := num_app b3 hD [45]
  generalize eE : numL [45] (n3 : Int) ++ RD = RE at eL p3 q3
  have hE : Halt dg RE := by rw [← eE]; exact halt_cons (by decide) _
  obtain ⟨p2, q2⟩ := num_app b2 hE [32, 116]
  generalize eF : numL [32, 116] (n2 : Int) ++ RE = RF at eL p2 q2
  have hF : Halt dg RF := by rw [← eF]; exact halt_cons (by decide) _
  obtain ⟨p1, q1⟩ := num_app b1 hF [32, 113]
  generalize eG : numL [32, 113] (n1 : Int) ++ RF = RG at eL p1 q1
  have hG : Halt dg RG := by rw [← eG]; exact halt_cons (by decide) _
  obtain ⟨p0, q0⟩ := num_app b0 hG [115]
  generalize line ⟨n0, n1, n2, n3, n4, n5, f6, ops⟩ = L at eL hlen
  rw [← eL] at p0 q0
  have y1 : z1 L = ⟨RG, false⟩ := q0
  have y2 : z2 L = ⟨RF, false⟩ := by unfold z2; rw [y1]; exact q1
  have y3 : z3 L = ⟨RE, false⟩ := by unfold z3; rw [y2]; exact q2
  have y4 : z4 L = ⟨RD, false⟩ := by unfold z4; rw [y3]; exact q3
  have y5 : z5 L = ⟨RC, false⟩ := by unfold z5; rw [y4]; exact q4
  have y6 : z6 L = ⟨[32] ++ RB, false⟩ := by unfold z6; rw [y5]; exact q5
  have y7 : z7 L = ⟨RB, false⟩ := by unfold z7; rw [y6]; exact mst_app _ _
  have y8 : z8 L = ⟨opsL ops, false⟩ := by unfold z8; rw [y7, eA]; exact s2
  unfold readT headT
  rw [y8, ops_app ops (L.length + 2) [] ho hlen (by simp), y1, y2, y3, y4, y5, y7, p0, p1, p2, p3, p4, p5, s1]
  rfl
theorem chain8 {l l1 l2 l3 l4 l5 l6 l7 l8 a0 a1 a2 a3 a4 a5 a6 a7 : List UInt8} (e0 : l = a0 ++ l1) (e1 : l1 = a1 ++ l2) (e2 : l2 = a2 ++ l3) (e3 : l3 = a3 ++ l4) (e4 : l4 = a4 ++ l5) (e5 : l5 = a5 ++ l6) (e6 : l6 = a6 ++ l7) (e7 : l7 = a7 ++ l8) :
    a0 ++ (a1 ++ (a2 ++ (a3 ++ (a4 ++ (a5 ++ (a6 ++ (a7 ++ l8))))))) = l := by rw [e0, e1, e2, e3, e4, e5, e6, e7]
theorem read_form {l : List UInt8} (h : (readT l).2 = true) : ∃ t, Form t ∧ line t = l := by
  have h' : (opsR (l.length + 2) [] (z8 l)).2.f = false := by simpa [readT] using h
  have hz : rk (z8 l) ≤ l.length + 2 := by have := z8_len l; unfold rk; split <;> omega
  obtain ⟨i8, ops, ho, e8⟩ := ops_inv _ _ _ hz h'
  obtain ⟨i7, st, e7⟩ := sts_inv (s := z7 l) i8
  obtain ⟨i6, e6⟩ := mst_inv (s := z6 l) i7
  obtain ⟨i5, b5, e5⟩ := num_inv (s := z5 l) i6
  obtain ⟨i4, b4, e4⟩ := num_inv (s := z4 l) i5
  obtain ⟨i3, b3, e3⟩ := num_inv (s := z3 l) i4
  obtain ⟨i2, b2, e2⟩ := num_inv (s := z2 l) i3
  obtain ⟨i1, b1, e1⟩ := num_inv (s := z1 l) i2
  obtain ⟨-, b0, e0⟩ := num_inv (s := ⟨l, false⟩) i1
  have d7 : (z7 l).l = stw (stsV (z7 l)) ++ (z8 l).l := e7
  have d6 : (z6 l).l = [32] ++ (z7 l).l := e6
  have d5 : (z5 l).l = numL [45] (nv [45] (z5 l)) ++ (z6 l).l := e5
  have d4 : (z4 l).l = numL [32, 99] (nv [32, 99] (z4 l)) ++ (z5 l).l := e4
  have d3 : (z3 l).l = numL [45] (nv [45] (z3 l)) ++ (z4 l).l := e3
  have d2 : (z2 l).l = numL [32, 116] (nv [32, 116] (z2 l)) ++ (z3 l).l := e2
  have d1 : (z1 l).l = numL [32, 113] (nv [32, 113] (z1 l)) ++ (z2 l).l := e1
  have d0 : l = numL [115] (nv [115] ⟨l, false⟩) ++ (z1 l).l := e0
  clear e0 e1 e2 e3 e4 e5 e6 e7 i1 i2 i3 i4 i5 i6 i7 i8 h h' hz
  generalize nv [115] ⟨l, false⟩ = m0 at b0 d0
  generalize nv [32, 113] (z1 l) = m1 at b1 d1
  generalize nv [32, 116] (z2 l) = m2 at b2 d2
  generalize nv [45] (z3 l) = m3 at b3 d3
  generalize nv [32, 99] (z4 l) = m4 at b4 d4
  generalize nv [45] (z5 l) = m5 at b5 d5
  generalize stsV (z7 l) = sv at st d7
  refine ⟨⟨m0, m1, m2, m3, m4, m5, sv, ops⟩, ⟨⟨by simp, by simp; omega⟩, ⟨by simp, by simp; omega⟩, ⟨by simp, by simp; omega⟩, ⟨by simp, by simp; omega⟩, ⟨by simp, by simp; omega⟩, ⟨by simp, by simp; omega⟩, st, ho⟩, ?_⟩
  rw [line_eq]
  dsimp only
  rw [← e8]
  exact chain8 d0 d1 d2 d3 d4 d5 d6 d7
theorem valid_take (t : TxM) : valid ⟨t.f0, t.f1, t.f2, t.f3, t.f4, t.f5, t.f6, t.ops.take 17⟩ = valid t := by
  by_cases h : t.ops.length ≤ 16
  · rw [List.take_of_length_le (by omega)]
  · have e : rightF ⟨t.f0, t.f1, t.f2, t.f3, t.f4, t.f5, t.f6, t.ops.take 17⟩ ↔ rightF t := Iff.rfl
    have h2 : 16 < (t.ops.take 17).length := by rw [List.length_take]; omega
    have h3 : 16 < t.ops.length := by omega
    unfold valid
    by_cases hf : rightF t
    · rw [if_neg (show ¬ ¬ rightF ⟨t.f0, t.f1, t.f2, t.f3, t.f4, t.f5, t.f6, t.ops.take 17⟩ from fun h => h (e.2 hf)), if_pos h2, if_neg (show ¬ ¬ rightF t from fun h => h hf), if_pos h3]
    · rw [if_pos (fun h => hf (e.1 h)), if_pos hf]
theorem form_parse {t : TxM} (h : Form t) : parseT (line t) = if valid t = 0 then (t, 0) else (tz0, valid t) := by
  unfold parseT
  rw [form_read h]
  dsimp only
  rw [valid_take]
  by_cases hv : valid t = 0
  · have hr := valid_zero.1 hv
    rw [if_pos hv, if_neg (by simp), if_neg (by simpa using hv), List.take_of_length_le (by have := hr.2.1; omega)]
  · rw [if_neg hv, if_neg (by simp), if_pos hv]
theorem right_parse {t : TxM} (h : Right t) : parseT (line t) = (t, 0) := by
  rw [form_parse (form_right h), if_pos (valid_zero.2 h)]
theorem parse_right {l : List UInt8} (h : (parseT l).2 = 0) : Right (parseT l).1 ∧ line (parseT l).1 = l := by
  have h2 : (readT l).2 = true := by
    cases e : (readT l).2 with
    | true => rfl
    | false => unfold parseT at h; rw [if_pos e] at h; simp at h
  obtain ⟨t, ht, rfl⟩ := read_form h2
  rw [form_parse ht] at h ⊢
  by_cases hv : valid t = 0
  · rw [if_pos hv]
    exact ⟨valid_zero.1 hv, rfl⟩
  · rw [if_neg hv] at h
    exact (hv h).elim
theorem parse_none {l : List UInt8} (h : (parseT l).2 ≠ 0) : (parseT l).1 = tz0 := by
  unfold parseT at h ⊢
  split
  · rfl
  · split
    · rfl
    · rename_i h1 h2
      rw [if_neg h1, if_neg h2] at h
      exact (h rfl).elim
end Go.Proofs.YtlldgibpajbabaaDoor
