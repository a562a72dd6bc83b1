/- What is proved: RecordMemory answers true for every transaction. -/
import Derived.Test.YtcmoejnljhmflabRMemA
namespace Go.Proofs.Ytcmoejnljhmflab
open Go.RowKit

theorem OwnO.txan {base : Nat} {w : World} {t : TxM} {a : Option Addr} {n cap : Nat} (e : n = t.ops.length) (o : OwnO base w (.slice a n cap) t.ops) : TxA w t (txV t (.slice a n cap)) := by
  subst e
  exact OwnO.txa o
/-- A block that is there, and stays. -/
theorem Same.stay {S : Nat → Prop} {w w1 : World} {b : Nat} {o : Obj} (hs : Same S w w1) (h : w.heap[b]? = some o) (hn : ¬ S b) : w1.heap[b]? = some o := (hs.block _ (lt_of_heap h) hn).trans h
theorem OwnO.addr {base : Nat} {w : World} {a : Option Addr} {n cap : Nat} {l : List OpM} (h : OwnO base w (.slice a n cap) l) (hp : 0 < l.length) : ∃ g, a = some ⟨g, 0, none⟩ := by
  rcases h.2 with ⟨_, h0⟩ | ⟨g, cap, cur, h', -⟩
  · omega
  · simp only [Value.slice.injEq] at h'
    exact ⟨g, h'.1⟩
theorem Same.setOp {S : Nat → Prop} {w w1 : World} {g i : Nat} (hs : Same S w w1) (hg : S g) (o : OpM) : Same S w ((((w1.setCell ⟨g, i * 4, none⟩ (.int .i64 o.kind)).setCell ⟨g, i * 4 + 1, none⟩ (.string o.key)).setCell ⟨g, i * 4 + 2, none⟩ (.bool o.found)).setCell ⟨g, i * 4 + 3, none⟩ (.string o.value)) :=
  (((hs.setCell ⟨g, i * 4, none⟩ (.inr hg) _).setCell ⟨g, i * 4 + 1, none⟩ (.inr hg) _).setCell ⟨g, i * 4 + 2, none⟩ (.inr hg) _).setCell ⟨g, i * 4 + 3, none⟩ (.inr hg) _
/-- What stands to the end of RecordMemory, while blocks of T are written. -/
def Fin (w : World) (t : TxM) (n L : Nat) (a : Option Addr) (c : Nat) (a2 : Option Addr) (c2 A gq cq : Nat) (a9 : Option Addr) (c9 A9 : Nat) (a10 : Option Addr) (c10 A10 : Nat) (W : World) : Prop :=
  Kept w W ∧ (∃ base, OwnB base W (.slice (some ⟨gq, 0, none⟩) L cq) (body t)) ∧
  W.heap[w.heap.size]? = some (.cells #[.int .i64 t.f0, .int .i64 t.f1, .int .i64 t.f2, .int .i64 t.f3, .int .i64 t.f4, .int .i64 t.f5, .int .i64 t.f6, .slice a n c] 27 (0, 0)) ∧ W.heap[A]? = some (.cells #[.int .i64 t.f0, .int .i64 t.f1, .int .i64 t.f2, .int .i64 t.f3, .int .i64 t.f4, .int .i64 t.f5, .int .i64 t.f6, .slice a2 n c2] 27 (0, 0)) ∧
  W.heap[A9]? = some (.cells #[.int .i64 t.f0, .int .i64 t.f1, .int .i64 t.f2, .int .i64 t.f3, .int .i64 t.f4, .int .i64 t.f5, .int .i64 t.f6, .slice a9 n c9] 27 (0, 0)) ∧ W.heap[A10]? = some (.cells #[.int .i64 t.f0, .int .i64 t.f1, .int .i64 t.f2, .int .i64 t.f3, .int .i64 t.f4, .int .i64 t.f5, .int .i64 t.f6, .slice a10 n c10] 27 (0, 0)) ∧
  (∃ base, OwnO base W (.slice a2 n c2) t.ops) ∧ (∃ base, OwnO base W (.slice a10 n c10) t.ops)
theorem Fin.on {w : World} {t : TxM} {n L : Nat} {a : Option Addr} {c : Nat} {a2 : Option Addr} {c2 A gq cq : Nat} {a9 : Option Addr} {c9 A9 : Nat} {a10 : Option Addr} {c10 A10 : Nat} {W W' : World} (h : Fin w t n L a c a2 c2 A gq cq a9 c9 A9 a10 c10 A10 W)
    {S : Nat → Prop} (s : Same S W W') (hS : ∀ k, S k → w.heap.size < k ∧ k ≠ A ∧ k ≠ A9 ∧ k ≠ A10 ∧ k ≠ gq ∧ (Value.slice a2 n c2).ownBlock ≠ some k ∧ (Value.slice a10 n c10).ownBlock ≠ some k) :
    Fin w t n L a c a2 c2 A gq cq a9 c9 A9 a10 c10 A10 W' := by
  obtain ⟨h0, ⟨b1, h1⟩, h2, h3, h4, h5, ⟨b6, h6⟩, b7, h7⟩ := h
  refine ⟨Same.trans h0 s (fun i hi e => by have := (hS i e).1; omega), ⟨b1, OwnB.kept h1 s ?_⟩, s.stay h2 (fun e => by have := (hS _ e).1; omega), s.stay h3 (fun e => (hS _ e).2.1 rfl), s.stay h4 (fun e => (hS _ e).2.2.1 rfl), s.stay h5 (fun e => (hS _ e).2.2.2.1 rfl), ⟨b6, OwnO.kept h6 s (fun k e1 e => (hS _ e).2.2.2.2.2.1 e1)⟩, b7, OwnO.kept h7 s (fun k e1 e => (hS _ e).2.2.2.2.2.2 e1)⟩
  intro k e1 e
  have := (hS _ e).2.2.2.2.1
  cases e1
  exact this rfl
set_option maxRecDepth 100000 in
set_option maxHeartbeats 1600000 in
theorem mem_no (w : World) (t : TxM) (a : Option Addr) (c : Nat) (h : ArgT w t a c) (hv : valid t ≠ 0) :
    Calls Try.prog 4 #[txV t (.slice a t.ops.length c)] w fun e w' => e = .returned (.bool true) ∧ Kept w w' := by
  have hnot : ∀ (x : Bool) (w : World), (Op.unary .not (.bool x)).run Try.prog w = .ok (.bool (!x)) w := fun _ _ => rfl
  have HA : Hid (∀ W, _) := fun W => anchor_any W
  have HV : Hid (∀ W, Kept w W → _) := fun W (k : Kept w W) => validR_any W t _ (h.on k).txa
  have hd : (valid t != 0) = true := by simpa using hv
  generalize valid t = z at HV hd
  obtain ⟨n, en⟩ : ∃ n, n = t.ops.length := ⟨_, rfl⟩
  rw [← en] at HV ⊢
  clear h hv en
  unfold txV at HV ⊢
  go_enter Try.func4, Try.ntmps4
  go_wp2_with fail
  refine Calls.mono (HA.out _) ?_
  rintro e w1 ⟨rfl, k1⟩
  have x1 := k1.stay (heap_new w _) (fun h => h)
  obtain ⟨⟨m0, m1, m2, m3, m4, m5, m6, m7⟩, -⟩ := tx_obj x1
  have K1 : Hid (Kept w w1) := ((Same.refl _ w).alloc _).trans' k1
  clear k1 x1
  go_wp2_with fail
  refine Calls.mono (HV.out _ K1.out) ?_
  rintro e w2 ⟨rfl, k2⟩
  have K2 : Hid (Kept w w2) := Same.trans' K1.out k2
  clear k2
  go_wp2_with fail
  go_ret
  exact ⟨rfl, K2.out⟩
set_option maxRecDepth 100000 in
set_option maxHeartbeats 1600000 in
theorem mem_ok (w : World) (t : TxM) (a : Option Addr) (c : Nat) (h : ArgT w t a c) (hr : Right t) :
    Calls Try.prog 4 #[txV t (.slice a t.ops.length c)] w fun e w' => e = .returned (.bool true) ∧ Kept w w' := by
  have hnot : ∀ (x : Bool) (w : World), (Op.unary .not (.bool x)).run Try.prog w = .ok (.bool (!x)) w := fun _ _ => rfl
  have HA : Hid (∀ W, _) := fun W => anchor_any W
  have HV : Hid (∀ W, Kept w W → _) := fun W (k : Kept w W) => validR_any W t _ (h.on k).txa
  have HC : Hid (∀ W, Kept w W → _) := fun W (k : Kept w W) => copy_any W t a c (h.on k)
  have HE : Hid (∀ W v, TxA W t v → _) := fun W v (q : TxA W t v) => encode_ok W t v q hr
  rw [valid_zero.2 hr] at HV
  obtain ⟨l1, l2⟩ := body_len hr
  have HS : Hid (∀ W va vb, TxA W t va → TxA W t vb → _) := fun W va vb ha hb => sameT W t va vb ha hb (by have := h.le; omega)
  have HSM : Hid (∀ (W : World) (a b : Option Addr) (ca cb : Nat), BytesAt W a (body t) → BytesAt W b (body t) → _) := fun W a b ca cb ha hb => same_true W a b ca cb (body t) ha hb (by omega)
  have HD : Hid (∀ base W v, OwnB base W v (body t) → _) := fun base W v (o : OwnB base W v (body t)) => decode_own_ok o (byts_body t) (by omega) (dec_body hr)
  have HB : Hid (∀ W, Kept w W → _) := fun W (k : Kept w W) => body_ref W t _ (h.on k).txa hr
  have HLT : Hid (∀ W (base g c : Nat), OwnB base W (.slice (some ⟨g, 0, none⟩) (body t).length c) (body t) → _) := fun W base g c (o : OwnB base W (.slice (some ⟨g, 0, none⟩) (body t).length c) (body t)) => app_lit (w := W) (c := c) (BytesAt.at_own o) (fun e => by cases e) (by omega)
  have HLP : Hid (0 < (body t).length) := by show 0 < (body t).length; omega
  obtain ⟨n, en⟩ : ∃ n, n = t.ops.length := ⟨_, rfl⟩
  have EN : Hid _ := en
  have hn16 : n ≤ 16 := by rw [en]; exact hr.2.1
  have HT : Hid (∀ W, Kept w W → TxA W t (txV t (.slice a n c))) := fun W k => by rw [en]; exact (h.on k).txa
  obtain ⟨L, eL⟩ : ∃ L, L = (body t).length := ⟨_, rfl⟩
  have EL : Hid _ := eL
  rw [← en] at HC HV HD HB ⊢
  rw [← eL] at HSM HLT l1 l2
  clear h hr en eL
  unfold txV at HC HV HD HB ⊢
  go_enter Try.func4, Try.ntmps4
  go_wp2_with fail
  refine Calls.mono (HA.out _) ?_
  rintro e w1 ⟨rfl, k1⟩
  have x1 := k1.stay (heap_new w _) (fun h => h)
  obtain ⟨⟨m0, m1, m2, m3, m4, m5, m6, m7⟩, -⟩ := tx_obj x1
  have K1 : Hid (Kept w w1) := ((Same.refl _ w).alloc _).trans' k1
  have X1 : Hid _ := x1
  clear k1 x1
  go_wp2_with fail
  refine Calls.mono (HV.out _ K1.out) ?_
  rintro e w2 ⟨rfl, k2⟩
  have x2 := k2.stay X1.out (fun h => h)
  clear m0 m1 m2 m3 m4 m5 m6 m7
  obtain ⟨⟨m0, m1, m2, m3, m4, m5, m6, m7⟩, -⟩ := tx_obj x2
  have K2 : Hid (Kept w w2) := Same.trans' K1.out k2
  have X2 : Hid _ := x2
  have z2 := lt_of_heap x2
  clear k2 x2 X1
  go_wp2_with fail
  refine Calls.mono (HC.out _ K2.out) ?_
  rintro e w3 ⟨a2, c2, rfl, o3, k3⟩
  have x3 := k3.stay X2.out (fun h => h)
  clear m0 m1 m2 m3 m4 m5 m6 m7
  obtain ⟨⟨m0, m1, m2, m3, m4, m5, m6, m7⟩, -⟩ := tx_obj x3
  have K3 : Hid (Kept w w3) := Same.trans' K2.out k3
  have O3 : Hid _ := o3
  have z3 : w.heap.size < w3.heap.size := lt_of_heap x3
  have X3 : Hid _ := x3
  have Z3 : Hid (w.heap.size < w2.heap.size) := z2
  clear o3 x3 X2 z2 k3
  go_wp2_with fail
  obtain ⟨A, eA⟩ : ∃ A, A = w3.heap.size := ⟨_, rfl⟩
  have TA3 : Hid (TxA w3 t (txV t (.slice a2 n c2))) := OwnO.txan EN.out O3.out
  refine Calls.mono (HE.out _ _ (TxA.on TA3.out ((Same.refl _ _).alloc _))) ?_
  rintro e w4 ⟨v4, rfl, o4, k4⟩
  obtain ⟨gp, cp, rfl, -⟩ := OwnB.addr o4 HLP.out
  rw [← EL.out] at o4 ⊢
  rw [World.size_alloc] at o4
  have bA4 := k4.stay (heap_new w3 _) (fun h => h)
  have x4 := k4.stay ((heap_old w3 _ z3).trans X3.out) (fun h => h)
  clear m0 m1 m2 m3 m4 m5 m6 m7
  obtain ⟨⟨m0, m1, m2, m3, m4, m5, m6, m7⟩, -⟩ := tx_obj bA4
  have K4 : Hid (Kept w w4) := (K3.out.alloc _).trans' k4
  have KA4 : Hid (Kept w3 w4) := ((Same.refl _ _).alloc _).trans' k4
  have P4 : Hid _ := o4
  have BA4 : Hid _ := bA4
  have X4 : Hid _ := x4
  clear o4 k4 bA4 x4
  go_wp2_with fail
  refine Calls.mono (HE.out _ _ (TxA.on TA3.out KA4.out)) ?_
  rintro e w5 ⟨v5, rfl, o5, k5⟩
  obtain ⟨gq, cq, rfl, -⟩ := OwnB.addr o5 HLP.out
  rw [← EL.out] at o5 ⊢
  have bA5 := k5.stay BA4.out (fun h => h)
  have x5 := k5.stay X4.out (fun h => h)
  clear m0 m1 m2 m3 m4 m5 m6 m7
  obtain ⟨⟨m0, m1, m2, m3, m4, m5, m6, m7⟩, -⟩ := tx_obj bA5
  obtain ⟨⟨q0, q1, q2, q3, q4, q5, q6, q7⟩, -⟩ := tx_obj x5
  have K5 : Hid (Kept w w5) := Same.trans' K4.out k5
  have KA5 : Hid (Kept w3 w5) := Same.trans' KA4.out k5
  have P5 : Hid _ := OwnB.kept P4.out k5 (fun _ _ h => h)
  have Q5 : Hid _ := o5
  have BA5 : Hid _ := bA5
  have X5 : Hid _ := x5
  have hgp := (OwnB.block P4.out rfl)
  have hgq := (OwnB.block Q5.out rfl)
  clear o5 k5 bA5 x5 X4 BA4
  go_wp2_with fail
  refine Calls.mono (HS.out _ _ _ (TxA.on TA3.out KA5.out) (HT.out _ K5.out)) ?_
  rintro e w6 ⟨rfl, k6⟩
  have P6 : Hid _ := OwnB.kept P5.out k6 (fun _ _ h => h)
  have Q6 : Hid _ := OwnB.kept Q5.out k6 (fun _ _ h => h)
  have BA6 : Hid _ := k6.stay BA5.out (fun h => h)
  have X6 : Hid _ := k6.stay X5.out (fun h => h)
  have K6 : Hid (Kept w w6) := Same.trans' K5.out k6
  have KA6 : Hid (Kept w3 w6) := Same.trans' KA5.out k6
  have z56 := k6.size
  have HS6 : Hid _ := HSM.out _ _ _ cp cq (BytesAt.at_own P6.out) (BytesAt.at_own Q6.out)
  have HL6 : Hid _ := HLT.out _ _ _ _ P6.out
  clear k6 m0 m1 m2 m3 m4 m5 m6 m7 q0 q1 q2 q3 q4 q5 q6 q7 BA5 X5 P5 Q5
  go_wp2_with fail
  refine Calls.mono HS6.out ?_
  rintro e w7 ⟨rfl, rfl⟩
  go_wp2_with (at_builtin; refine wpList_app rfl (.tmp 54) (.tmp 55) 29 29 rfl _ _ rfl rfl _ HL6.out ?_; rintro v8 w8 ⟨o8, k8⟩; obtain ⟨gb, cb, e8, -⟩ := OwnB.addr o8 HLP.out; subst e8)
  rw [← EL.out] at o8 ⊢
  have O8 : Hid _ := o8
  have hgb := (OwnB.block o8 rfl)
  have K8 : Hid (Kept w w8) := Same.trans' K6.out k8
  have P8 : Hid _ := OwnB.kept P6.out k8 (fun _ _ h => h)
  have Q8 : Hid _ := OwnB.kept Q6.out k8 (fun _ _ h => h)
  have BA8 : Hid _ := k8.stay BA6.out (fun h => h)
  have X8 : Hid _ := k8.stay X6.out (fun h => h)
  have O38 : Hid _ := OwnO.on (OwnO.on O3.out KA6.out) k8
  have z8 := k8.size
  have B3 : Hid (∀ k, (Value.slice a2 n c2).ownBlock = some k → w2.heap.size ≤ k ∧ k < w3.heap.size) := fun k hk => OwnO.block O3.out hk
  clear o8 k8 P6 Q6 BA6 X6 O3 HS6 HL6
  refine Calls.mono (HD.out _ _ _ O8.out) ?_
  rintro e w9 ⟨a9, c9, rfl, o9, k9⟩
  have O9 : Hid _ := o9
  have K9 : Hid (Kept w8 w9) := k9
  have z9 := k9.size
  clear o9 k9
  go_wp2_with fail
  refine Calls.mono (HD.out _ _ _ (OwnB.kept (OwnB.kept O8.out K9.out (fun _ _ h => h)) ((Same.refl (fun _ => False) _).alloc _) (fun _ _ h => h))) ?_
  rintro e w10 ⟨a10, c10, rfl, o10, k10⟩
  have O10 : Hid _ := o10
  have K10 : Hid (Kept _ w10) := k10
  have z10 := k10.size
  rw [World.size_alloc] at z10
  have x9 := k10.stay (heap_new w9 _) (fun h => h)
  have KB : Hid (Kept w8 w10) := (K9.out.alloc _).trans' k10
  clear o10 k10
  go_wp2_with fail
  have KA : Hid (Kept w8 (w10.alloc (.cells #[.int .i64 t.f0, .int .i64 t.f1, .int .i64 t.f2, .int .i64 t.f3, .int .i64 t.f4, .int .i64 t.f5, .int .i64 t.f6, .slice a10 n c10] 27 (0, 0)))) := KB.out.alloc _
  have F10 : Hid (Fin w t n L a c a2 c2 w3.heap.size gq cq a9 c9 w9.heap.size a10 c10 w10.heap.size (w10.alloc (.cells #[.int .i64 t.f0, .int .i64 t.f1, .int .i64 t.f2, .int .i64 t.f3, .int .i64 t.f4, .int .i64 t.f5, .int .i64 t.f6, .slice a10 n c10] 27 (0, 0)))) :=
    ⟨Same.trans' K8.out KA.out, ⟨_, OwnB.kept Q8.out KA.out (fun _ _ h => h)⟩, KA.out.stay X8.out (fun h => h), KA.out.stay BA8.out (fun h => h), ((Same.refl (fun _ => False) w10).alloc _).stay x9 (fun h => h), heap_new w10 _, ⟨_, OwnO.on O38.out KA.out⟩, ⟨_, OwnO.on O10.out ((Same.refl _ _).alloc _)⟩⟩
  have P10 : Hid (OwnB (w3.heap.size + 1) (w10.alloc (.cells #[.int .i64 t.f0, .int .i64 t.f1, .int .i64 t.f2, .int .i64 t.f3, .int .i64 t.f4, .int .i64 t.f5, .int .i64 t.f6, .slice a10 n c10] 27 (0, 0))) (.slice (some ⟨gp, 0, none⟩) L cp) (body t)) := OwnB.kept P8.out KA.out (fun _ _ h => h)
  have B10 : Hid (OwnB w7.heap.size (w10.alloc (.cells #[.int .i64 t.f0, .int .i64 t.f1, .int .i64 t.f2, .int .i64 t.f3, .int .i64 t.f4, .int .i64 t.f5, .int .i64 t.f6, .slice a10 n c10] 27 (0, 0))) (.slice (some ⟨gb, 0, none⟩) L cb) (body t)) := OwnB.kept O8.out KA.out (fun _ _ h => h)
  have O11 : Hid (OwnO w8.heap.size (w10.alloc (.cells #[.int .i64 t.f0, .int .i64 t.f1, .int .i64 t.f2, .int .i64 t.f3, .int .i64 t.f4, .int .i64 t.f5, .int .i64 t.f6, .slice a10 n c10] 27 (0, 0))) (.slice a9 n c9) t.ops) := OwnO.on O9.out ((((Same.refl _ _).alloc _).trans' K10.out).alloc _)
  have AP : Hid (∀ k, (k = gb ∨ k = gp ∨ (Value.slice a9 n c9).ownBlock = some k) → w.heap.size < k ∧ k ≠ w3.heap.size ∧ k ≠ w9.heap.size ∧ k ≠ w10.heap.size ∧ k ≠ gq ∧ (Value.slice a2 n c2).ownBlock ≠ some k ∧ (Value.slice a10 n c10).ownBlock ≠ some k) := fun k hk => by
    have b9 : ∀ k, (Value.slice a9 n c9).ownBlock = some k → w8.heap.size ≤ k ∧ k < w9.heap.size := fun k hk => OwnO.block O9.out hk
    have b10 : ∀ k, (Value.slice a10 n c10).ownBlock = some k → w9.heap.size + 1 ≤ k ∧ k < w10.heap.size := fun k hk => by
      have := OwnO.block O10.out hk
      rw [World.size_alloc] at this
      exact this
    have zz := Z3.out
    have hk2 : (w7.heap.size ≤ k ∧ k < w8.heap.size) ∨ (w3.heap.size + 1 ≤ k ∧ k < w4.heap.size) ∨ (w8.heap.size ≤ k ∧ k < w9.heap.size) := by
      rcases hk with e | e | e
      · exact .inl (e ▸ hgb)
      · exact .inr (.inl (e ▸ hgp))
      · exact .inr (.inr (b9 k e))
    refine ⟨by omega, by omega, by omega, by omega, by omega, fun e => ?_, fun e => ?_⟩
    · have := B3.out k e
      omega
    · have := b10 k e
      omega
  have NB : Hid (gp ≠ gb ∧ ∀ k, (Value.slice a9 n c9).ownBlock = some k → k ≠ gb ∧ k ≠ gp) := ⟨by omega, fun k e => by have := OwnO.block O9.out e; exact ⟨by omega, by omega⟩⟩
  clear K8 P8 Q8 BA8 X8 O38 O8 O9 K9 O10 K10 x9 KB KA B3
  refine Calls.mono (HSM.out _ _ _ cb cp (BytesAt.at_own B10.out) (BytesAt.at_own P10.out)) ?_
  rintro e w11 ⟨rfl, rfl⟩
  go_wp2_with fail
  generalize w10.alloc (.cells #[.int .i64 t.f0, .int .i64 t.f1, .int .i64 t.f2, .int .i64 t.f3, .int .i64 t.f4, .int .i64 t.f5, .int .i64 t.f6, .slice a10 n c10] 27 (0, 0)) = W10 at F10 P10 B10 O11 ⊢
  go_loopw [83] (fun i wr => ∃ (j : Nat) (l : List Int), j ≤ L ∧ i = .int .i64 j ∧ l.length = L ∧ OwnB w7.heap.size wr (.slice (some ⟨gb, 0, none⟩) L cb) l ∧ Same (fun k => k = gb) W10 wr) (fun i _ => L - (intOf i).toNat)
  case atStart => exact ⟨0, body t, Nat.zero_le _, rfl, EL.out.symm, B10.out, Same.refl _ _⟩
  case round =>
    obtain ⟨j, l, hj, rfl, hl, hr, hs⟩ := hrel
    by_cases hlt : j < L
    · have c1' : decide ((j : Int) < (L : Int)) = true := decide_eq_true (by omega)
      have hlt2 : (j : Int) < (L : Int) := by omega
      obtain ⟨x, q0⟩ := OwnB.slot hr (i := j) (by omega)
      obtain ⟨oo, f1, -⟩ := OwnB.set hr (i := j) (by omega) 255
      have O1 : Hid _ := oo
      have S1 : Hid (Same (fun k => k = gb) W10 (wr.setCell ⟨gb, j, none⟩ (.int .u8 255))) := hs.setCell _ (.inr rfl) _
      have hl2 : Hid ((l.set j 255).length = L) := List.length_set.trans hl
      clear hr hs oo hl
      go_wp2_with fail
      go_roundw
      case rel => exact ⟨j + 1, _, hlt, by simp, hl2.out, O1.out, S1.out⟩
      case measure => simp only [intOf]; omega
    · have c1' : decide ((j : Int) < (L : Int)) = false := decide_eq_false (by omega)
      have F11 : Hid (Fin w t n L a c a2 c2 w3.heap.size gq cq a9 c9 w9.heap.size a10 c10 w10.heap.size wr) := Fin.on F10.out hs (fun k e => AP.out k (.inl e))
      have P11 : Hid (OwnB (w3.heap.size + 1) wr (.slice (some ⟨gp, 0, none⟩) L cp) (body t)) := OwnB.kept P10.out hs (fun k e e2 => by cases e; exact NB.out.1 e2)
      have O12 : Hid (OwnO w8.heap.size wr (.slice a9 n c9) t.ops) := OwnO.kept O11.out hs (fun k e e2 => (NB.out.2 k e).1 e2)
      have z11 : w8.heap.size ≤ wr.heap.size := by have := hs.size; have := (lt_of_heap F10.out.2.2.2.2.2.1); omega
      clear hr hs hl F10 P10 B10 O11
      rename World => W11
      go_wp2_with fail
      clear hlt hj c1'
      go_loopw [92] (fun i wr => ∃ (j : Nat) (l : List Int), j ≤ L ∧ i = .int .i64 j ∧ l.length = L ∧ OwnB (w3.heap.size + 1) wr (.slice (some ⟨gp, 0, none⟩) L cp) l ∧ Same (fun k => k = gp) W11 wr) (fun i _ => L - (intOf i).toNat)
      case atStart => exact ⟨0, body t, Nat.zero_le _, rfl, EL.out.symm, P11.out, Same.refl _ _⟩
      case round =>
        obtain ⟨j, l, hj, rfl, hl, hr, hs⟩ := hrel
        by_cases hlt : j < L
        · have c1' : decide ((j : Int) < (L : Int)) = true := decide_eq_true (by omega)
          have hlt2 : (j : Int) < (L : Int) := by omega
          obtain ⟨x, q0⟩ := OwnB.slot hr (i := j) (by omega)
          obtain ⟨oo, f1, -⟩ := OwnB.set hr (i := j) (by omega) 17
          have O1 : Hid _ := oo
          have S1 : Hid (Same (fun k => k = gp) W11 (wr.setCell ⟨gp, j, none⟩ (.int .u8 17))) := hs.setCell _ (.inr rfl) _
          have hl2 : Hid ((l.set j 17).length = L) := List.length_set.trans hl
          clear hr hs oo hl
          go_wp2_with fail
          go_roundw
          case rel => exact ⟨j + 1, _, hlt, by simp, hl2.out, O1.out, S1.out⟩
          case measure => simp only [intOf]; omega
        · have c1' : decide ((j : Int) < (L : Int)) = false := decide_eq_false (by omega)
          have F12 : Hid (Fin w t n L a c a2 c2 w3.heap.size gq cq a9 c9 w9.heap.size a10 c10 w10.heap.size wr) := Fin.on F11.out hs (fun k e => AP.out k (.inr (.inl e)))
          have O13 : Hid (OwnO w8.heap.size wr (.slice a9 n c9) t.ops) := OwnO.kept O12.out hs (fun k e e2 => (NB.out.2 k e).2 e2)
          have z12 : w8.heap.size ≤ wr.heap.size := Nat.le_trans z11 hs.size
          obtain ⟨⟨m0, m1, m2, m3, m4, m5, m6, m7⟩, -⟩ := tx_obj F12.out.2.2.2.2.1
          clear hr hs hl F11 P11 O12
          rename World => W12
          go_wp2_with fail
          clear hlt hj c1' m0 m1 m2 m3 m4 m5 m6 m7
          go_loopw [102] (fun i wr => ∃ (j : Nat) (l : List OpM), j ≤ n ∧ i = .int .i64 j ∧ l.length = n ∧ OwnO w8.heap.size wr (.slice a9 n c9) l ∧ Same (fun k => (Value.slice a9 n c9).ownBlock = some k) W12 wr) (fun i _ => n - (intOf i).toNat)
          case atStart => exact ⟨0, t.ops, Nat.zero_le _, rfl, EN.out.symm, O13.out, Same.refl _ _⟩
          case round =>
            obtain ⟨j, l, hj, rfl, hl, hr, hs⟩ := hrel
            have F13 : Hid (Fin w t n L a c a2 c2 w3.heap.size gq cq a9 c9 w9.heap.size a10 c10 w10.heap.size wr) := Fin.on F12.out hs (fun k e => AP.out k (.inr (.inr e)))
            obtain ⟨⟨m0, m1, m2, m3, m4, m5, m6, m7⟩, -⟩ := tx_obj F13.out.2.2.2.2.1
            have z13 : w8.heap.size ≤ wr.heap.size := Nat.le_trans z12 hs.size
            by_cases hlt : j < n
            · have c1' : decide ((j : Int) < (n : Int)) = true := decide_eq_true (by omega)
              have hlt2 : (j : Int) < (n : Int) := by omega
              obtain ⟨ga, rfl⟩ := OwnO.addr hr (by omega)
              obtain ⟨oo, ⟨v0, v1, v2, v3, q0, q1, q2, q3⟩, f0, f1, f2, f3⟩ := OwnO.set hr (i := j) (by omega) ⟨99, ⟨#[]⟩, false, ⟨#[]⟩⟩
              have O1 : Hid _ := oo
              have S1 : Hid _ := Same.setOp (i := j) hs (g := ga) rfl ⟨99, ⟨#[]⟩, false, ⟨#[]⟩⟩
              have hl2 : Hid ((l.set j ⟨99, ⟨#[]⟩, false, ⟨#[]⟩⟩).length = n) := List.length_set.trans hl
              clear hr hs oo hl
              go_wp2_with fail
              go_roundw
              case rel => exact ⟨j + 1, _, hlt, by simp, hl2.out, O1.out, S1.out⟩
              case measure => simp only [intOf]; omega
            · have c1' : decide ((j : Int) < (n : Int)) = false := decide_eq_false (by omega)
              have ej : j = n := by omega
              have HAP : Hid (∀ ty : TypeId, _) := fun ty : TypeId => app_op_one ⟨98, ⟨#[]⟩, false, ⟨#[]⟩⟩ hr (by omega) z13 ty
              have HLN : Hid (l.length = n) := hl
              clear hr hs hl F12 O13 ej
              rename World => W13
              go_wp2_with (at_builtin; refine wpList_app rfl (.tmp 112) (.tmp 114) 25 25 rfl _ _ rfl rfl _ HAP.out ?_; rintro v14 w14 ⟨o14, s14, -⟩; obtain ⟨a14, c14, e14, -⟩ := OwnO.ops o14; rw [List.length_append, HLN.out] at e14; subst e14; have F14 : Hid (Fin w t n L a c a2 c2 w3.heap.size gq cq a9 c9 w9.heap.size a10 c10 w10.heap.size w14) := Fin.on F13.out s14 (fun k e => AP.out k (.inr (.inr e))); obtain ⟨⟨y0, y1, y2, y3, y4, y5, y6, y7⟩, -⟩ := tx_obj F14.out.2.2.1; clear o14 s14)
              refine Calls.mono (HB.out _ F14.out.1) ?_
              rintro e w15 ⟨v15, rfl, o15, k15⟩
              obtain ⟨gz, cz, rfl, -⟩ := OwnB.addr o15 HLP.out
              rw [← EL.out] at o15 ⊢
              have F15 : Hid (Fin w t n L a c a2 c2 w3.heap.size gq cq a9 c9 w9.heap.size a10 c10 w10.heap.size w15) := Fin.on F14.out k15 (fun _ h => h.elim)
              obtain ⟨bq, oq⟩ := F15.out.2.1
              have HSQ : Hid _ := HSM.out _ _ _ cq cz (BytesAt.at_own oq) (BytesAt.at_own o15)
              clear m0 m1 m2 m3 m4 m5 m6 m7 y0 y1 y2 y3 y4 y5 y6 y7 o15 k15 oq F14 F13
              go_wp2_with fail
              refine Calls.mono HSQ.out ?_
              rintro e w16 ⟨rfl, rfl⟩
              obtain ⟨⟨m0, m1, m2, m3, m4, m5, m6, m7⟩, -⟩ := tx_obj F15.out.2.2.2.2.2.1
              obtain ⟨⟨y0, y1, y2, y3, y4, y5, y6, y7⟩, -⟩ := tx_obj F15.out.2.2.1
              obtain ⟨b7, o7⟩ := F15.out.2.2.2.2.2.2.2
              have TB : Hid _ := OwnO.txan EN.out o7
              clear o7
              unfold txV at TB HT
              go_wp2_with fail
              refine Calls.mono (HS.out _ _ _ TB.out (HT.out _ F15.out.1)) ?_
              rintro e w17 ⟨rfl, k17⟩
              have F17 : Hid (Fin w t n L a c a2 c2 w3.heap.size gq cq a9 c9 w9.heap.size a10 c10 w10.heap.size w17) := Fin.on F15.out k17 (fun _ h => h.elim)
              clear m0 m1 m2 m3 m4 m5 m6 m7 y0 y1 y2 y3 y4 y5 y6 y7 k17 TB HSQ F15
              obtain ⟨⟨m0, m1, m2, m3, m4, m5, m6, m7⟩, -⟩ := tx_obj F17.out.2.2.2.1
              obtain ⟨⟨y0, y1, y2, y3, y4, y5, y6, y7⟩, -⟩ := tx_obj F17.out.2.2.1
              obtain ⟨b6, o6⟩ := F17.out.2.2.2.2.2.2.1
              have TC : Hid _ := OwnO.txan EN.out o6
              clear o6
              unfold txV at TC
              go_wp2_with fail
              refine Calls.mono (HS.out _ _ _ TC.out (HT.out _ F17.out.1)) ?_
              rintro e w18 ⟨rfl, k18⟩
              have F18 : Hid (Fin w t n L a c a2 c2 w3.heap.size gq cq a9 c9 w9.heap.size a10 c10 w10.heap.size w18) := Fin.on F17.out k18 (fun _ h => h.elim)
              clear m0 m1 m2 m3 m4 m5 m6 m7 y0 y1 y2 y3 y4 y5 y6 y7 k18 TC F17
              obtain ⟨⟨y0, y1, y2, y3, y4, y5, y6, y7⟩, -⟩ := tx_obj F18.out.2.2.1
              go_wp2_with fail
              go_ret
              exact ⟨rfl, F18.out.1⟩
end Go.Proofs.Ytcmoejnljhmflab
