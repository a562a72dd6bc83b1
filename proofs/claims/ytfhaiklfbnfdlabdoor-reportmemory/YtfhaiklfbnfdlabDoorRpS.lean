/- What is proved: the law ReportMemory answers true; in any program with this text, its list lies in memory. -/
import Derived.Test.YtfhaiklfbnfdlabDoorRpI
import Derived.Test.YtfhaiklfbnfdlabDoorRpC
import Derived.Test.YtfhaiklfbnfdlabDoorRoX
import Derived.Test.YtfhaiklfbnfdlabDoorRoO
import Derived.Test.YtfhaiklfbnfdlabDoorRoT
import Derived.Deep.WholeRow
namespace Go.Proofs.YtfhaiklfbnfdlabDoor
open Go.RowKit

/-- What the law keeps of the first j elements. -/
def kq (l : List Vi.Vl) (j : Nat) : List Vi.Vl := ((l.take j).filter Vi.okV).take 100
theorem kq_len (l : List Vi.Vl) (j : Nat) : (kq l j).length ≤ 100 := by
  unfold kq
  rw [List.length_take]
  omega
theorem kq_no {l : List Vi.Vl} {j : Nat} {x : Vi.Vl} (hx : l[j]? = some x) (h : Vi.okV x = false) : kq l (j + 1) = kq l j := by
  unfold kq
  rw [take_x hx, List.filter_append]
  simp [h]
theorem kq_full {l : List Vi.Vl} {j : Nat} {x : Vi.Vl} (hx : l[j]? = some x) (hf : ¬ (kq l j).length < 100) : kq l (j + 1) = kq l j := by
  unfold kq at hf ⊢
  rw [List.length_take] at hf
  rw [take_x hx, List.filter_append, List.take_append_of_le_length (by omega)]
theorem kq_yes {l : List Vi.Vl} {j : Nat} {x : Vi.Vl} (hx : l[j]? = some x) (h : Vi.okV x = true) (hf : (kq l j).length < 100) : kq l (j + 1) = kq l j ++ [x] := by
  unfold kq at hf ⊢
  rw [List.length_take] at hf
  rw [take_x hx, List.filter_append, List.take_of_length_le (l := (l.take j).filter Vi.okV) (by omega)]
  have e : [x].filter Vi.okV = [x] := by simp [h]
  rw [e, List.take_of_length_le (by rw [List.length_append]; simp; omega)]
theorem kq_ok (l : List Vi.Vl) (j : Nat) : ∀ x ∈ kq l j, Vi.okV x = true := fun x hx => by
  unfold kq at hx
  have := List.mem_of_mem_take hx
  exact (List.mem_filter.1 this).2
/-- The outcome that the law makes. -/
abbrev oM (ls : List Vi.Vl) : OuM := ⟨9, 0, 0, 0, 200, ls⟩
theorem oM_ok {K : List Vi.Vl} (h : ∀ x ∈ K, Vi.okV x = true) (hn : K.length ≤ 100) : okO (oM (Vi.srt Vi.ltV K)) = true := by
  rw [okO_P]
  refine ⟨?_, srt_allV h, srt_srd K⟩
  have h3 := Vi.srt_len Vi.ltV K
  unfold OkP
  dsimp only at *
  omega
/-- A mark. -/
def mkV (n : Int) : Vi.Vl := ⟨n, 0, 0, 0, 0, ByteArray.empty, false, ByteArray.empty, false, ByteArray.empty, 0, 0⟩
theorem outL_leS {o : OuM} (h : okO o = true) : (outL o).length ≤ 6500000 := by
  obtain ⟨r0, r1, r2, r3, r4, r5, r6, r7, -⟩ := okO_iff h
  rw [← outR_eq]
  unfold outR
  have h1 := numL_le20 (p := [10, 99, 111, 100, 101, 32]) (n := o.cd) (by decide) r1.1 (by omega)
  have h2 := numL_le20 (p := [10, 111, 102, 102, 115, 101, 116, 32]) (n := o.of) (by decide) r2.1 (by omega)
  have h3 := numL_le20 (p := [10, 116, 120, 110, 115, 32]) (n := o.tn) (by decide) r3.1 (by omega)
  have h4 := numL_le20 (p := [10, 116, 111, 116, 97, 108, 32]) (n := o.tt) (by decide) r4.1 r4.2
  have h5 := numL_le20 (p := [10, 115, 104, 111, 119, 110, 32]) (n := (o.ls.length : Int)) (by decide) (by omega) (by omega)
  have h6 := vios_le r7
  have h7 := oWord_le o.kd
  have h8 : headB.length ≤ 20 := by decide
  have h9 : footB.length ≤ 20 := by decide
  have g : ∀ (b : Bool) (l : List UInt8), (if b = true then l else []).length ≤ l.length := fun b l => by cases b <;> simp
  have g1 := g (hc o.kd) (numL [10, 99, 111, 100, 101, 32] o.cd)
  have g2 := g (ho o.kd) (numL [10, 111, 102, 102, 115, 101, 116, 32] o.of)
  have g3 := g (ht o.kd) (numL [10, 116, 120, 110, 115, 32] o.tn)
  have g4 := g (hl o.kd) (numL [10, 116, 111, 116, 97, 108, 32] o.tt ++ numL [10, 115, 104, 111, 119, 110, 32] (o.ls.length : Int))
  have g5 : (numL [10, 116, 111, 116, 97, 108, 32] o.tt ++ numL [10, 115, 104, 111, 119, 110, 32] (o.ls.length : Int)).length = (numL [10, 116, 111, 116, 97, 108, 32] o.tt).length + (numL [10, 115, 104, 111, 119, 110, 32] (o.ls.length : Int)).length := List.length_append
  simp only [List.length_append, List.length_cons, List.length_nil] at *
  omega
/-- What the law asks of a program, called in a world. -/
structure Am2 (P : Program) (k : Nat) (enc : Vi.Vl → List Value) (w : World) : Prop where
  mixed : P.follows .mixedOrders = true
  E : Vi.Ek enc k
  fM : P.funcs[3]? = some Tryd.f3
  eA : ∀ (args : Array Value) (w : World), Sem.run P (callFunc 4 args) w = .ok (.enter 4 args) w
  eV : ∀ (args : Array Value) (w : World), Sem.run P (callFunc 5 args) w = .ok (.enter 5 args) w
  eS : ∀ (args : Array Value) (w : World), Sem.run P (callFunc 6 args) w = .ok (.enter 6 args) w
  eT : ∀ (args : Array Value) (w : World), Sem.run P (callFunc 7 args) w = .ok (.enter 7 args) w
  eP : ∀ (args : Array Value) (w : World), Sem.run P (callFunc 8 args) w = .ok (.enter 8 args) w
  anc : ∀ W, Kept w W → Calls P 4 #[] W fun e w' => e = .returned (.bool true) ∧ Kept W w'
  val : ∀ (x : Vi.Vl) (W : World), Calls P 5 #[.agg (enc x).toArray] W fun e w' => e = .returned (.bool (Vi.okV x)) ∧ Kept W w'
  rso : ∀ (W : World) (a : Option Addr) (cap : Nat) (l : List Vi.Vl), Vi.At enc k W a l → l.length ≤ cap → (a = none → l.length = 0 ∧ cap = 0) → l.length ≤ 1172812402961 → Calls P 6 #[.slice a l.length cap] W fun e w' => ∃ v, e = .returned v ∧ Vi.Own enc k 25 W.heap.size w' v (Vi.srt Vi.ltV l) ∧ Kept W w'
  txt : ∀ (W : World) (o : OuM) (a : Option Addr) (cap : Nat), okO o = true → Vi.At enc k W a o.ls → Calls P 7 #[ouV o (.slice a o.ls.length cap)] W fun e w' => ∃ v', e = .returned v' ∧ (convert 28 9 v').run P w' = .ok (tx (outL o)) w' ∧ Kept W w'
  par : ∀ (W : World) (o : OuM), Kept w W → okO o = true → Calls P 8 #[tx (outL o)] W fun e w' => ∃ a' c', e = .returned (.tuple #[ouV o (.slice a' o.ls.length c'), .int .i64 0]) ∧ Vi.Own enc k 25 W.heap.size w' (.slice a' o.ls.length c') o.ls ∧ Kept W w'
  eqv : ∀ (x : Vi.Vl) (W : World), (binOp .neq 25 (.agg (enc x).toArray) (.agg (enc x).toArray)).run P W = .ok (.bool false) W
  eqg : ∀ (i j : Nat) (x : Vi.Vl) (W : World), Sem.run P (eqGuard .neq 25 (.tmp i) (.tmp j) (.agg (enc x).toArray) (.agg (enc x).toArray)) W = .ok () W
  eqi : ∀ (x : Vi.Vl) (W : World), Sem.run P (Op.equalIn 10000 25 (.agg (enc x).toArray) (.agg (enc x).toArray)) W = .ok true W
  kd : ∀ x : Vi.Vl, (enc x)[0]? = some (.int .i64 x.kd)
  tB : P.underlying 28 = Tryd.prog.underlying 28
  aB : ∀ w, Sem.run P (isAgg 28) w = .ok false w
  zB : ∀ w, Sem.run P (Go.sizeOf 28) w = .ok 1 w
  t41 : P.underlying 25 = Tryd.prog.underlying 25
  t3 : P.underlying 3 = some (TypeDesc.int IntKind.i64)
  t4 : P.underlying 4 = some TypeDesc.bool
  t9 : P.underlying 9 = some TypeDesc.string
  t22 : P.underlying 30 = Tryd.prog.underlying 30
  t23 : P.underlying 22 = some (TypeDesc.slice 25)
  t25 : P.underlying 32 = Tryd.prog.underlying 32
  a3 : ∀ w, Sem.run P (isAgg 3) w = .ok false w
  a4 : ∀ w, Sem.run P (isAgg 4) w = .ok false w
  a9 : ∀ w, Sem.run P (isAgg 9) w = .ok false w
  a22 : ∀ w, Sem.run P (isAgg 30) w = .ok false w
  a23 : ∀ w, Sem.run P (isAgg 22) w = .ok false w
  a25 : ∀ w, Sem.run P (isAgg 32) w = .ok true w
  a41 : ∀ w, Sem.run P (isAgg 25) w = .ok true w
  z3 : ∀ w, Sem.run P (Go.sizeOf 3) w = .ok 1 w
  z4 : ∀ w, Sem.run P (Go.sizeOf 4) w = .ok 1 w
  z9 : ∀ w, Sem.run P (Go.sizeOf 9) w = .ok 1 w
  z22 : ∀ w, Sem.run P (Go.sizeOf 30) w = .ok 1 w
  z23 : ∀ w, Sem.run P (Go.sizeOf 22) w = .ok 1 w
  z25 : ∀ w, Sem.run P (Go.sizeOf 32) w = .ok 6 w
  z41 : ∀ w, Sem.run P (Go.sizeOf 25) w = .ok k w
  v23 : ∀ w, Sem.run P (zeroValue 22) w = .ok (.slice none 0 0) w
  v41 : ∃ zl : List Value, zl.length = k ∧ (∀ w, Sem.run P (zeroValue 25) w = .ok (.agg zl.toArray) w) ∧ ∀ n : Int, zl.set 0 (.int .i64 n) = enc (mkV n)
  v25 : ∀ w, Sem.run P (zeroValue 32) w = .ok (.agg ouz) w
  i25 : (P.info? 32).map (·.size) = some 6
  hk : k ≤ 1000
  i41 : ∃ z bytes, (P.info? 25).map (fun i => (i.zero, i.size, i.bytes)) = some (some z, k, bytes) ∧ z.cells.size = k ∧ bytes ≤ 120
theorem own_kept {enc : Vi.Vl → List Value} {k : Nat} {w W W' : World} {v : Value} {l : List Vi.Vl} (h : Kept w W) (o : Vi.Own enc k 25 w.heap.size W v l) (s : Same (fun b => v.ownBlock = some b) W W') : Kept w W' := ((h.to _).trans' s).mono fun _ hb e => absurd hb (Nat.not_lt.2 (o.block e).1)
theorem fold_gen (l : List Value) : ∀ (n : Nat) (A : Array Value), n + l.length ≤ A.size → (l.zipIdx n).foldl (fun cs x => cs.setIfInBounds x.snd x.fst) A = (A.toList.take n ++ l ++ A.toList.drop (n + l.length)).toArray := by
  induction l with
  | nil =>
    intro n A h
    simp
  | cons x l ih =>
    intro n A h
    simp only [List.length_cons] at h
    rw [List.zipIdx_cons, List.foldl_cons, ih (n + 1) _ (by simp; omega)]
    apply congrArg List.toArray
    have hn : n < A.toList.length := by simp; omega
    simp only [Array.toList_setIfInBounds]
    rw [List.take_set, List.drop_set, if_pos (by omega), List.take_add_one, List.getElem?_eq_getElem hn]
    have e : (A.toList.take n ++ (some A.toList[n]).toList).set n x = A.toList.take n ++ [x] := by
      rw [List.set_append_right _ _ (by rw [List.length_take]; omega), List.length_take, Nat.min_eq_left (by omega), Nat.sub_self]
      rfl
    rw [e, List.append_assoc, List.append_assoc, List.append_assoc, List.length_cons, show n + 1 + l.length = n + (l.length + 1) by omega]
    rfl
theorem fold_off (l : List Value) (off : Nat) : ∀ (n : Nat) (A : Array Value), (l.zipIdx n).foldl (fun cs x => cs.setIfInBounds (off + x.snd) x.fst) A = (l.zipIdx (off + n)).foldl (fun cs x => cs.setIfInBounds x.snd x.fst) A := by
  induction l with
  | nil => intro n A; rfl
  | cons x l ih =>
    intro n A
    rw [List.zipIdx_cons, List.foldl_cons, List.zipIdx_cons, List.foldl_cons, ih]
    rfl
/-- Two parts of k cells, one behind the other. -/
theorem fold_two (k : Nat) (c d : List Value) (Z : Array Value) (hc : c.length = k) (hd : d.length = k) (hz : Z.size = 2 * k) : d.zipIdx.foldl (fun cs x => cs.setIfInBounds (k + x.snd) x.fst) (c.zipIdx.foldl (fun cs x => cs.setIfInBounds x.snd x.fst) Z) = (c ++ d).toArray := by
  have e1 : c.zipIdx.foldl (fun cs x => cs.setIfInBounds x.snd x.fst) Z = (c ++ Z.toList.drop k).toArray := by
    rw [fold_gen _ _ _ (by omega), List.take_zero, List.nil_append, Nat.zero_add, hc]
  have hs : (c ++ Z.toList.drop k).length = 2 * k := by
    have : Z.toList.length = 2 * k := by rw [Array.length_toList, hz]
    rw [List.length_append, List.length_drop]
    omega
  rw [e1, fold_off, fold_gen _ _ _ (by rw [List.size_toArray, hs]; omega)]
  apply congrArg List.toArray
  rw [Nat.add_zero, List.take_left' hc, List.drop_of_length_le (by rw [hs]; omega), List.append_nil]
theorem fold_two_size (k : Nat) (c : List Value) (Z : Array Value) (hc : c.length = k) (hz : Z.size = 2 * k) : ¬ (c.zipIdx.foldl (fun cs x => cs.setIfInBounds x.snd x.fst) Z).size < k + k := by
  have : Z.toList.length = 2 * k := by rw [Array.length_toList, hz]
  rw [fold_gen _ _ _ (by omega), List.size_toArray, List.take_zero, List.nil_append, List.length_append, List.length_drop]
  omega
theorem at_apart {enc : Vi.Vl → List Value} {k : Nat} {w1 w2 w' : World} {Sx : Nat → Prop} {a : Option Addr} {l : List Vi.Vl} (h1 : Vi.At enc k w1 a l) (h2 : Vi.At enc k w2 a l) (hs : Same Sx w2 w') (hS : ∀ b, Sx b → w1.heap.size ≤ b) : Vi.At enc k w' a l := fun j x hx => by
  obtain ⟨b, o, e, hb, -⟩ := h1 j x hx
  refine (h2.kept hs fun b' o' e' _ hs' => ?_) j x hx
  rw [e] at e'
  cases e'
  exact absurd hb (Nat.not_lt.2 (hS _ hs'))
abbrev ouM (v : Value) : Obj := ouO (.int .i64 9) (.int .i64 0) (.int .i64 0) (.int .i64 0) (.int .i64 200) v
/-- Behind the two parsings: the list kept, the answers a and b; a's list holds L by now. -/
structure Mq (enc : Vi.Vl → List Value) (k : Nat) (w w3 : World) (base2 : Nat) (sa pa pb : Option Addr) (ns qa qb : Nat) (S : List Vi.Vl) (g7 g9 : Nat) (L : List Vi.Vl) (X : World) : Prop where
  kp : Kept w X
  sl : Vi.At enc k X sa S
  oa : Vi.Own enc k 25 w3.heap.size X (.slice pa ns qa) L
  ob : Vi.Own enc k 25 base2 X (.slice pb ns qb) S
  b7 : X.heap[g7]? = some (ouM (.slice pa ns qa))
  b9 : X.heap[g9]? = some (ouM (.slice pb ns qb))
  a3 : Vi.At enc k w3 sa S
  lo : w.heap.size ≤ w3.heap.size
  sz : w3.heap.size ≤ X.heap.size
  na : ∀ b, (Value.slice pa ns qa).ownBlock = some b → b < base2 ∧ b ≠ g7 ∧ b ≠ g9
theorem Mq.off {enc : Vi.Vl → List Value} {k : Nat} {w w3 : World} {base2 : Nat} {sa pa pb : Option Addr} {ns qa qb : Nat} {S : List Vi.Vl} {g7 g9 : Nat} {L : List Vi.Vl} {X X' : World} (h : Mq enc k w w3 base2 sa pa pb ns qa qb S g7 g9 L X) (s : Same (fun b => (Value.slice pa ns qa).ownBlock = some b) X X') : Kept w X' ∧ Vi.At enc k X' sa S ∧ Vi.Own enc k 25 base2 X' (.slice pb ns qb) S ∧ X'.heap[g7]? = some (ouM (.slice pa ns qa)) ∧ X'.heap[g9]? = some (ouM (.slice pb ns qb)) :=
  have hb : ∀ b, (Value.slice pa ns qa).ownBlock = some b → w3.heap.size ≤ b := fun _ e => (h.oa.block e).1
  ⟨((h.kp.to _).trans' s).mono fun _ hl e => absurd hl (Nat.not_lt.2 (Nat.le_trans h.lo (hb _ e))), at_apart h.a3 h.sl s hb, h.ob.kept s fun _ e e' => absurd (h.na _ e').1 (Nat.not_lt.2 (h.ob.block e).1), (s.block _ (lt_of_heap h.b7) fun e => (h.na _ e).2.1 rfl).trans h.b7, (s.block _ (lt_of_heap h.b9) fun e => (h.na _ e).2.2 rfl).trans h.b9⟩
theorem Mq.step {enc : Vi.Vl → List Value} {k : Nat} {w w3 : World} {base2 : Nat} {sa pa pb : Option Addr} {ns qa qb : Nat} {S : List Vi.Vl} {g7 g9 : Nat} {L L' : List Vi.Vl} {X X' : World} (h : Mq enc k w w3 base2 sa pa pb ns qa qb S g7 g9 L X) (o : Vi.Own enc k 25 w3.heap.size X' (.slice pa ns qa) L') (s : Same (fun b => (Value.slice pa ns qa).ownBlock = some b) X X') : Mq enc k w w3 base2 sa pa pb ns qa qb S g7 g9 L' X' := by
  obtain ⟨h1, h2, h3, h4, h5⟩ := h.off s
  exact ⟨h1, h2, o, h3, h4, h5, h.a3, h.lo, Nat.le_trans h.sz s.size, h.na⟩
theorem Mq.on {enc : Vi.Vl → List Value} {k : Nat} {w w3 : World} {base2 : Nat} {sa pa pb : Option Addr} {ns qa qb : Nat} {S : List Vi.Vl} {g7 g9 : Nat} {L : List Vi.Vl} {X X' : World} (h : Mq enc k w w3 base2 sa pa pb ns qa qb S g7 g9 L X) (s : Kept X X') : Mq enc k w w3 base2 sa pa pb ns qa qb S g7 g9 L X' := h.step (h.oa.on s) (s.to _)
set_option maxRecDepth 100000 in
set_option maxHeartbeats 6400000 in
theorem memory22_p {P : Program} {k : Nat} {enc : Vi.Vl → List Value} (w : World) (AM : Am2 P k enc w) (a : Option Addr) (cap : Nat) (l : List Vi.Vl) (h : Vi.At enc k w a l) (hlen : l.length ≤ 1172812402961) :
    Calls P 3 #[.slice a l.length cap] w fun e w' => e = .returned (.bool true) ∧ Kept w w' := by
  obtain ⟨mixed, E, fM, eA, eV, eS, eT, eP, anc, val, rso, txt, par, eqv, eqg, eqi, kd, tB, aB, zB, t41, t3, t4, t9, t22, t23, t25, a3, a4, a9, a22, a23, a25, a41, z3, z4, z9, z22, z23, z25, z41, v23, ⟨zl, hzl, v41, bld⟩, v25, i25, hkm, zz, bytes, i41, hzz, hby⟩ := AM
  have t22 := t22.trans Tryd.underlying30
  have t25 := t25.trans Tryd.underlying32
  have tB := tB.trans Tryd.underlying28
  have t41 := t41.trans Tryd.underlying25
  have uB := run_underlying tB
  have u41 := run_underlying t41
  unfold ouz at v25
  have u22 := run_underlying t22
  have u23 := run_underlying t23
  have u25 := run_underlying t25
  have EE : Hid (Vi.Ek enc k) := E
  have HI41 : Hid ((P.info? 25).map (·.size) = some k) := by
    obtain ⟨i0, hi0, -, hz1, -⟩ := info_parts i41
    have : (P.info? 25).map (·.size) = some k := by rw [hi0]; simpa using hz1
    exact this
  have hz0 : 0 < zl.length := by rw [hzl]; exact E.pos
  have hz1 : ¬ zl.length = 0 := by omega
  have hz2 : ¬ zl = [] := fun e => hz1 (by rw [e]; rfl)
  have hk0 : ¬ k = 0 := by have := E.pos; omega
  have hkm' : ¬ 16777216 < k := by omega
  have HK1 : Hid (k ≤ 1000 ∧ 0 < k) := ⟨hkm, E.pos⟩
  have HAN : Hid (∀ W, Kept w W → _) := anc
  have HVA : Hid (∀ (x : Vi.Vl) (W : World), _) := val
  have HRO : Hid (∀ (W : World) (a : Option Addr) (cap : Nat) (l : List Vi.Vl), Vi.At enc k W a l → l.length ≤ cap → (a = none → l.length = 0 ∧ cap = 0) → l.length ≤ 1172812402961 → _) := rso
  have HTX : Hid (∀ (W : World) (o : OuM) (a : Option Addr) (cap : Nat), okO o = true → Vi.At enc k W a o.ls → _) := txt
  have HPA : Hid (∀ (W : World) (o : OuM), Kept w W → okO o = true → _) := par
  have HEQ : Hid (∀ (x : Vi.Vl) (W : World), _) := eqv
  have HEG : Hid (∀ (i j : Nat) (x : Vi.Vl) (W : World), _) := eqg
  have HEI : Hid (∀ (x : Vi.Vl) (W : World), _) := eqi
  have KD : Hid (∀ x : Vi.Vl, (enc x)[0]? = some (.int .i64 x.kd)) := kd
  have BLD : Hid (∀ n : Int, zl.set 0 (.int .i64 n) = enc (mkV n)) := bld
  have HAP : Hid (∀ (W : World) (v : Value) (xs : List Vi.Vl) (g : Nat) (y : Vi.Vl), Vi.Own enc k 25 w.heap.size W v xs → W.heap[g]? = some (.cells (enc y).toArray 25 (0, 0)) → xs.length ≤ 10000 → w.heap.size ≤ W.heap.size → ∀ ty, ∃ v' w', (Builtin.append_ #[22, 22] ty #[v, .slice (some ⟨g, 0, none⟩) 1 1]).run P W = .ok v' w' ∧ (Vi.Own enc k 25 w.heap.size w' v' (xs ++ [y]) ∧ Same (fun k => v.ownBlock = some k) W w' ∧ ∀ k, v'.ownBlock = some k → v.ownBlock = some k ∨ W.heap.size ≤ k)) := fun W v xs g y h1 h2 h3 h4 ty =>
    Vi.Own.app (ys := [y]) E t23 i41 hzz h1 (Vi.vrow_p h2) (by simp) (by have : ((xs.length + [y].length) + (xs.length + [y].length) / 4 + 192) * bytes ≤ 20000 * 120 := Nat.mul_le_mul (by simp only [List.length_cons, List.length_nil]; omega) hby; omega) (by simp only [List.length_cons, List.length_nil]; unfold maxLen; omega) h4
  have HST : Hid (∀ (W : World) (v0 v1 v2 v3 v4 v5 : Value), v0.oneCell' = true → v1.oneCell' = true → v2.oneCell' = true → v3.oneCell' = true → v4.oneCell' = true → v5.oneCell' = true → (storeCells ⟨W.heap.size, 0, none⟩ [v0, v1, v2, v3, v4, v5]).run P (W.alloc (.cells #[.int .i64 0, .int .i64 0, .int .i64 0, .int .i64 0, .int .i64 0, .slice none 0 0] 32)) = .ok () (W.alloc (ouO v0 v1 v2 v3 v4 v5))) := fun W v0 v1 v2 v3 v4 v5 h0 h1 h2 h3 h4 h5 => by
    have := run_storeCells_new (P := P) W 32 #[.int .i64 0, .int .i64 0, .int .i64 0, .int .i64 0, .int .i64 0, .slice none 0 0] #[v0, v1, v2, v3, v4, v5] (by rw [i25]; rfl) (by rfl) (by simp [h0, h1, h2, h3, h4, h5])
    simpa using this
  have HL : Hid (Vi.At enc k w a l) := h
  obtain ⟨n, en⟩ : ∃ n, n = l.length := ⟨_, rfl⟩
  rw [← en] at hlen ⊢
  have EN : Hid (n = l.length) := en
  have hni : (n : Int) ≤ 1172812402961 := by omega
  clear anc val rso txt par eqv eqg eqi kd bld h en E i25
  go_enter fM, Tryd.ntmps3
  go_wp2_with fail
  refine Calls.mono (HAN.out _ (Same.refl _ w)) ?_
  rintro r w1 ⟨rfl, k1⟩
  have K1 : Hid (Kept w w1) := k1
  clear k1 HAN
  go_wp2_with fail
  go_loopw [21, 3] (fun i u wr => ∃ j : Nat, i = .int .i64 (j : Int) ∧ j ≤ n ∧ Vi.Own enc k 25 w.heap.size wr u (kq l j) ∧ Kept w wr) (fun i _ _ => n - (intOf i).toNat)
  case atStart => exact ⟨0, rfl, Nat.zero_le _, Vi.Own.nil _ _ _ _ _, K1.out⟩
  case round =>
    obtain ⟨j, rfl, hj, oj, kj⟩ := hrel
    rename World => WL
    have HJ : Hid (Vi.Own enc k 25 w.heap.size WL u3 (kq l j) ∧ Kept w WL) := ⟨oj, kj⟩
    clear oj kj K1
    by_cases hlt : j < n
    · have e1 : decide ((j : Int) < (n : Int)) = true := decide_eq_true (by omega)
      have e1' : (j : Int) < (n : Int) := by omega
      have hj1 : (j : Int) + 1 ≤ 9223372036854775807 := by omega
      obtain ⟨x, hx⟩ : ∃ x, l[j]? = some x := ⟨_, List.getElem?_eq_getElem (by rw [← show n = _ from EN.out]; exact hlt)⟩
      have HX : Hid (l[j]? = some x) := hx
      obtain ⟨ba, oa, rfl, hba, -⟩ := HL.out j x hx
      have lx := (HL.out.on HJ.out.2).load0 EE.out hx P
      have hbL : ba < WL.heap.size := Nat.lt_of_lt_of_le hba HJ.out.2.size
      obtain ⟨cx, ecx⟩ : ∃ cx, cx = enc x := ⟨_, rfl⟩
      have ECX : Hid (cx = enc x) := ecx
      have hcxk : cx.length = k := by rw [ecx]; exact EE.out.len x
      rw [← ecx] at lx
      have HNW : Hid ((WL.alloc (.cells cx.toArray 25)).heap[WL.heap.size]? = some (.cells cx.toArray 25 (0, 0))) := heap_new _ _
      have KB : Hid (Kept WL (WL.alloc (.cells cx.toArray 25))) := (Same.refl _ WL).alloc _
      have hst : (storeCells ⟨WL.heap.size, 0, none⟩ cx).run P (WL.alloc (.cells zl.toArray 25)) = .ok () (WL.alloc (.cells cx.toArray 25)) := by
        have := run_storeCells_new (P := P) WL 25 zl.toArray cx.toArray (by rw [HI41.out]; simp [hcxk]) (by simp [hcxk, hzl]) (by
          rw [List.all_toArray, List.all_eq_true, ecx]
          exact fun v hv => EE.out.one x v hv)
        simpa using this
      clear hx ecx hba
      go_upto_region 7 with fail
      generalize WL.alloc (.cells cx.toArray 25) = W4 at HNW KB ⊢
      generalize WL.heap.size = gx at HNW hbL ⊢
      clear lx hst hbL
      have H4 : Hid (Vi.Own enc k 25 w.heap.size W4 u3 (kq l j) ∧ Kept w W4) := ⟨HJ.out.1.on KB.out, HJ.out.2.trans' KB.out⟩
      have hgx : gx < W4.heap.size := lt_of_heap HNW.out
      have lbx : Sem.run P (loadCellsFrom ⟨gx, 0, none⟩ 0 k #[]) W4 = .ok cx.toArray W4 := by
        have := Vi.At.load0 EE.out (Vi.vrow_p (enc := enc) (k := k) (x := x) (by rw [← show cx = _ from ECX.out]; exact HNW.out)) (i := 0) rfl P
        rw [← show cx = _ from ECX.out] at this
        simpa using this
      obtain ⟨ak, ck, eu, -, -, -⟩ := H4.out.1.shape
      obtain ⟨m, em⟩ : ∃ m, m = (kq l j).length := ⟨_, rfl⟩
      rw [← em] at eu
      subst eu
      have EM : Hid (m = (kq l j).length) := em
      have hm : m ≤ 100 := by rw [em]; exact kq_len l j
      have HV1 : Hid _ := HVA.out x W4
      rw [← show cx = _ from ECX.out] at HV1
      clear em HJ KB
      cases hok : Vi.okV x with
      | false =>
        have HX2 : Hid (kq l (j + 1) = kq l j) := kq_no HX.out hok
        rw [hok] at HV1
        clear hok
        go_wp2_with fail
        refine Calls.mono HV1.out ?_
        rintro r W5 ⟨rfl, k5⟩
        have K5 : Hid (Kept W4 W5) := k5
        clear HV1 k5 lbx hgx
        go_wp2_with fail
        go_roundw
        case rel => exact ⟨j + 1, by simp, hlt, by rw [HX2.out]; exact H4.out.1.on K5.out, H4.out.2.trans' K5.out⟩
        case measure => simp only [intOf]; omega
      | true =>
        rw [hok] at HV1
        by_cases hf : m < 100
        · have hfi : (m : Int) < 100 := by omega
          have HX2 : Hid (kq l (j + 1) = kq l j ++ [x]) := kq_yes HX.out hok (by rw [← show m = _ from EM.out]; exact hf)
          have hfd : decide ((m : Int) < 100) = true := decide_eq_true hfi
          clear hok hf hm
          go_wp2_with fail
          refine Calls.mono HV1.out ?_
          rintro r W5 ⟨rfl, k5⟩
          have H5 : Hid (Vi.Own enc k 25 w.heap.size W5 (.slice ak m ck) (kq l j) ∧ Kept w W5) := ⟨H4.out.1.on k5, H4.out.2.trans' k5⟩
          have HB5 : Hid (W5.heap[gx]? = some (.cells cx.toArray 25 (0, 0))) := (k5.block _ (lt_of_heap HNW.out) (fun e => e)).trans HNW.out
          clear HV1 k5 lbx hgx HNW H4
          have hgx : gx < W5.heap.size := lt_of_heap HB5.out
          have lbx : Sem.run P (loadCellsFrom ⟨gx, 0, none⟩ 0 k #[]) W5 = .ok cx.toArray W5 := by
            have := Vi.At.load0 EE.out (Vi.vrow_p (enc := enc) (k := k) (x := x) (by rw [← show cx = _ from ECX.out]; exact HB5.out)) (i := 0) rfl P
            rw [← show cx = _ from ECX.out] at this
            simpa using this
          have hfx := fun (A : Array Value) (h : A.size = k) => Vi.fold_all cx A (h.trans hcxk.symm)
          have KA : Hid (Kept W5 (W5.alloc (.cells cx.toArray 25))) := (Same.refl _ W5).alloc _
          have HA : Hid (∀ ty, _) := HAP.out (W5.alloc (.cells cx.toArray 25)) (.slice ak m ck) (kq l j) W5.heap.size x (H5.out.1.on KA.out) (by rw [← show cx = _ from ECX.out]; exact heap_new _ _) (Nat.le_trans (kq_len l j) (by decide)) (Nat.le_trans H5.out.2.size KA.out.size)
          go_wp2_with (at_builtin; refine wpList_app rfl (.tmp 32) (.tmp 34) 22 22 rfl (.slice ak m ck) (.slice (some ⟨W5.heap.size, 0, none⟩) 1 1) rfl rfl _ HA.out ?_; rintro v6 W6 ⟨o6, s6, -⟩; have R : Hid _ := And.intro o6 s6; clear o6 s6)
          go_roundw
          case rel => exact ⟨j + 1, by simp, hlt, by rw [HX2.out]; exact R.out.1, own_kept (H5.out.2.trans' KA.out) (H5.out.1.on KA.out) R.out.2⟩
          case measure => simp only [intOf]; omega
        · have hfi : ¬ (m : Int) < 100 := by omega
          have HX2 : Hid (kq l (j + 1) = kq l j) := kq_full HX.out (by rw [← show m = _ from EM.out]; exact hf)
          have hfd : decide ((m : Int) < 100) = false := decide_eq_false hfi
          clear hok hf hm
          go_wp2_with fail
          refine Calls.mono HV1.out ?_
          rintro r W5 ⟨rfl, k5⟩
          have K5 : Hid (Kept W4 W5) := k5
          clear HV1 k5 lbx hgx
          go_wp2_with fail
          go_roundw
          case rel => exact ⟨j + 1, by simp, hlt, by rw [HX2.out]; exact H4.out.1.on K5.out, H4.out.2.trans' K5.out⟩
          case measure => simp only [intOf]; omega
    · obtain rfl : n = j := by omega
      have e1 : decide ((n : Int) < (n : Int)) = false := decide_eq_false (by omega)
      have e1' : ¬ (n : Int) < (n : Int) := by omega
      obtain ⟨ak, ck, rfl, hck, hnk, -⟩ := HJ.out.1.shape
      have HS1 : Hid _ := HRO.out WL ak ck (kq l n) (HJ.out.1.at EE.out) hck (fun e => by have := hnk e; exact ⟨by rw [this.1]; rfl, this.2⟩) (by have := kq_len l n; omega)
      have HOK : Hid (okO (oM (Vi.srt Vi.ltV (kq l n))) = true) := oM_ok (kq_ok l n) (kq_len l n)
      have hSL : (Vi.srt Vi.ltV (kq l n)).length ≤ 100 := by rw [Vi.srt_len]; exact kq_len l n
      have KW : Hid (Kept w WL) := HJ.out.2
      generalize Vi.srt Vi.ltV (kq l n) = S at HS1 HOK hSL
      generalize (kq l n).length = nk at HS1 ⊢
      clear hck hnk HJ HVA HRO
      go_wp2_with fail
      refine Calls.mono HS1.out ?_
      rintro r w2 ⟨u, rfl, o2, k2⟩
      obtain ⟨sa, sc, rfl, hsc, hns, -⟩ := o2.shape
      have HT1 : Hid (∀ W b c, Vi.At enc k W b S → _) := fun W b c x => HTX.out W (oM S) b c HOK.out x
      have HP1 : Hid (∀ W, Kept w W → _) := fun W x => HPA.out W (oM S) x HOK.out
      unfold ouV at HT1 HP1
      dsimp only at HT1 HP1
      generalize outL (oM S) = OL at HT1 HP1
      obtain ⟨ns, ens⟩ : ∃ ns, ns = S.length := ⟨_, rfl⟩
      have ENS : Hid (ns = S.length) := ens
      rw [← ens] at HT1 HP1 hSL ⊢
      have SS : Hid (Vi.At enc k w2 sa S ∧ Kept w w2) := ⟨o2.at EE.out, KW.out.trans' k2⟩
      clear HS1 HTX HPA HOK o2 k2 hsc hns ens KW
      go_wp2_with fail
      refine Calls.mono (HT1.out w2 sa sc SS.out.1) ?_
      rintro r w3 ⟨v3, rfl, hcv, k3⟩
      have S3 : Hid (Vi.At enc k w3 sa S ∧ Kept w w3) := ⟨SS.out.1.on k3, SS.out.2.trans' k3⟩
      clear k3 SS HT1
      go_wp2_with fail
      refine Calls.mono (HP1.out w3 S3.out.2) ?_
      rintro r w4 ⟨pa, qa, rfl, oa, k4⟩
      have hst := HST.out w4 (.int .i64 9) (.int .i64 0) (.int .i64 0) (.int .i64 0) (.int .i64 200) (.slice pa ns qa) rfl rfl rfl rfl rfl rfl
      have B7 : Hid ((w4.alloc (ouM (.slice pa ns qa))).heap[w4.heap.size]? = some (ouM (.slice pa ns qa))) := heap_new _ _
      have k7 : Kept w4 (w4.alloc (ouM (.slice pa ns qa))) := (Same.refl _ w4).alloc _
      have S7 : Hid (Kept w (w4.alloc (ouM (.slice pa ns qa))) ∧ Vi.At enc k (w4.alloc (ouM (.slice pa ns qa))) sa S ∧ Vi.Own enc k 25 w3.heap.size (w4.alloc (ouM (.slice pa ns qa))) (.slice pa ns qa) S ∧ (∀ b, (Value.slice pa ns qa).ownBlock = some b → b < w4.heap.size) ∧ w3.heap.size ≤ (w4.alloc (ouM (.slice pa ns qa))).heap.size) := ⟨S3.out.2.trans' (k4.trans' k7), S3.out.1.on (k4.trans' k7), oa.on k7, fun b e => by obtain ⟨-, cur, hc⟩ := oa.block e; exact lt_of_heap hc, Nat.le_trans k4.size k7.size⟩
      clear k7 k4 oa
      go_upto_region 13 with fail
      generalize w4.alloc (ouM (.slice pa ns qa)) = W7 at B7 S7 ⊢
      generalize w4.heap.size = g7 at B7 S7 ⊢
      clear hst
      go_wp2_with fail
      refine Calls.mono (HP1.out W7 S7.out.1) ?_
      rintro r w5 ⟨pb, qb, rfl, ob, k5⟩
      have hst := HST.out w5 (.int .i64 9) (.int .i64 0) (.int .i64 0) (.int .i64 0) (.int .i64 200) (.slice pb ns qb) rfl rfl rfl rfl rfl rfl
      have k9 : Kept w5 (w5.alloc (ouM (.slice pb ns qb))) := (Same.refl _ w5).alloc _
      have M9 : Hid (Mq enc k w w3 W7.heap.size sa pa pb ns qa qb S g7 w5.heap.size S (w5.alloc (ouM (.slice pb ns qb)))) := ⟨S7.out.1.trans' (k5.trans' k9), S7.out.2.1.on (k5.trans' k9), S7.out.2.2.1.on (k5.trans' k9), ob.on k9, ((k5.trans' k9).block _ (lt_of_heap B7.out) (fun e => e)).trans B7.out, heap_new _ _, S3.out.1, S3.out.2.size, Nat.le_trans S7.out.2.2.2.2 (k5.trans' k9).size, fun b e => by have h1 := S7.out.2.2.2.1 b e; have h2 := lt_of_heap B7.out; have h3 := k5.size; exact ⟨by omega, by omega, by omega⟩⟩
      clear k9 k5 ob B7 S7 S3
      go_upto_region 14 with fail
      generalize w5.alloc (ouM (.slice pb ns qb)) = W9 at M9 ⊢
      generalize w5.heap.size = g9 at M9 ⊢
      generalize W7.heap.size = base2 at M9
      clear hst
      obtain ⟨c0, c1, c2, c3, c4, c5⟩ := ou_obj M9.out.b7
      have l7 := lt_of_heap M9.out.b7
      go_wp2_with fail
      clear c0 c1 c2 c3 c4 c5 l7
      go_loopw [70] (fun i wr => ∃ (j : Nat) (L : List Vi.Vl), i = .int .i64 (j : Int) ∧ j ≤ ns ∧ L.length = ns ∧ Mq enc k w w3 base2 sa pa pb ns qa qb S g7 g9 L wr ∧ ∀ (t : Nat) x, t < j → L[t]? = some x → x.kd = 44) (fun i _ => ns - (intOf i).toNat)
      case atStart => exact ⟨0, S, rfl, Nat.zero_le _, ENS.out.symm, M9.out, fun t x h => absurd h (Nat.not_lt_zero _)⟩
      case round =>
        obtain ⟨j, L, rfl, hj, hL, hM, mk⟩ := hrel
        rename World => WM
        have HM : Hid (L.length = ns ∧ Mq enc k w w3 base2 sa pa pb ns qa qb S g7 g9 L WM ∧ ∀ (t : Nat) x, t < j → L[t]? = some x → x.kd = 44) := ⟨hL, hM, mk⟩
        clear hL hM mk M9
        obtain ⟨c0, c1, c2, c3, c4, c5⟩ := ou_obj HM.out.2.1.b7
        have l7 := lt_of_heap HM.out.2.1.b7
        clear c0 c1 c2 c3 c4
        by_cases hjn : j < ns
        · have d1 : (j : Int) < (ns : Int) := by omega
          have d1d : decide ((j : Int) < (ns : Int)) = true := decide_eq_true d1
          have d2 : (j : Int) + 1 ≤ 9223372036854775807 := by omega
          have o1 := HM.out.2.1.oa
          have hji : j < L.length := by rw [HM.out.1]; exact hjn
          obtain ⟨a', c', ev, -, hnn, hgg⟩ := o1.shape
          simp only [Value.slice.injEq] at ev
          obtain ⟨rfl, -, rfl⟩ := ev
          cases pa with
          | none => exact absurd (hnn rfl).1 (by intro e; rw [e] at hji; simp at hji)
          | some ad =>
          obtain ⟨g, rfl, hgb, hgs⟩ := hgg ad rfl
          obtain ⟨hst, o2, s2⟩ := Vi.Own.put EE.out o1 hji (mkV 44) P
          have hst' : (storeCells ⟨g, j * k, none⟩ (zl.set 0 (.int .i64 44))).run P WM = .ok () (WM.setCells g (j * k) (zl.set 0 (.int .i64 44))) := by rw [BLD.out]; exact hst
          have hlen' : (zl.set 0 (.int .i64 44)).length = k := by rw [List.length_set]; exact hzl
          rw [← BLD.out] at o2 s2
          have HO : Hid (Mq enc k w w3 base2 sa (some ⟨g, 0, none⟩) pb ns qa qb S g7 g9 (L.set j (mkV 44)) (WM.setCells g (j * k) (zl.set 0 (.int .i64 44)))) := HM.out.2.1.step o2 (s2.mono fun b _ e => by subst e; rfl)
          clear o1 hst hnn hgg o2 s2
          go_wp2_with fail
          go_roundw
          case rel =>
            refine ⟨j + 1, L.set j (mkV 44), by simp, hjn, by rw [List.length_set]; exact HM.out.1, HO.out, fun t x ht hx => ?_⟩
            rw [List.getElem?_set] at hx
            split at hx
            · cases hx
              rfl
            · exact HM.out.2.2 t x (by omega) hx
          case measure => simp only [intOf]; omega
        · obtain rfl : j = ns := by omega
          have d1 : ¬ (j : Int) < (j : Int) := by omega
          have d1d : decide ((j : Int) < (j : Int)) = false := decide_eq_false d1
          obtain ⟨c45, e45⟩ : ∃ c, c = enc (mkV 45) := ⟨_, rfl⟩
          have E45 : Hid (c45 = enc (mkV 45)) := e45
          have b45 : zl.set 0 (.int .i64 45) = c45 := by rw [e45]; exact BLD.out 45
          have l45 : c45.length = k := by rw [e45]; exact EE.out.len _
          have hf2 : c45.zipIdx.foldl (fun cs x => cs.setIfInBounds (k + x.snd) x.fst) (c45.zipIdx.foldl (fun cs x => cs.setIfInBounds x.snd x.fst) (Array.map (fun x => zl[x % k]?.getD default) (Array.range (2 * k)))) = (c45 ++ c45).toArray := fold_two k c45 c45 _ l45 l45 (by simp)
          have hf3 : ¬ (c45.zipIdx.foldl (fun cs x => cs.setIfInBounds x.snd x.fst) (Array.map (fun x => zl[x % k]?.getD default) (Array.range (2 * k)))).size < k + k := fold_two_size k c45 _ l45 (by simp)
          have KA : Hid (Kept WM (WM.alloc (.cells (c45 ++ c45).toArray 25 (0, 0)))) := (Same.refl _ WM).alloc _
          have HA2 : Hid (Vi.At enc k (WM.alloc (.cells (c45 ++ c45).toArray 25 (0, 0))) (some ⟨WM.heap.size, 0, none⟩) [mkV 45, mkV 45]) := by
            have o : Vi.Own enc k 25 WM.heap.size (WM.alloc (.cells (c45 ++ c45).toArray 25 (0, 0))) (.slice (some ⟨WM.heap.size, 0, none⟩) 2 2) [mkV 45, mkV 45] := by
              have hfl : Vi.fl enc [mkV 45, mkV 45] = c45 ++ c45 := by
                show enc (mkV 45) ++ (enc (mkV 45) ++ []) = _
                rw [List.append_nil, e45]
              refine ⟨by rw [hfl, List.length_append, l45]; show k + k = 2 * k; omega, .inr ⟨WM.heap.size, 2, _, rfl, Nat.le_refl _, heap_new WM _, Nat.le_refl _, by decide, ?_, ?_⟩⟩
              · rw [List.size_toArray, List.length_append, l45]; omega
              · rw [hfl, List.take_of_length_le (by show (c45 ++ c45).length ≤ _; rw [List.length_append, l45]; show k + k ≤ 2 * k; omega)]
            exact o.at EE.out
          have HAP2 : Hid (∀ ty, _) := fun ty => Vi.Own.app (ys := [mkV 45, mkV 45]) (c := 2) (ty := ty) EE.out t23 i41 hzz (HM.out.2.1.oa.on KA.out) HA2.out (by simp) (by rw [HM.out.1]; have : ((j + [mkV 45, mkV 45].length) + (j + [mkV 45, mkV 45].length) / 4 + 192) * bytes ≤ 2000 * 120 := Nat.mul_le_mul (by show j + 2 + (j + 2) / 4 + 192 ≤ 2000; omega) hby; omega) (by rw [HM.out.1]; show j + 2 ≤ _; unfold maxLen; omega) (Nat.le_trans HM.out.2.1.sz KA.out.size)
          clear e45
          go_wp2_with (at_builtin; refine wpList_app rfl (.tmp 80) (.tmp 83) 22 22 rfl (.slice pa j qa) (.slice (some ⟨WM.heap.size, 0, none⟩) 2 2) rfl rfl _ HAP2.out ?_; rintro v6 w6 ⟨o6, s6, -⟩; obtain ⟨pc, qc, e6, -, -, -⟩ := o6.shape; rw [show (L ++ [mkV 45, mkV 45]).length = j + 2 by rw [List.length_append, HM.out.1]; rfl] at e6; subst e6; have N6 : Hid _ := And.intro o6 ((HM.out.2.1.on KA.out).off s6); clear o6 s6 KA HAP2 HA2 hf2 hf3 b45 c5 l7)
          refine Calls.mono (HP1.out w6 N6.out.2.1) ?_
          rintro r w7 ⟨pd, qd, rfl, od, k7⟩
          have hst := HST.out w7 (.int .i64 9) (.int .i64 0) (.int .i64 0) (.int .i64 0) (.int .i64 200) (.slice pd j qd) rfl rfl rfl rfl rfl rfl
          have k8 : Kept w7 (w7.alloc (ouM (.slice pd j qd))) := (Same.refl _ w7).alloc _
          have N8 : Hid (Kept w (w7.alloc (ouM (.slice pd j qd))) ∧ Vi.At enc k (w7.alloc (ouM (.slice pd j qd))) sa S ∧ Vi.At enc k (w7.alloc (ouM (.slice pd j qd))) pb S ∧ Vi.At enc k (w7.alloc (ouM (.slice pd j qd))) pd S ∧ Vi.At enc k (w7.alloc (ouM (.slice pd j qd))) pc (L ++ [mkV 45, mkV 45]) ∧ (w7.alloc (ouM (.slice pd j qd))).heap[g9]? = some (ouM (.slice pb j qb)) ∧ (w7.alloc (ouM (.slice pd j qd))).heap[w7.heap.size]? = some (ouM (.slice pd j qd))) := ⟨N6.out.2.1.trans' (k7.trans' k8), N6.out.2.2.1.on (k7.trans' k8), (N6.out.2.2.2.1.at EE.out).on (k7.trans' k8), (od.at EE.out).on k8, (N6.out.1.at EE.out).on (k7.trans' k8), ((k7.trans' k8).block _ (lt_of_heap N6.out.2.2.2.2.2) (fun e => e)).trans N6.out.2.2.2.2.2, heap_new _ _⟩
          have HML : Hid (L.length = j ∧ ∀ (t : Nat) x, t < j → L[t]? = some x → x.kd = 44) := ⟨HM.out.1, HM.out.2.2⟩
          clear k8 k7 od N6 HM HP1
          go_upto_region 23 with fail
          generalize w7.alloc (ouM (.slice pd j qd)) = W8 at N8 ⊢
          generalize w7.heap.size = g13 at N8 ⊢
          clear hst
          obtain ⟨c0, c1, c2, c3, c4, c5⟩ := ou_obj N8.out.2.2.2.2.2.1
          have l9 := lt_of_heap N8.out.2.2.2.2.2.1
          obtain ⟨q0, q1, q2, q3, q4, q5⟩ := ou_obj N8.out.2.2.2.2.2.2
          have l13 := lt_of_heap N8.out.2.2.2.2.2.2
          clear c0 c1 c2 c3 c4 q0 q1 q2 q3 q4
          go_wp2_with fail
          clear c5 l9 q5 l13
          go_loopw [110] (fun i wr => ∃ t : Nat, i = .int .i64 (t : Int) ∧ t ≤ j ∧ Kept W8 wr) (fun i _ => j - (intOf i).toNat)
          case atStart => exact ⟨0, rfl, Nat.zero_le _, Same.refl _ _⟩
          case round =>
            obtain ⟨t, rfl, ht, kt⟩ := hrel
            rename World => WR
            have N9 : Hid (Kept w WR ∧ Vi.At enc k WR sa S ∧ Vi.At enc k WR pb S ∧ Vi.At enc k WR pd S ∧ Vi.At enc k WR pc (L ++ [mkV 45, mkV 45]) ∧ WR.heap[g9]? = some (ouM (.slice pb j qb)) ∧ WR.heap[g13]? = some (ouM (.slice pd j qd))) := ⟨N8.out.1.trans' kt, N8.out.2.1.on kt, N8.out.2.2.1.on kt, N8.out.2.2.2.1.on kt, N8.out.2.2.2.2.1.on kt, (kt.block _ (lt_of_heap N8.out.2.2.2.2.2.1) (fun e => e)).trans N8.out.2.2.2.2.2.1, (kt.block _ (lt_of_heap N8.out.2.2.2.2.2.2) (fun e => e)).trans N8.out.2.2.2.2.2.2⟩
            have KT : Hid (Kept W8 WR) := kt
            clear kt N8
            by_cases htj : t < j
            · have f1 : (t : Int) < (j : Int) := by omega
              have f1d : decide ((t : Int) < (j : Int)) = true := decide_eq_true f1
              have f2 : (t : Int) + 1 ≤ 9223372036854775807 := by omega
              obtain ⟨x, hx⟩ : ∃ x, S[t]? = some x := ⟨_, List.getElem?_eq_getElem (by rw [← show j = _ from ENS.out]; exact htj)⟩
              obtain ⟨ba, oa, rfl, hba, -⟩ := N9.out.2.1 t x hx
              have lx := N9.out.2.1.load0 EE.out hx P
              have HX : Hid (S[t]? = some x) := hx
              obtain ⟨cx, ecx⟩ : ∃ cx, cx = enc x := ⟨_, rfl⟩
              have ECX : Hid (cx = enc x) := ecx
              have hcxk : cx.length = k := by rw [ecx]; exact EE.out.len x
              rw [← ecx] at lx
              have hst : (storeCells ⟨WR.heap.size, 0, none⟩ cx).run P (WR.alloc (.cells zl.toArray 25)) = .ok () (WR.alloc (.cells cx.toArray 25)) := by
                have := run_storeCells_new (P := P) WR 25 zl.toArray cx.toArray (by rw [HI41.out]; simp [hcxk]) (by simp [hcxk, hzl]) (by
                  rw [List.all_toArray, List.all_eq_true, ecx]
                  exact fun v hv => EE.out.one x v hv)
                simpa using this
              have KB : Hid (Kept WR (WR.alloc (.cells cx.toArray 25)) ∧ (WR.alloc (.cells cx.toArray 25)).heap[WR.heap.size]? = some (.cells cx.toArray 25 (0, 0))) := ⟨(Same.refl _ WR).alloc _, heap_new _ _⟩
              clear hx ecx hba
              go_upto_region 28 with fail
              generalize WR.alloc (.cells cx.toArray 25) = WB at KB ⊢
              generalize WR.heap.size = gx at KB ⊢
              clear lx hst
              have NB : Hid (Vi.At enc k WB pb S ∧ Vi.At enc k WB pd S ∧ Vi.At enc k WB pc (L ++ [mkV 45, mkV 45]) ∧ WB.heap[g9]? = some (ouM (.slice pb j qb)) ∧ WB.heap[g13]? = some (ouM (.slice pd j qd))) := ⟨N9.out.2.2.1.on KB.out.1, N9.out.2.2.2.1.on KB.out.1, N9.out.2.2.2.2.1.on KB.out.1, (KB.out.1.block _ (lt_of_heap N9.out.2.2.2.2.2.1) (fun e => e)).trans N9.out.2.2.2.2.2.1, (KB.out.1.block _ (lt_of_heap N9.out.2.2.2.2.2.2) (fun e => e)).trans N9.out.2.2.2.2.2.2⟩
              obtain ⟨bb, ob, rfl, -, -⟩ := NB.out.1 t x HX.out
              obtain ⟨bd, od, rfl, -, -⟩ := NB.out.2.1 t x HX.out
              obtain ⟨y, hy⟩ : ∃ y, L[t]? = some y := ⟨_, List.getElem?_eq_getElem (by rw [HML.out.1]; exact htj)⟩
              obtain ⟨bc, oc, rfl, hbc, hcc⟩ := NB.out.2.2.1 t y (by rw [List.getElem?_append_left (by rw [HML.out.1]; exact htj)]; exact hy)
              have hk0c : WB.cell? ⟨bc, oc + t * k, none⟩ = some (.int .i64 44) := by
                have h9 := hcc 0 _ (KD.out y)
                rw [Nat.add_zero, HML.out.2 t y htj hy] at h9
                exact h9
              have lb := NB.out.1.loadg EE.out HX.out P
              have ld := NB.out.2.1.loadg EE.out HX.out P
              have lbx : ∀ n os, Sem.run P (loadCellsFrom ⟨gx, 0, none⟩ 0 k #[]) (Sort.grow (WB.drewN n) os) = .ok cx.toArray (Sort.grow (WB.drewN n) os) := fun n os => by
                have := Vi.At.loadg EE.out (Vi.vrow_p (enc := enc) (k := k) (x := x) (by rw [← show cx = _ from ECX.out]; exact KB.out.2)) (i := 0) rfl P n os
                rw [← show cx = _ from ECX.out] at this
                simpa using this
              have hne : ∀ W, _ := HEQ.out x
              have heg : ∀ i j W, _ := fun i j => HEG.out i j x
              have hei : ∀ W, _ := HEI.out x
              rw [← show cx = _ from ECX.out] at lb ld hne heg hei
              have c5 := (ou_obj NB.out.2.2.2.1).2.2.2.2.2
              have l9 := lt_of_heap NB.out.2.2.2.1
              have q5 := (ou_obj NB.out.2.2.2.2).2.2.2.2.2
              have l13 := lt_of_heap NB.out.2.2.2.2
              have r9 : ∀ n os, _ := fun n os => cell_grown (a := ⟨g9, 5, none⟩) l9 c5 n os
              have r13 : ∀ n os, _ := fun n os => cell_grown (a := ⟨g13, 5, none⟩) l13 q5 n os
              have rc : ∀ n os, _ := fun n os => cell_grown (a := ⟨bc, oc + t * k, none⟩) hbc hk0c n os
              have f3 : (t : Int) < ((j + 2 : Nat) : Int) := by omega
              have f4 : (t : Int) < (j : Int) + 2 := by omega
              clear hcc hk0c c5 l9 q5 l13 hy
              go_wp2_with fail
              refine wp_region_quiet_grown mixed (by kernel_rfl) ?_
              repeat (go_big_quiet_step (fail))
              refine wpQuiet_nil ?_
              intro _ hw'
              obtain ⟨⟨nq, osq⟩, hw''⟩ := hw'
              subst hw''
              have G : Hid (Kept WB (Sort.grow (WB.drewN nq) osq)) := Vi.Grw.kept ⟨nq, osq, rfl⟩
              generalize Sort.grow (WB.drewN nq) osq = W5 at G ⊢
              clear lb ld lbx hne heg hei r9 r13 rc
              go_wp2_with fail
              go_roundw
              case rel => exact ⟨t + 1, by simp, htj, KT.out.trans' (KB.out.1.trans' G.out)⟩
              case measure => simp only [intOf]; omega
            · obtain rfl : t = j := by omega
              have f1 : ¬ (t : Int) < (t : Int) := by omega
              have f1d : decide ((t : Int) < (t : Int)) = false := decide_eq_false f1
              obtain ⟨bc, oc, rfl, hbc, hcc⟩ := N9.out.2.2.2.2.1 t (mkV 45) (by rw [List.getElem?_append_right (by rw [HML.out.1]; omega), HML.out.1, Nat.sub_self]; rfl)
              have hk0c : WR.cell? ⟨bc, oc + t * k, none⟩ = some (.int .i64 45) := by
                have h9 := hcc 0 _ (KD.out (mkV 45))
                rw [Nat.add_zero] at h9
                exact h9
              have f3 : (t : Int) < ((t + 2 : Nat) : Int) := by omega
              have f4 : (t : Int) < (t : Int) + 2 := by omega
              clear hcc
              go_wp2_with fail
              go_ret
              exact ⟨rfl, N9.out.1⟩
theorem vl_guard (i j : Nat) (x : Vi.Vl) (W : World) : Sem.run Tryd.prog (eqGuard .neq 25 (.tmp i) (.tmp j) (Vi.vlV x) (Vi.vlV x)) W = .ok () W := by
  obtain ⟨a0, a1, a2, a3, a4, a5, a6, a7, a8, a9, a10, a11⟩ := x
  unfold Vi.vlV
  go_simp
set_option maxRecDepth 100000 in
/-- The program itself. -/
theorem am22 (w : World) (tb : Tab w.heap.size w) (hm : Mx w) (hw : Wds w) : Am2 Tryd.prog 12 Vi.vl1 w where
  mixed := by kernel_rfl
  E := Vi.ekV
  fM := Tryd.func3
  eA := Tryd.call4
  eV := Tryd.call5
  eS := Tryd.call6
  eT := Tryd.call7
  eP := Tryd.call8
  anc := fun W k => anchor_any22 W (tb.up (Nat.le_refl _) k) (hm.on k) (hw.on k)
  val := fun x W => (Vi.rvalid18 x W).mono fun e w' ⟨h1, h2⟩ => ⟨h1, by rw [h2]; exact (Same.refl _ _).alloc _⟩
  rso := fun _ _ _ _ h1 h2 h3 h4 => Vi.rsort18 h1 h2 h3 h4
  txt := fun W o a cap hx h => (rtext22 W o a cap hx h).mono fun e w' ⟨v', e, o8, k8⟩ => ⟨v', e, own_str o8, Same.trans (Same.refl _ W) k8.1 (fun i hi e => absurd hi (Nat.not_lt.2 e))⟩
  par := fun W o k hx => by
    have h9 := parse22 (outL o) W (by have := outL_leS hx; omega) (hm.on k) (hw.on k)
    rw [prs_app hx] at h9
    exact h9
  eqv := fun x W => vl_alike x W
  eqg := fun i j x W => vl_guard i j x W
  eqi := fun x W => by
    have h := Vi.equal18 x x W
    rw [decide_eq_true (by simp)] at h
    exact h
  kd := fun _ => rfl
  tB := rfl
  aB := Tryd.isAgg28
  zB := Tryd.sizeOf28
  t41 := rfl
  t3 := Tryd.underlying3
  t4 := Tryd.underlying4
  t9 := Tryd.underlying9
  t22 := rfl
  t23 := Tryd.underlying22
  t25 := rfl
  a3 := Tryd.isAgg3
  a4 := Tryd.isAgg4
  a9 := Tryd.isAgg9
  a22 := Tryd.isAgg30
  a23 := Tryd.isAgg22
  a25 := Tryd.isAgg32
  a41 := Tryd.isAgg25
  z3 := Tryd.sizeOf3
  z4 := Tryd.sizeOf4
  z9 := Tryd.sizeOf9
  z22 := Tryd.sizeOf30
  z23 := Tryd.sizeOf22
  z25 := Tryd.sizeOf32
  z41 := Tryd.sizeOf25
  v23 := Tryd.zeroValue22
  v41 := ⟨[.int .i64 0, .int .i64 0, .int .i64 0, .int .i64 0, .int .i64 0, .string .empty, .bool false, .string .empty, .bool false, .string .empty, .int .i64 0, .int .i64 0], rfl, Tryd.zeroValue25, fun _ => rfl⟩
  v25 := Tryd.zeroValue32
  i25 := by kernel_rfl
  hk := by decide
  i41 := ⟨_, 120, Vi.Tryd.infoViol, rfl, by decide⟩
theorem memory22_law (w : World) (a : Option Addr) (cap : Nat) (l : List Vi.Vl) (h : Vi.At Vi.vl1 12 w a l) (hlen : l.length ≤ 1172812402961) (tb : Tab w.heap.size w) (hm : Mx w) (hw : Wds w) :
    Calls Tryd.prog 3 #[.slice a l.length cap] w fun e w' => e = .returned (.bool true) ∧ Kept w w' := memory22_p w (am22 w tb hm hw) a cap l h hlen
end Go.Proofs.YtfhaiklfbnfdlabDoor
