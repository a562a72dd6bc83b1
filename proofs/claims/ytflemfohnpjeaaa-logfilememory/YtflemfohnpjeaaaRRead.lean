/- What is proved: a reader over a cursor that lies in memory: what number, text, tagged and op answer, or the panic that they throw; no condition. -/
import Derived.Test.YtflemfohnpjeaaaRText
import Derived.Test.YtflemfohnpjeaaaRModel
import Derived.WalkSmall
namespace Go.Proofs.Ytflemfohnpjeaaa
open Go.RowKit

/-- A reader over the cursor in block cb. -/
def rdV (cb : Nat) : Value := .agg #[.pointer (some ⟨cb, 0, none⟩)]
/-- What a reader gives up with. -/
def thrV (p : Nat) (z : Int) : Value := .iface 94 (.agg #[.int .i64 (p : Int), .int .i64 z])
def thr (p : Nat) (z : Int) : Ending := .panicked [{ v := thrV p z, recovered := false }]

theorem cell_box {w w1 : World} {S : Nat → Prop} {v : Value} {ty : TypeId} (hs : Same S (w.alloc (.cells #[v] ty (0, 0))) w1) (hn : ¬ S w.heap.size) : w1.cell? ⟨w.heap.size, 0, none⟩ = some v := by
  rw [hs.cell (by simp [World.size_alloc]) hn]
  exact (cell_of (heap_new w _) 0).trans rfl

theorem two_new (w : World) (o1 o2 : Obj) : ((w.alloc o1).alloc o2).heap[w.heap.size]? = some o1 ∧ ((w.alloc o1).alloc o2).heap[w.heap.size + 1]? = some o2 := by
  refine ⟨(heap_old _ _ (by simp [World.size_alloc])).trans (heap_new _ _), ?_⟩
  have := heap_new (w.alloc o1) o2
  rwa [World.size_alloc] at this
theorem Same.two {S : Nat → Prop} {w w1 : World} {o1 o2 : Obj} (hs : Same S ((w.alloc o1).alloc o2) w1) (h1 : ¬ S w.heap.size) (h2 : ¬ S (w.heap.size + 1)) : w1.heap[w.heap.size]? = some o1 ∧ w1.heap[w.heap.size + 1]? = some o2 :=
  ⟨(hs.block _ (by simp [World.size_alloc]; omega) h1).trans (two_new w o1 o2).1, (hs.block _ (by simp [World.size_alloc]) h2).trans (two_new w o1 o2).2⟩
theorem Same.block_set {w : World} {b c o : Nat} {u : Value} (h : ¬ b = c) : w.heap[b]? = (w.setCell ⟨c, o, none⟩ u).heap[b]? := by
  by_cases hb : b < w.heap.size
  · exact ((Same.setCell (Same.refl (fun k => k = c) w) ⟨c, o, none⟩ (.inr rfl) u).block b hb h).symm
  · have hs : (w.setCell ⟨c, o, none⟩ u).heap.size = w.heap.size := by simp [World.setCell]
    rw [Array.getElem?_eq_none (by omega), Array.getElem?_eq_none (by omega)]
theorem Cu.keptN {S : Nat → Prop} {w w' : World} {cb : Nat} {a : Option Addr} {cap : Nat} {l : List Int} {pl : Nat} {ft : Int} (h : Cu w cb a cap l pl ft) (hs : Same S w w') (h1 : ¬ S cb) (h2 : ∀ k, InB a l.length k → ¬ S k) : Cu w' cb a cap l pl ft :=
  ⟨(hs.block cb h.lt h1).trans h.obj, h.data.kept hs h2, h.lcap, h.ple, h.loc, h.byts, h.len⟩
theorem rNum_rd (l : List Int) (pl most : Nat) : rNum l pl 0 (most : Int) = (match rd (.nm most) (l.drop pl) with | .error z => ((0, z), (pl, z)) | .ok (x, n) => (((x.1 : Int), 0), (pl + n, 0))) := by
  simp only [rNum, rd]
  generalize num 8 (l.drop pl) = q
  obtain ⟨n, s, e⟩ := q
  by_cases he : e = 0
  · subst he
    by_cases hm : most < n
    · rw [rNumQ_range (by omega), if_neg (by simp), if_pos hm]
    · rw [rNumQ_ok (by omega), if_neg (by simp), if_neg hm]
  · rw [rNumQ_err he, if_pos he]
theorem rText_rd (l : List Int) (pl lo hi : Nat) (hp : pl ≤ l.length) : rText l pl 0 (lo : Int) (hi : Int) = (match rd (.tx lo hi) (l.drop pl) with | .error z => (([], z), (pl, z)) | .ok (x, n) => ((x.2, 0), (pl + n, 0))) := by
  simp only [rText, rd]
  generalize num 8 (l.drop pl) = q
  obtain ⟨n, s, e⟩ := q
  by_cases he : e = 0
  · subst he
    by_cases hm : n < lo ∨ hi < n
    · rw [rTextQ_range (by omega), if_neg (by simp), if_pos hm]
    · rw [if_neg (by simp), if_neg hm]
      by_cases hl : l.length < pl + s + n
      · rw [rTextQ_end (by omega) hl, if_pos (by simp; omega)]
      · rw [rTextQ_ok (by omega) hl, if_neg (by simp; omega)]
        simp only [List.drop_drop, Nat.add_assoc]
  · rw [rTextQ_err he, if_pos he]
theorem rd_nz {I : Item} {r : List Int} {e : Int} (h : rd I r = .error e) : e ≠ 0 := by
  have := (rd_err h).1
  omega

section
variable {w : World} {cb : Nat} {a : Option Addr} {cap : Nat} {l : List Int} {pl : Nat} {ft : Int}
set_option maxRecDepth 100000 in
theorem ask_ok (w : World) (cb : Nat) : Calls Try.prog 64 #[rdV cb, .int .i64 0] w fun e w' => e = .returned (.tuple #[]) ∧ Kept w w' := by
  unfold rdV
  go_enter Try.func64, Try.ntmps64
  go_wp2
  go_end0
  exact ⟨rfl, (Same.refl _ w).alloc _⟩
set_option maxRecDepth 100000 in
theorem ask_no (h : Cu w cb a cap l pl ft) {z : Int} (hz : z ≠ 0) : Calls Try.prog 64 #[rdV cb, .int .i64 z] w fun e w' => e = thr pl z ∧ Kept w w' := by
  have hz' : (z != 0) = true := by simpa using hz
  have H : Hid (∀ W, Kept w W → _) := fun W (k : Kept w W) => offset_any (h.on k)
  unfold rdV thr thrV
  clear h hz
  go_enter Try.func64, Try.ntmps64
  go_wp2_with fail
  refine Calls.mono (H.out _ ((Same.refl _ w).alloc _)) ?_
  rintro e w1 ⟨rfl, rfl⟩
  go_wp2_with fail
  exact ⟨rfl, rfl, (Same.refl _ w).alloc _⟩
/-- What a reader's call answers and leaves. -/
def RdP (w : World) (cb : Nat) (a : Option Addr) (cap : Nat) (l : List Int) (pl : Nat) (I : Item) (f : Nat × List Int → Value) (e : Ending) (w' : World) : Prop :=
  Same (fun k => k = cb) w w' ∧ match rd I (l.drop pl) with
    | .error z => e = thr pl z
    | .ok (x, n) => e = .returned (f x) ∧ Cu w' cb a cap l (pl + n) 0
set_option maxRecDepth 100000 in
set_option maxHeartbeats 800000 in
theorem rnumber_any (h : Cu w cb a cap l pl 0) (most : Nat) : Calls Try.prog 61 #[rdV cb, .int .i64 (most : Int)] w (RdP w cb a cap l pl (.nm most) fun x => .int .i64 x.1) := by
  have hne : w.heap.size ≠ cb := by have := h.lt; omega
  have H1 : Hid (∀ W, Kept w W → _) := fun W (k : Kept w W) => number_any (h.on k) (most : Int)
  rw [rNum_rd] at H1
  unfold RdP
  cases hr : rd (.nm most) (l.drop pl) with
  | error z =>
    rw [hr] at H1
    have hz := rd_nz hr
    have H2 : Hid (∀ W, Cu W cb a cap l pl z → _) := fun W (h : Cu W cb a cap l pl z) => ask_no h hz
    simp only at H1 ⊢
    clear h hr hz
    unfold rdV at H2 ⊢
    go_enter Try.func61, Try.ntmps61
    go_wp2_with fail
    refine Calls.mono (H1.out _ ((Same.refl _ w).alloc _)) ?_
    rintro e w1 ⟨rfl, u1, s1⟩
    have c1 := cell_box s1 hne
    have U1 : Hid _ := u1
    have S1 : Hid (Same (fun k => k = cb) w w1) := ((Same.refl _ w).alloc _).trans' s1
    clear u1 s1
    go_wp2_with fail
    refine Calls.mono (H2.out _ U1.out) ?_
    rintro e w2 ⟨rfl, k2⟩
    unfold thr
    go_wp2_with fail
    exact ⟨rfl, S1.out.trans' (Kept.to k2 _), rfl⟩
  | ok x =>
    obtain ⟨x, n⟩ := x
    rw [hr] at H1
    have H2 : Hid (∀ W, _) := fun W => ask_ok W cb
    simp only at H1 ⊢
    clear h hr
    unfold rdV at H2 ⊢
    go_enter Try.func61, Try.ntmps61
    go_wp2_with fail
    refine Calls.mono (H1.out _ ((Same.refl _ w).alloc _)) ?_
    rintro e w1 ⟨rfl, u1, s1⟩
    have c1 := cell_box s1 hne
    have U1 : Hid _ := u1
    have S1 : Hid (Same (fun k => k = cb) w w1) := ((Same.refl _ w).alloc _).trans' s1
    clear u1 s1
    go_wp2_with fail
    refine Calls.mono (H2.out _) ?_
    rintro e w2 ⟨rfl, k2⟩
    have K2 : Hid _ := k2
    clear k2
    go_wp2_with fail
    go_ret
    exact ⟨S1.out.trans' (Kept.to K2.out _), rfl, U1.out.on K2.out⟩
set_option maxRecDepth 100000 in
set_option maxHeartbeats 800000 in
theorem rtext_any (h : Cu w cb a cap l pl 0) (lo hi : Nat) : Calls Try.prog 66 #[rdV cb, .int .i64 (lo : Int), .int .i64 (hi : Int)] w (RdP w cb a cap l pl (.tx lo hi) fun x => .string (strOfNums x.2)) := by
  have hne : w.heap.size ≠ cb := by have := h.lt; omega
  have H1 : Hid (∀ W, Kept w W → _) := fun W (k : Kept w W) => text_any (h.on k) (lo : Int) (hi : Int)
  rw [rText_rd _ _ _ _ h.ple] at H1
  unfold RdP
  cases hr : rd (.tx lo hi) (l.drop pl) with
  | error z =>
    rw [hr] at H1
    have hz := rd_nz hr
    have H2 : Hid (∀ W, Cu W cb a cap l pl z → _) := fun W (h : Cu W cb a cap l pl z) => ask_no h hz
    simp only at H1 ⊢
    clear h hr hz
    unfold rdV at H2 ⊢
    go_enter Try.func66, Try.ntmps66
    go_wp2_with fail
    refine Calls.mono (H1.out _ ((Same.refl _ w).alloc _)) ?_
    rintro e w1 ⟨rfl, u1, s1⟩
    have c1 := cell_box s1 hne
    have U1 : Hid _ := u1
    have S1 : Hid (Same (fun k => k = cb) w w1) := ((Same.refl _ w).alloc _).trans' s1
    clear u1 s1
    go_wp2_with fail
    refine Calls.mono (H2.out _ U1.out) ?_
    rintro e w2 ⟨rfl, k2⟩
    unfold thr
    go_wp2_with fail
    exact ⟨rfl, S1.out.trans' (Kept.to k2 _), rfl⟩
  | ok x =>
    obtain ⟨x, n⟩ := x
    rw [hr] at H1
    have H2 : Hid (∀ W, _) := fun W => ask_ok W cb
    simp only at H1 ⊢
    clear h hr
    unfold rdV at H2 ⊢
    go_enter Try.func66, Try.ntmps66
    go_wp2_with fail
    refine Calls.mono (H1.out _ ((Same.refl _ w).alloc _)) ?_
    rintro e w1 ⟨rfl, u1, s1⟩
    have c1 := cell_box s1 hne
    have U1 : Hid _ := u1
    have S1 : Hid (Same (fun k => k = cb) w w1) := ((Same.refl _ w).alloc _).trans' s1
    clear u1 s1
    go_wp2_with fail
    refine Calls.mono (H2.out _) ?_
    rintro e w2 ⟨rfl, k2⟩
    have K2 : Hid _ := k2
    clear k2
    go_wp2_with fail
    go_ret
    exact ⟨S1.out.trans' (Kept.to K2.out _), rfl, U1.out.on K2.out⟩
/-- What a tag says of its operation. -/
def tgV (x : Nat) : Value := .agg #[.int .i64 (if x = 3 then 2 else if x = 4 then 3 else 1), .string ⟨#[]⟩, .bool (decide (x = 1 ∨ x = 3)), .string ⟨#[]⟩]
theorem rByte_nil {l : List Int} {pl : Nat} (h : l.drop pl = []) : rByte l pl 0 = ((0, 51), (pl, 51)) := by
  unfold rByte
  rw [if_neg (by decide), if_pos (by simpa using h)]
theorem rByte_cons {l r : List Int} {pl : Nat} {x : Int} (h : l.drop pl = x :: r) : rByte l pl 0 = ((x, 0), (pl + 1, 0)) := by
  have hl : pl < l.length := by
    have := congrArg List.length h
    simp at this
    omega
  unfold rByte
  rw [if_neg (by decide), if_neg (by omega)]
  have : l[pl]? = some x := by
    have := congrArg (fun z => z[0]?) h
    simpa using this
  rw [List.getD, this]
  rfl
def opO (v0 v1 v2 v3 : Value) : Obj := .cells #[v0, v1, v2, v3] 42 (0, 0)
theorem results_c {fn : Func} {a t : Nat} {P : Program} {w : World} {tmps : Array Value} {ad : Addr} {v : Value} (h : fn.results = #[.cell a t]) (ha : tmps.getD a undef = .pointer (some ad)) (hv : (loadVar t ad).run P w = .ok v w) : (results fn tmps).run P w = .ok v w := by
  have ha' : tmps[a]?.getD undef = .pointer (some ad) := by simpa using ha
  simp [results, h, ha', asAddr, hv]
theorem loadVar_op {w : World} {b : Nat} {k : Int} {s v : ByteArray} {f : Bool} (h : w.heap[b]? = some (opO (.int .i64 k) (.string s) (.bool f) (.string v))) : (loadVar 42 ⟨b, 0, none⟩).run Try.prog w = .ok (.agg #[.int .i64 k, .string s, .bool f, .string v]) w := by
  have c0 : w.cell? ⟨b, 0, none⟩ = some (.int .i64 k) := (cell_of h 0).trans rfl
  have c1 : w.cell? ⟨b, 1, none⟩ = some (.string s) := (cell_of h 1).trans rfl
  have c2 : w.cell? ⟨b, 2, none⟩ = some (.bool f) := (cell_of h 2).trans rfl
  have c3 : w.cell? ⟨b, 3, none⟩ = some (.string v) := (cell_of h 3).trans rfl
  clear h
  go_simp
/-- An operation is stored. -/
def put4 (w : World) (b : Nat) (v0 v1 v2 v3 : Value) : World := (((w.setCell ⟨b, 0, none⟩ v0).setCell ⟨b, 1, none⟩ v1).setCell ⟨b, 2, none⟩ v2).setCell ⟨b, 3, none⟩ v3
theorem put4_at {w : World} {b : Nat} {u0 u1 u2 u3 : Value} (h : w.heap[b]? = some (opO u0 u1 u2 u3)) (v0 v1 v2 v3 : Value) : (put4 w b v0 v1 v2 v3).heap[b]? = some (opO v0 v1 v2 v3) :=
  (setCell_at (setCell_at (setCell_at (setCell_at h 0 _) 1 _) 2 _) 3 _).trans (by simp [opO])
theorem put4_same (w : World) (b : Nat) (v0 v1 v2 v3 : Value) : Same (fun k => k = b) w (put4 w b v0 v1 v2 v3) :=
  ((((Same.refl (fun k => k = b) w).setCell _ (.inr rfl) _).setCell _ (.inr rfl) _).setCell _ (.inr rfl) _).setCell _ (.inr rfl) _
theorem op_obj {w : World} {b : Nat} {v0 v1 v2 v3 : Value} (h : w.heap[b]? = some (opO v0 v1 v2 v3)) :
    (w.cell? ⟨b, 0, none⟩ = some v0 ∧ w.cell? ⟨b, 1, none⟩ = some v1 ∧ w.cell? ⟨b, 2, none⟩ = some v2 ∧ w.cell? ⟨b, 3, none⟩ = some v3) ∧ (w.frozen? ⟨b, 0, none⟩ = false ∧ w.frozen? ⟨b, 1, none⟩ = false ∧ w.frozen? ⟨b, 2, none⟩ = false ∧ w.frozen? ⟨b, 3, none⟩ = false) :=
  ⟨⟨(cell_of h 0).trans rfl, (cell_of h 1).trans rfl, (cell_of h 2).trans rfl, (cell_of h 3).trans rfl⟩, frozen_of h 0, frozen_of h 1, frozen_of h 2, frozen_of h 3⟩
set_option maxRecDepth 100000 in
set_option maxHeartbeats 1600000 in
theorem tagged_any (h : Cu w cb a cap l pl 0) : Calls Try.prog 65 #[rdV cb] w (RdP w cb a cap l pl .tg fun x => tgV x.1) := by
  have hne : w.heap.size ≠ cb := by have := h.lt; omega
  have hne1 : w.heap.size + 1 ≠ cb := by have := h.lt; omega
  have H0 : Hid (∀ W, Kept w W → _) := fun W (k : Kept w W) => offset_any (h.on k)
  have H1 : Hid (∀ W, Kept w W → _) := fun W (k : Kept w W) => byte_any (h.on k)
  unfold RdP
  cases hr : l.drop pl with
  | nil =>
    rw [rByte_nil hr] at H1
    have H2 : Hid (∀ W, Cu W cb a cap l pl 51 → _) := fun W (h : Cu W cb a cap l pl 51) => ask_no h (z := 51) (by decide)
    simp only [rd]
    simp only at H1
    clear h hr
    unfold rdV at H2 ⊢
    go_enter Try.func65, Try.ntmps65
    go_wp2_with fail
    refine Calls.mono (H0.out _ (((Same.refl _ w).alloc _).alloc _)) ?_
    rintro e w0 ⟨rfl, rfl⟩
    go_wp2_with fail
    refine Calls.mono (H1.out _ (((Same.refl _ w).alloc _).alloc _)) ?_
    rintro e w1 ⟨rfl, u1, s1⟩
    obtain ⟨b1, b2⟩ := Same.two s1 hne hne1
    have c1 := (cell_of b1 0).trans rfl
    have U1 : Hid _ := u1
    have S1 : Hid (Same (fun k => k = cb) w w1) := (((Same.refl _ w).alloc _).alloc _).trans' s1
    clear u1 s1 b1 b2
    go_wp2_with fail
    refine Calls.mono (H2.out _ U1.out) ?_
    rintro e w2 ⟨rfl, k2⟩
    unfold thr
    go_wp2_with fail
    exact ⟨rfl, S1.out.trans' (Kept.to k2 _), rfl⟩
  | cons x r =>
    rw [rByte_cons hr] at H1
    have H2 : Hid (∀ W, _) := fun W => ask_ok W cb
    have HG : Hid (∀ k, InB a l.length k → k < w.heap.size) := fun k => h.data.lt
    simp only [rd]
    simp only at H1
    clear h hr
    unfold rdV at H2 ⊢
    by_cases hx : 1 ≤ x ∧ x ≤ 4
    · rw [if_pos hx]
      simp only
      have hx4 : x = 1 ∨ x = 2 ∨ x = 3 ∨ x = 4 := by omega
      clear hx
      rcases hx4 with rfl | rfl | rfl | rfl
      all_goals
        go_enter Try.func65, Try.ntmps65
        go_wp2_with fail
        refine Calls.mono (H0.out _ (((Same.refl _ w).alloc _).alloc _)) ?_
        rintro e w0 ⟨rfl, rfl⟩
        go_wp2_with fail
        refine Calls.mono (H1.out _ (((Same.refl _ w).alloc _).alloc _)) ?_
        rintro e w1 ⟨rfl, u1, s1⟩
        obtain ⟨b1, b2⟩ := Same.two s1 hne hne1
        have c1 := (cell_of b1 0).trans rfl
        have U1 : Hid _ := u1
        have B2 : Hid _ := b2
        have S1 : Hid (Same (fun k => k = cb) w w1) := (((Same.refl _ w).alloc _).alloc _).trans' s1
        clear u1 s1 b1 b2
        go_wp2_with fail
        refine Calls.mono (H2.out _) ?_
        rintro e w2 ⟨rfl, k2⟩
        have g2 := (k2.block _ (lt_of_heap B2.out) (fun h => h)).trans B2.out
        obtain ⟨⟨d0, d1, d2, d3⟩, f0, f1, f2, f3⟩ := op_obj g2
        have G2 : Hid _ := g2
        have K2 : Hid _ := k2
        clear k2 B2 g2
        go_wp2_with fail
        refine bodyPost_ret (results_c (a := 2) (t := 42) rfl rfl (loadVar_op (put4_at G2.out _ _ _ _))) rfl ⟨?_, rfl, ?_⟩
        · exact (S1.out.trans' (Kept.to K2.out _)).trans (put4_same _ _ _ _ _ _) (fun i hi e => by omega)
        · exact (U1.out.on K2.out).keptN (put4_same _ _ _ _ _ _) (fun e => hne1 e.symm) (fun k hk e => by have := HG.out k hk; omega)
    · rw [if_neg hx]
      simp only
      have e1 : (x == 1) = false := by simp; omega
      have e2 : (x == 2) = false := by simp; omega
      have e3 : (x == 3) = false := by simp; omega
      have e4 : (x == 4) = false := by simp; omega
      clear hx
      unfold thr thrV
      go_enter Try.func65, Try.ntmps65
      go_wp2_with fail
      refine Calls.mono (H0.out _ (((Same.refl _ w).alloc _).alloc _)) ?_
      rintro e w0 ⟨rfl, rfl⟩
      go_wp2_with fail
      refine Calls.mono (H1.out _ (((Same.refl _ w).alloc _).alloc _)) ?_
      rintro e w1 ⟨rfl, u1, s1⟩
      obtain ⟨b1, b2⟩ := Same.two s1 hne hne1
      have c1 := (cell_of b1 0).trans rfl
      have S1 : Hid (Same (fun k => k = cb) w w1) := (((Same.refl _ w).alloc _).alloc _).trans' s1
      clear u1 s1 b1 b2
      go_wp2_with fail
      refine Calls.mono (H2.out _) ?_
      rintro e w2 ⟨rfl, k2⟩
      have K2 : Hid _ := k2
      clear k2
      go_wp2_with fail
      exact ⟨rfl, S1.out.trans' (Kept.to K2.out _), rfl⟩
def opV (o : OpM) : Value := .agg #[.int .i64 o.kind, .string o.key, .bool o.found, .string o.value]
/-- What reading an operation answers and leaves. -/
def RoP (w : World) (cb : Nat) (a : Option Addr) (cap : Nat) (l : List Int) (pl : Nat) (e : Ending) (w' : World) : Prop :=
  Same (fun k => k = cb) w w' ∧ match run pgO (l.drop pl) pl with
    | .error (p, z) => e = thr p z
    | .ok (o, q) => e = .returned (opV o) ∧ Cu w' cb a cap l q 0
set_option maxRecDepth 100000 in
set_option maxHeartbeats 3200000 in
theorem rop_any (h : Cu w cb a cap l pl 0) : Calls Try.prog 62 #[rdV cb] w (RoP w cb a cap l pl) := by
  have hne : w.heap.size ≠ cb := by have := h.lt; omega
  have hne1 : w.heap.size + 1 ≠ cb := by have := h.lt; omega
  have HLT : Hid (cb < w.heap.size) := h.lt
  have HG : Hid (∀ k, InB a l.length k → k < w.heap.size) := fun k => h.data.lt
  have H1 : Hid (∀ W, Kept w W → _) := fun W (k : Kept w W) => tagged_any (h.on k)
  have H2 : Hid (∀ W q, Cu W cb a cap l q 0 → Calls Try.prog 66 #[.agg #[.pointer (some ⟨cb, 0, none⟩)], .int .i64 1, .int .i64 8] W (RdP W cb a cap l q (.tx 1 8) fun x => .string (strOfNums x.2))) := fun W q (h : Cu W cb a cap l q 0) => rtext_any h 1 8
  have H3 : Hid (∀ W q, Cu W cb a cap l q 0 → Calls Try.prog 66 #[.agg #[.pointer (some ⟨cb, 0, none⟩)], .int .i64 0, .int .i64 16] W (RdP W cb a cap l q (.tx 0 16) fun x => .string (strOfNums x.2))) := fun W q (h : Cu W cb a cap l q 0) => rtext_any h 0 16
  unfold rdV at H1 ⊢
  clear h
  go_enter Try.func62, Try.ntmps62
  go_wp2_with fail
  refine Calls.mono (H1.out _ (((Same.refl _ w).alloc _).alloc _)) ?_
  rintro e w1 ⟨s1, q1⟩
  obtain ⟨b1, b2⟩ := Same.two s1 hne hne1
  have c1 : w1.cell? ⟨w.heap.size, 0, none⟩ = some (.pointer (some ⟨cb, 0, none⟩)) := (cell_of b1 0).trans rfl
  have S1 : Hid (Same (fun k => k = cb) w w1) := (((Same.refl _ w).alloc _).alloc _).trans' s1
  have B1 : Hid _ := b1
  have B2 : Hid _ := b2
  have hs1 : w.heap.size + 1 < w1.heap.size := lt_of_heap b2
  have hs0 : w.heap.size < w1.heap.size := by omega
  clear s1 b1 b2
  cases h1 : rd .tg (l.drop pl) with
  | error z =>
    rw [h1] at q1
    simp only at q1
    subst q1
    unfold thr
    go_wp2_with fail
    refine ⟨rfl, S1.out, ?_⟩
    rw [show run pgO (l.drop pl) pl = .error (pl, z) from run_ask_err h1]
    rfl
  | ok x1 =>
    obtain ⟨⟨x, y⟩, n1⟩ := x1
    rw [h1] at q1
    simp only at q1
    obtain ⟨rfl, u1⟩ := q1
    have U1 : Hid _ := u1
    have R1 : Hid (run pgO (l.drop pl) pl = _) := run_ask_ok h1
    unfold tgV
    obtain ⟨K, eK⟩ : ∃ K : Int, K = if x = 3 then 2 else if x = 4 then 3 else 1 := ⟨_, rfl⟩
    obtain ⟨F, eF⟩ : ∃ F : Bool, F = decide (x = 1 ∨ x = 3) := ⟨_, rfl⟩
    rw [← eK, ← eF]
    have EK : Hid _ := eK
    have EF : Hid _ := eF
    clear u1 h1 eK eF
    go_wp2_with fail
    refine Calls.mono (H2.out _ _ (U1.out.on ((Same.refl _ w1).alloc _))) ?_
    rintro e w2 ⟨s2, q2⟩
    have hl2 := s2.size
    rw [World.size_alloc] at hl2
    have g2 := (s2.block w1.heap.size (by rw [World.size_alloc]; omega) (by have := HLT.out; omega)).trans (heap_new w1 _)
    have g1 := (s2.block w.heap.size (by rw [World.size_alloc]; omega) hne).trans ((heap_old w1 _ hs0).trans B1.out)
    have g3 := (s2.block (w.heap.size + 1) (by rw [World.size_alloc]; omega) hne1).trans ((heap_old w1 _ hs1).trans B2.out)
    have c2 : w2.cell? ⟨w.heap.size, 0, none⟩ = some (.pointer (some ⟨cb, 0, none⟩)) := (cell_of g1 0).trans rfl
    have S2 : Hid (Same (fun k => k = cb) w w2) := (S1.out.alloc _).trans' s2
    have G1 : Hid _ := g1
    have G2 : Hid _ := g2
    have G3 : Hid _ := g3
    obtain ⟨⟨d0, d1, d2, d3⟩, f0, f1, f2, f3⟩ := op_obj g2
    obtain ⟨⟨p0, p1, p2, p3⟩, r0, r1, r2, r3⟩ := op_obj g3
    clear s2 c1 g1 g2 g3 B1 B2
    rw [List.drop_drop] at R1
    cases h2 : rd (.tx 1 8) (l.drop (pl + n1)) with
    | error z =>
      rw [h2] at q2
      simp only at q2
      subst q2
      unfold thr
      go_wp2_with fail
      refine ⟨rfl, S2.out, ?_⟩
      rw [R1.out, run_ask_err h2]
      rfl
    | ok x2 =>
      obtain ⟨⟨x', k⟩, n2⟩ := x2
      rw [h2] at q2
      simp only at q2
      obtain ⟨rfl, u2⟩ := q2
      have U2 : Hid _ := u2
      have R2 : Hid (run pgO (l.drop pl) pl = _) := R1.out.trans (run_ask_ok h2)
      clear u2 h2 R1
      cases hF : F with
      | false =>
        subst hF
        have hx : ¬ (x = 1 ∨ x = 3) := by have := EF.out; simpa using this.symm
        have R3 : Hid (run pgO (l.drop pl) pl = .ok (mkO x k [], pl + n1 + n2)) := by
          have := R2.out
          rw [if_neg hx] at this
          exact this
        have EV : Hid (opV (mkO x k []) = .agg #[.int .i64 K, .string (strOfNums k), .bool false, .string ⟨#[]⟩]) := by
          show opV (mkO x k []) = _
          simp only [opV, mkO]
          rw [← EK.out, ← EF.out]
          rfl
        clear hx R2 EK EF
        go_wp2_with fail
        refine bodyPost_ret (results_c (a := 2) (t := 42) rfl rfl (loadVar_op (put4_at (w := w2.setCell ⟨w1.heap.size, 1, none⟩ (.string (strOfNums k))) ((Same.block_set (fun e => by omega)).symm.trans G3.out) _ _ _ _))) rfl ?_
        unfold RoP
        rw [R3.out]
        simp only
        rw [EV.out]
        refine ⟨?_, rfl, ?_⟩
        · exact (S2.out.setCell _ (.inl (by show w.heap.size ≤ w1.heap.size; omega)) _).trans (put4_same _ _ _ _ _ _) (fun i hi e => by omega)
        · have s3 : Same (fun k => k = w1.heap.size ∨ k = w.heap.size + 1) w2 (put4 (w2.setCell ⟨w1.heap.size, 1, none⟩ (.string (strOfNums k))) (w.heap.size + 1) (.int .i64 K) (.string (strOfNums k)) (.bool false) (.string ⟨#[]⟩)) :=
            ((Same.refl _ w2).setCell _ (.inr (.inl rfl)) _).trans (put4_same _ _ _ _ _ _) (fun i hi e => .inr e)
          exact U2.out.keptN s3 (fun e => by have := HLT.out; omega) (fun k hk e => by have := HG.out k hk; omega)
      | true =>
        subst hF
        have hx : x = 1 ∨ x = 3 := by have := EF.out; simpa using this.symm
        have R3 : Hid (run pgO (l.drop pl) pl = run (Pg.ask (Item.tx 0 16) fun z => Pg.ret (mkO x k z.2)) (l.drop (pl + n1 + n2)) (pl + n1 + n2)) := by
          have := R2.out
          rw [if_pos hx, List.drop_drop] at this
          exact this
        have EV : Hid (∀ v, opV (mkO x k v) = .agg #[.int .i64 K, .string (strOfNums k), .bool true, .string (strOfNums v)]) := by
          show ∀ v, opV (mkO x k v) = _
          intro v
          simp only [opV, mkO]
          rw [← EK.out, ← EF.out]
        clear hx R2 EK EF
        have s3 : Same (fun k => k = w1.heap.size) w2 (w2.setCell ⟨w1.heap.size, 1, none⟩ (.string (strOfNums k))) := Same.setCell (S := fun k => k = w1.heap.size) (Same.refl _ w2) _ (.inr rfl) _
        have hc : Cu (w2.setCell ⟨w1.heap.size, 1, none⟩ (.string (strOfNums k))) cb a cap l (pl + n1 + n2) 0 := U2.out.keptN s3 (fun e => by have := HLT.out; omega) (fun k hk e => by have := HG.out k hk; omega)
        have gg2 : (w2.setCell ⟨w1.heap.size, 1, none⟩ (.string (strOfNums k))).heap[w1.heap.size]? = some (opO (.int .i64 K) (.string (strOfNums k)) (.bool true) (.string ⟨#[]⟩)) := (setCell_at G2.out 1 _).trans (by simp [opO])
        have gg1 := (s3.block w.heap.size (lt_of_heap G1.out) (by omega)).trans G1.out
        have gg3 := (s3.block (w.heap.size + 1) (lt_of_heap G3.out) (by omega)).trans G3.out
        have HC : Hid _ := hc
        have S3 : Hid _ := S2.out.setCell (⟨w1.heap.size, 1, none⟩ : Addr) (.inl (by show w.heap.size ≤ w1.heap.size; omega)) (.string (strOfNums k))
        have GG1 : Hid _ := gg1
        have GG2 : Hid _ := gg2
        have GG3 : Hid _ := gg3
        clear s3 hc gg1 gg2 gg3
        go_wp2_with fail
        refine Calls.mono (H3.out _ _ HC.out) ?_
        rintro e w3 ⟨s4, q4⟩
        have k1 := (s4.block w.heap.size (lt_of_heap GG1.out) hne).trans GG1.out
        have k2 := (s4.block w1.heap.size (lt_of_heap GG2.out) (by have := HLT.out; omega)).trans GG2.out
        have k3 := (s4.block (w.heap.size + 1) (lt_of_heap GG3.out) hne1).trans GG3.out
        have S4 : Hid (Same (fun k => k = cb) w w3) := S3.out.trans' s4
        have K2 : Hid _ := k2
        have K3 : Hid _ := k3
        obtain ⟨⟨d0, d1, d2, d3⟩, f0, f1, f2, f3⟩ := op_obj k2
        obtain ⟨⟨p0, p1, p2, p3⟩, r0, r1, r2, r3⟩ := op_obj k3
        clear s4 k1 k2 k3
        cases h3 : rd (.tx 0 16) (l.drop (pl + n1 + n2)) with
        | error z =>
          rw [h3] at q4
          simp only at q4
          subst q4
          unfold thr
          go_wp2_with fail
          refine ⟨rfl, S4.out, ?_⟩
          rw [R3.out, run_ask_err h3]
          rfl
        | ok x3 =>
          obtain ⟨⟨x'', v⟩, n3⟩ := x3
          rw [h3] at q4
          simp only at q4
          obtain ⟨rfl, u4⟩ := q4
          have U4 : Hid _ := u4
          have R4 : Hid (run pgO (l.drop pl) pl = .ok (mkO x k v, pl + n1 + n2 + n3)) := R3.out.trans (run_ask_ok h3)
          clear u4 h3 R3
          go_wp2_with fail
          refine bodyPost_ret (results_c (a := 2) (t := 42) rfl rfl (loadVar_op (put4_at (w := w3.setCell ⟨w1.heap.size, 3, none⟩ (.string (strOfNums v))) ((Same.block_set (fun e => by omega)).symm.trans K3.out) _ _ _ _))) rfl ?_
          unfold RoP
          rw [R4.out]
          simp only
          rw [EV.out]
          refine ⟨?_, rfl, ?_⟩
          · exact (S4.out.setCell _ (.inl (by show w.heap.size ≤ w1.heap.size; omega)) _).trans (put4_same _ _ _ _ _ _) (fun i hi e => by omega)
          · have s5 : Same (fun k => k = w1.heap.size ∨ k = w.heap.size + 1) w3 (put4 (w3.setCell ⟨w1.heap.size, 3, none⟩ (.string (strOfNums v))) (w.heap.size + 1) (.int .i64 K) (.string (strOfNums k)) (.bool true) (.string (strOfNums v))) :=
              ((Same.refl _ w3).setCell _ (.inr (.inl rfl)) _).trans (put4_same _ _ _ _ _ _) (fun i hi e => .inr e)
            exact U4.out.keptN s5 (fun e => by have := HLT.out; omega) (fun k hk e => by have := HG.out k hk; omega)
end
end Go.Proofs.Ytflemfohnpjeaaa
