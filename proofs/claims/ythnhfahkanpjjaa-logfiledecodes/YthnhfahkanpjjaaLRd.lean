/- What is proved: Decode of the document; no condition. -/
import Derived.Test.YthnhfahkanpjjaaLRh
import Derived.Test.YthnhfahkanpjjaaLDecode
namespace Go.Proofs.Ythnhfahkanpjjaa
open Go.RowKit

theorem next_ft7 {d : List Int} {en : Bool} {s s' : Sc} {t : TxM} (hb : Byts d) (hf : s.ft = false) (h : next7 d en s = (some t, s')) : s'.ft = false := by
  have hg : ∀ s : Sc, s.ft = false → goOn d en s = (some t, s') → s'.ft = false := fun s h0 h => by
    rw [go_entry h0] at h
    obtain ⟨-, -, -, e⟩ := entry_one hb h
    rw [e]
    exact h0
  unfold next7 at h
  split at h
  · cases h
  · split at h
    · split at h
      · cases h
      · exact hg { s with pl := 4 } hf h
    · exact hg s hf h
/-- What stands at the head of the document's loop that reads. -/
structure Rrd (w W : World) (rb : Nat) (oa : Option Addr) (c : Nat) (vl : Value) (d : List Int) (s : Sc) (l : List TxR) : Prop where
  rs : Rs W rb oa c d true s
  lst : Lst (rb + 1) W vl l
  fed : Fed d (l.map TxR.t) s
  kept : Kept w W
  rbw : w.heap.size ≤ rb
  ft : s.ft = false
  dlt : ∀ k, InB oa d.length k → k < w.heap.size
section
variable {w W : World} {rb : Nat} {oa : Option Addr} {c : Nat} {vl : Value} {d : List Int} {s : Sc} {l : List TxR}
theorem Rrd.le (h : Rrd w W rb oa c vl d s l) : l.length ≤ 4096 := by
  have h1 := h.fed.1
  have h2 := h.fed.2.1
  rw [List.length_map] at h1
  omega
theorem Rrd.val (h : Rrd w W rb oa c vl d s l) : ∃ a c, vl = .slice a l.length c := by
  obtain ⟨a, c, e, -⟩ := OwnT.txs h.lst.row
  exact ⟨a, c, e⟩
/-- The scanner read on, the list stays. -/
theorem Rrd.left {W1 : World} (h : Rrd w W rb oa c vl d s l) (k1 : Same (fun k => k = rb) W W1) : Lst (rb + 1) W1 vl l ∧ Kept w W1 := by
  refine ⟨h.lst.kept k1 (fun k hk (e : k = rb) => ?_), h.kept.trans k1 (fun i hi (e : i = rb) => ?_)⟩
  · have := (h.lst.block hk).1
    omega
  · have := h.rbw
    omega
theorem Rs.keptS {S : Nat → Prop} {w W : World} {en : Bool} (h : Rs w rb oa c d en s) (hW : Same S w W) (hne : ¬ S rb) (hd : ∀ k, InB oa d.length k → ¬ S k) : Rs W rb oa c d en s :=
  ⟨(hW.block _ h.lt hne).trans h.obj, ⟨h.arg.data.kept hW hd, h.arg.nil, h.arg.cap, h.arg.byts, h.arg.len⟩, h.ne, h.ple, h.cts⟩
/-- A transaction was read: the world with its box. -/
theorem Rrd.read {W1 : World} {s' : Sc} {t : TxM} {a : Option Addr} {tc : Nat} (h : Rrd w W rb oa c vl d s l) (rs1 : Rs W1 rb oa c d true s') (kk : Same (fun k => k = rb) W W1) (hn : next7 d true s = (some t, s')) (ho : OwnO W.heap.size W1 (.slice a t.ops.length tc) t.ops) (ty : TypeId) :
    ∃ v' w', (Builtin.append_ #[24, 24] ty #[vl, .slice (some ⟨W1.heap.size + 1, 0, none⟩) 1 1]).run Try.prog ((W1.alloc (⟨t, a, tc⟩ : TxR).obj).alloc (⟨t, a, tc⟩ : TxR).obj) = .ok v' w' ∧ (∃ a' c', Rrd w w' rb oa c v' d s' (l ++ [⟨t, a, tc⟩]) ∧ v' = .slice a' (l.length + 1) c') := by
  obtain ⟨l1, k1⟩ := h.left kk
  have hle := h.le
  have hsb := rs1.lt
  obtain ⟨v', w', hr, r1, r2, r3⟩ := app_tx_one (⟨t, a, tc⟩ : TxR) (OwnT.on l1.row ((Same.refl _ W1).alloc (⟨t, a, tc⟩ : TxR).obj)) (by omega) (by rw [World.size_alloc]; omega) ty
  rw [World.size_alloc] at hr
  refine ⟨v', w', hr, ?_⟩
  have hk2 : Kept W1 (W1.alloc (⟨t, a, tc⟩ : TxR).obj) := (Same.refl _ W1).alloc _
  have hnb : Byts d := rs1.arg.byts
  have hn2 : next7 d false s = (some t, s') := next_en hnb h.rs.ple hn
  have hf2 : Fed d ((l ++ [(⟨t, a, tc⟩ : TxR)]).map TxR.t) s' := by
    rw [List.map_append]
    exact h.fed.some hnb hn2
  have hoW : OwnO W.heap.size (W1.alloc (⟨t, a, tc⟩ : TxR).obj) (TxR.sl ⟨t, a, tc⟩) t.ops := OwnO.on ho hk2
  have hWl : Lst (rb + 1) W vl l := h.lst
  have hs1 : W.heap.size ≤ W1.heap.size := kk.size
  have hrW := h.rs.lt
  have hne : ∀ x ∈ l ++ [(⟨t, a, tc⟩ : TxR)], ∀ k, x.sl.ownBlock = some k → vl.ownBlock ≠ some k ∧ k < W1.heap.size + 1 := fun x hx k hk => by
    rcases List.mem_append.1 hx with hx | hx
    · have := ((l1.ops x hx).block hk).2
      exact ⟨l1.ne x hx k hk, by omega⟩
    · obtain rfl : x = ⟨t, a, tc⟩ := by simpa using hx
      have := ho.block hk
      refine ⟨fun e => ?_, by omega⟩
      have := (hWl.row.block e).2
      omega
  have hlst : Lst (rb + 1) w' v' (l ++ [⟨t, a, tc⟩]) := by
    refine ⟨r1, fun x hx => ?_, fun x hx k hk e => ?_⟩
    · rcases List.mem_append.1 hx with hx' | hx'
      · exact ((l1.ops x hx').on hk2).kept r2 fun k hk => (hne x hx k hk).1
      · obtain rfl : x = ⟨t, a, tc⟩ := by simpa using hx'
        exact (OwnO.kept hoW r2 fun k hk => (hne _ hx k hk).1).lower (by omega)
    · obtain ⟨n1, n2⟩ := hne x hx k hk
      rcases r3 k e with e | e
      · exact n1 e
      · rw [World.size_alloc] at e
        omega
  have hvb : ∀ k, vl.ownBlock = some k → rb < k := fun k e => (l1.row.block e).1
  have hrw := h.rbw
  have hat : Rs w' rb oa c d true s' := (rs1.on hk2).keptS r2 (fun e => Nat.lt_irrefl _ (hvb rb e)) (fun k e1 e2 => by have := h.dlt k e1; have := hvb k e2; omega)
  obtain ⟨a', c', e', -⟩ := OwnT.txs r1
  refine ⟨a', c', ⟨hat, hlst, hf2, (k1.trans' hk2).trans r2 (fun i hi e => ?_), h.rbw, next_ft7 hnb h.ft hn, h.dlt⟩, by rw [e', List.length_append]; rfl⟩
  have := hvb i e
  omega
set_option maxRecDepth 100000 in
set_option maxHeartbeats 1600000 in
theorem refDec7_any (h : ArgB w oa c d) : Calls Try.prog 11 #[.slice oa d.length c] w fun x w' => DecR w d x w' := by
  have R0 : Hid (Rrd w (w.alloc (.cells (rsC oa d.length c true sc0) 45 (0, 0))) w.heap.size oa c (.slice none 0 0) d sc0 []) := by
    have k : Kept w (w.alloc (.cells (rsC oa d.length c true sc0) 45 (0, 0))) := (Same.refl _ w).alloc _
    have hd : ∀ k, InB oa d.length k → k < w.heap.size := fun k hk => h.data.lt hk
    have f := Fed.start.feed d
    rw [List.nil_append] at f
    exact ⟨⟨heap_new w _, h.on k, fun k hk e => by have := hd k hk; omega, Nat.zero_le _, Nat.zero_le _⟩, Lst.nil _ _, f, k, Nat.le_refl _, rfl, hd⟩
  have HBY : Hid _ := h.byts
  obtain ⟨n, en'⟩ : ∃ n, n = d.length := ⟨_, rfl⟩
  have EN : Hid _ := en'
  rw [← en'] at R0 ⊢
  clear h en'
  go_enter Try.func11, Try.ntmps11
  go_wp2_with fail
  go_loopw [6, 7] (fun vl i W => ∃ (l : List TxR) (s : Sc), i = .int .i64 (l.length : Int) ∧ Rrd w W w.heap.size oa c vl d s l) (fun vl _ _ => 4097 - valLen vl)
  case atStart => exact ⟨[], sc0, rfl, R0.out⟩
  case round =>
    obtain ⟨l, s, rfl, hr⟩ := hrel
    have HR : Hid _ := hr
    have HN : Hid _ := rnext_any hr.rs (fun _ => hr.ft)
    obtain ⟨la, lc, rfl⟩ := hr.val
    have hle := hr.le
    have d1 : decide ((l.length : Int) ≤ 4096) = true := decide_eq_true (by omega)
    have d1' : (l.length : Int) ≤ 4096 := by omega
    clear hr R0
    go_wp2_with fail
    refine Calls.mono HN.out ?_
    rintro x w4 ⟨tv, rfl, n4, r4, k4⟩
    obtain ⟨o, s', hn7⟩ : ∃ o s', next7 d true s = (o, s') := ⟨_, _, rfl⟩
    rw [hn7] at n4 r4 ⊢
    simp only at n4 r4 ⊢
    cases o with
    | none =>
      obtain rfl : tv = txV t0 (.slice none 0 0) := n4
      obtain ⟨ls4, kw4⟩ := HR.out.left k4
      have HEND : Hid _ := HR.out.fed.ended hn7
      obtain ⟨-, -, c2, -, -, -⟩ := r4.cells
      have hlt4 := r4.lt
      have K4 : Hid _ := kw4
      have LS4 : Hid _ := ls4
      rw [show txV t0 (.slice none 0 0) = .agg #[.int .i64 0, .int .i64 0, .int .i64 0, .int .i64 0, .int .i64 0, .int .i64 0, .int .i64 0, .slice none 0 0] from rfl]
      rw [show (none : Option TxM).isSome = false from rfl]
      by_cases he : s'.er = 0
      · have he' : (s'.er != 0) = false := by simpa using he
        have HE0 : Hid _ := he
        clear r4 k4 ls4 kw4 hn7 he
        go_wp2_with fail
        go_ret3
        have h1 := HEND.out
        rw [if_pos HE0.out] at h1
        exact DecR.good (K4.out.alloc _) h1 ((LS4.out.on ((Same.refl _ w4).alloc _)).lower (Nat.le_succ _))
      · have he' : (s'.er != 0) = true := by simpa using he
        have HE0 : Hid _ := he
        clear r4 k4 ls4 kw4 hn7 he
        go_wp2_with fail
        go_quiet (fail)
        go_wp2_with fail
        go_ret3
        have h1 := HEND.out
        rw [if_neg HE0.out] at h1
        exact DecR.bad ((K4.out.alloc _).drewN _) h1
    | some t =>
      obtain ⟨ta, tc, rfl, o4⟩ := n4
      have he := next_some HBY.out hn7
      rw [he]
      have HRD : Hid (∀ ty, _) := fun ty => HR.out.read r4 k4 hn7 o4 ty
      rw [show txV t (.slice ta t.ops.length tc) = .agg #[.int .i64 t.f0, .int .i64 t.f1, .int .i64 t.f2, .int .i64 t.f3, .int .i64 t.f4, .int .i64 t.f5, .int .i64 t.f6, .slice ta t.ops.length tc] from rfl]
      rw [show (some t).isSome = true from rfl]
      clear r4 k4 o4 hn7 he
      go_wp2_with (at_builtin; refine wpList_app rfl (.tmp 34) (.tmp 36) 24 24 rfl _ _ rfl rfl _ HRD.out ?_; intro v5 w5 hR; obtain ⟨a5, c5, r5, rfl⟩ := hR; have R5 : Hid _ := r5; clear r5)
      go_roundw
      case rel => exact ⟨_, _, by rw [List.length_append]; rfl, R5.out⟩
      case measure => simp only [valLen]; omega
end
end Go.Proofs.Ythnhfahkanpjjaa
