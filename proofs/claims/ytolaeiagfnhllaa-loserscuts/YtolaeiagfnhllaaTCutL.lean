/- What is proved: the law LosersCuts answers true and leaves all that was there as it was: a rising list dealt out over five sources merges to itself; the lists are such as memory can hold. -/
import Derived.Test.YtolaeiagfnhllaaTGw
import Derived.Test.YtolaeiagfnhllaaNOpen
import Derived.Test.YtolaeiagfnhllaaQValR
import Derived.Test.YtolaeiagfnhllaaNPln
namespace Go.Proofs.Ytolaeiagfnhllaa
open Go.RowKit

def NumA (w : World) (a : Option Addr) (l : List Int) : Prop := ∀ i x, l[i]? = some x → ∃ b off, a = some ⟨b, off, none⟩ ∧ b < w.heap.size ∧ w.cell? ⟨b, off + i, none⟩ = some (.int .i64 x)
theorem NumA.on {w w' : World} {a : Option Addr} {l : List Int} (h : NumA w a l) (k : Kept w w') : NumA w' a l := fun i x hx => by
  obtain ⟨b, off, rfl, hb, c⟩ := h i x hx
  exact ⟨b, off, rfl, Nat.lt_of_lt_of_le hb k.size, (k.cell (p := ⟨b, off + i, none⟩) hb (fun e => e)).trans c⟩
theorem Try.infoRows9 : (Try.prog.info? 39).map (fun i => (i.zero, i.size, i.bytes)) = some (some (.slice none 0 0), 1, 24) := by kernel_rfl
theorem made_lists (n : Nat) : madeCells #[nls] n = (List.replicate n nls).toArray := by
  apply Array.ext'
  unfold madeCells
  rw [Array.toList_map, Array.toList_range]
  show _ = List.replicate n nls
  refine List.ext_getElem (by simp) fun i h1 h2 => ?_
  simp [Nat.mod_one]
theorem make_five (w : World) : (Instr.makeSlice 37 (.int .i64 5) (.int .i64 5)).run Try.prog w = .ok (.slice (some ⟨w.heap.size, 0, none⟩) 5 5) (w.alloc (.cells (List.replicate 5 nls).toArray 39)) := by
  obtain ⟨i0, hi0, hz0, hz1, hz2⟩ := info_parts Try.infoRows9
  have hr := run_make (P := Try.prog) w 37 39 i0 _ Try.underlying37 hi0 hz0 .i64 .i64 5 5 (by omega) (by omega) (by rw [hz2]; omega) (by omega)
  rw [hz1] at hr
  rw [show (Value.slice none 0 0).cells = #[nls] from rfl, made_lists] at hr
  exact hr
/-- What stands while the rows are dealt out. -/
structure Dl (w wr : World) (lb q : Nat) (v : Value) (V : List Value) (L : List (List RwM)) (A : List RwM) : Prop where
  gw : Gw w wr (lb + 1) lb V L v A
  five : L.length = 5
  perm : A.Perm L.flatten
  asc : Asc (min q 1024) A
  ascs : ∀ j, j < 5 → Asc (min q 1024) (L.getD j [])
  len : A.length ≤ min q 1024
theorem Dl.skip {w wr W : World} {lb q : Nat} {v : Value} {V : List Value} {L : List (List RwM)} {A : List RwM} (h : Dl w wr lb q v V L A) (k : Kept wr W) : Dl w W lb (q + 1) v V L A :=
  ⟨h.gw.on k, h.five, h.perm, h.asc.mono (by omega), fun j hj => (h.ascs j hj).mono (by omega), by have := h.len; omega⟩
theorem Dl.start {w wr : World} (k : Kept w wr) : Dl w (wr.alloc (.cells (List.replicate 5 nls).toArray 39)) wr.heap.size 0 (.slice none 0 0) (List.replicate 5 nls) (List.replicate 5 []) [] := by
  have h0 : Asc 0 [] := ⟨List.Pairwise.nil, fun x hx => by cases hx⟩
  refine ⟨Gw.start k, rfl, List.Perm.refl _, h0, fun j hj => ?_, Nat.le_refl _⟩
  rw [List.getD_eq_getElem?_getD, List.getElem?_replicate, if_pos hj]
  exact h0
/-- A row was put behind list k and behind all. -/
theorem Dl.put {w wr W w3 W4 w5 : World} {lb q : Nat} {v v3 v5 : Value} {V : List Value} {L : List (List RwM)} {A : List RwM} (h : Dl w wr lb q v V L A) (hq : q < 1024) {r : RwM} (hr : rightR r) (ht : r.time = (q : Int)) {k : Nat} (hk : k < 5) (kW : Kept wr W)
    (o3 : OwnR (lb + 1) w3 v3 (L.getD k [] ++ [r])) (k3 : Same (fun j => (V.getD k nls).ownBlock = some j) W w3) (n3 : ∀ j, v3.ownBlock = some j → (V.getD k nls).ownBlock = some j ∨ W.heap.size ≤ j)
    (k4 : Kept (w3.setCell ⟨lb, k, none⟩ v3) W4) (o5 : OwnR (lb + 1) w5 v5 (A ++ [r])) (k5 : Same (fun j => v.ownBlock = some j) W4 w5) (n5 : ∀ j, v5.ownBlock = some j → v.ownBlock = some j ∨ W4.heap.size ≤ j) :
    Dl w w5 lb (q + 1) v5 (V.set k v3) (L.set k (L.getD k [] ++ [r])) (A ++ [r]) := by
  have g1 := h.gw.put kW (by rw [h.five]; exact hk) o3 k3 n3
  have e1 : min q 1024 = q := by omega
  have e2 : min (q + 1) 1024 = q + 1 := by omega
  have ha := h.asc
  have hl := h.len
  rw [e1] at ha hl
  refine ⟨g1.more k4 o5 k5 n5, by rw [List.length_set, h.five], perm_set h.perm (by rw [h.five]; exact hk) r, by rw [e2]; exact ha.app hr ht, fun j hj => ?_, by rw [e2, List.length_append, List.length_singleton]; omega⟩
  have hj1 := h.ascs j hj
  rw [e1] at hj1
  rw [e2]
  by_cases e : k = j
  · subst e
    rw [getD_set_eq' (by rw [h.five]; exact hk)]
    exact hj1.app hr ht
  · rw [getD_set_ne' e]
    exact hj1.mono (Nat.le_succ q)
/-- All lists merge to the list that was dealt out. -/
theorem Dl.merge {w wr W : World} {lb q : Nat} {v : Value} {V : List Value} {L : List (List RwM)} {A : List RwM} (h : Dl w wr lb q v V L A) (k : Kept wr W) : Calls Try.prog 14 #[.int .i64 1, .slice (some ⟨lb, 0, none⟩) 5 5] W fun e w' => ∃ a c b d, e = .returned (.tuple #[.slice a A.length c, .int .i64 0]) ∧ v = .slice b A.length d ∧ RowsAt w' a A ∧ RowsAt w' b A ∧ Kept w w' := by
  have hm := merge11_ok (order := 1) (.inl rfl) (cap := 5) (L := L) (w := W) (by rw [h.five]; decide) (by rw [h.five]; decide) ((h.gw.on k).lists) (fun l hl => by
    obtain ⟨i, hi, rfl⟩ := List.mem_iff_getElem.1 hl
    have := (h.ascs i (by rw [← h.five]; exact hi)).look
    rwa [List.getD_eq_getElem?_getD, List.getElem?_eq_getElem hi, Option.getD_some] at this) (by
    have h1 := h.perm.length_eq
    have h2 := h.len
    omega)
  rw [h.five] at hm
  have e : A = srt (bef 1) L.flatten := srt_uniq (bef_swo 1) h.perm h.asc.pw
  rw [← e] at hm
  refine Calls.mono hm fun _ w' ⟨x, h1, h2, h3⟩ => ?_
  obtain ⟨a, c, rfl, r1, -⟩ := h2.rows
  obtain ⟨b, d, rfl, r2, -⟩ := h.gw.all.rows
  exact ⟨a, c, b, d, h1, rfl, r1, r2.on (k.trans' h3), h.gw.kept.trans' (k.trans' h3)⟩
theorem neq_row2 (r : RwM) (w : World) : (binOp .neq 32 (rowV r) (rowV r)).run Try.prog w = .ok (.bool false) w := by
  obtain ⟨kind, time, seq, index, frm, til, body⟩ := r
  unfold rowV
  go_simp
set_option maxRecDepth 100000 in
set_option maxHeartbeats 1000000 in
theorem cuts_law (w : World) (a : Option Addr) (cap : Nat) (l : List RwM) (h : ArgR w a cap l) (da : Option Addr) (dc : Nat) (d : List Int) (hd : NumA w da d ∧ d.length ≤ 140737488351232) : Calls Try.prog 5 #[.slice a l.length cap, .slice da d.length dc] w fun e w' => e = .returned (.bool true) ∧ Kept w w' := by
  have HA : Hid (∀ W, _) := anchor11_any
  have HR : Hid _ := h.rows
  have HD : Hid _ := hd.1
  have HV : Hid (∀ r W, _) := validR9_any
  have HP : Hid (∀ k t s i f u y W, _) := plain_f
  have hmk : ∀ W : World, _ := make_five
  obtain ⟨n, en⟩ : ∃ n, n = l.length := ⟨_, rfl⟩
  obtain ⟨m, em⟩ : ∃ m, m = d.length := ⟨_, rfl⟩
  have hn2 : n ≤ 2199023255552 := by rw [en]; have := h.len; omega
  have hm2 : m ≤ 140737488351232 := by rw [em]; exact hd.2
  rw [← en, ← em]
  have EN : Hid _ := en
  have EM : Hid _ := em
  have HST : Hid (∀ wr : World, Kept w wr → Dl w (wr.alloc (.cells (List.replicate 5 nls).toArray 39)) wr.heap.size 0 (.slice none 0 0) (List.replicate 5 nls) (List.replicate 5 []) []) := fun wr k => Dl.start k
  clear h hd en em
  generalize (List.replicate 5 nls).toArray = A5 at *
  go_enter Try.func5, Try.ntmps5
  go_wp2_with fail
  refine Calls.mono (HA.out _) ?_
  rintro e w1 ⟨rfl, k1⟩
  have D1 : Hid _ := HST.out _ k1
  clear k1 HA HST
  go_wp2_with fail
  generalize w1.heap.size = lb at *
  go_loopw [6, 19] (fun v i wr => ∃ (q : Nat) (V : List Value) (L : List (List RwM)) (A : List RwM), q ≤ n ∧ i = .int .i64 (q : Int) ∧ Dl w wr lb q v V L A) (fun _ i _ => n - (intOf i).toNat)
  case atStart => exact ⟨0, _, _, _, Nat.zero_le _, rfl, D1.out⟩
  case round =>
    clear D1 hmk
    obtain ⟨q, V, L, A, hq, rfl, dl⟩ := hrel
    by_cases hlt : q < n
    · have e1 : decide ((q : Int) < (n : Int)) = true := decide_eq_true (by omega)
      have e1' : (q : Int) < (n : Int) := by omega
      have HQ : Hid _ := hlt
      obtain ⟨r, hl⟩ : ∃ r, l[q]? = some r := ⟨_, List.getElem?_eq_getElem (by rw [← EN.out]; exact hlt)⟩
      obtain ⟨g, off, ea, hg, c0, c1, c2, c3, c4, c5, c6⟩ := (RowsAt.on HR.out dl.gw.kept) q r hl
      subst ea
      have DL : Hid _ := dl
      have HBX : Hid _ := heap_new wr (.cells #[.int .i64 r.kind, .int .i64 r.time, .int .i64 r.seq, .int .i64 r.index, .int .i64 r.frm, .int .i64 r.til, .string r.body] 32)
      have KB : Hid (Kept wr (wr.alloc (.cells #[.int .i64 r.kind, .int .i64 r.time, .int .i64 r.seq, .int .i64 r.index, .int .i64 r.frm, .int .i64 r.til, .string r.body] 32))) := (Same.refl _ wr).alloc _
      have HVr : Hid (∀ W, _) := HV.out r
      by_cases hv : rightR r
      · rw [decide_eq_true hv] at HVr
        have HVV : Hid _ := hv
        clear dl hl hv HV hq hg
        obtain ⟨kind, time, seq, index, frm, til, body⟩ := r
        unfold rowV at HVr
        simp only at *
        go_wp2_with fail
        refine Calls.mono (HP.out _ _ _ _ _ _ _ _) ?_
        rintro e w2 ⟨rfl, k2⟩
        have K2 : Hid _ := k2
        clear k2
        go_wp2_with fail
        refine Calls.mono (HVr.out _) ?_
        rintro e w3 ⟨rfl, k3⟩
        have k23 := K2.out.trans' k3
        have hb3 := (k23.block _ (lt_of_heap HBX.out) (fun e => e)).trans HBX.out
        obtain ⟨⟨y0, y1, y2, y3, y4, y5, y6⟩, f0, f1, f2, f3, f4, f5, f6⟩ := row_obj hb3
        have hh3 := lt_of_heap hb3
        have HB3 : Hid _ := hb3
        have K3 : Hid (Kept wr w3) := KB.out.trans' k23
        clear k3 k23 hb3 K2 HVr HP KB HBX c0 c1 c2 c3 c4 c5 c6
        have HHW : Hid (wr.heap.size ≤ wr.heap.size) := Nat.le_refl _
        by_cases hq2 : q < 1024
        · have m1 : Int.tmod (q : Int) 1024 = (q : Int) := by rw [Int.tmod_eq_emod_of_nonneg (by omega)]; omega
          have m2 : Int.tmod (q : Int) 4096 = (q : Int) := by rw [Int.tmod_eq_emod_of_nonneg (by omega)]; omega
          have m3 : ¬ (1024 : Int) ≤ (q : Int) := by omega
          have m4 : ¬ 1024 ≤ q := by omega
          have HWF : Hid (((w3.setCell ⟨wr.heap.size, 1, none⟩ (.int .i64 (q : Int))).setCell ⟨wr.heap.size, 3, none⟩ (.int .i64 (q : Int))).heap[wr.heap.size]? = some (.cells #[.int .i64 kind, .int .i64 (q : Int), .int .i64 seq, .int .i64 (q : Int), .int .i64 frm, .int .i64 til, .string body] 32 (0, 0)) ∧ Kept wr ((w3.setCell ⟨wr.heap.size, 1, none⟩ (.int .i64 (q : Int))).setCell ⟨wr.heap.size, 3, none⟩ (.int .i64 (q : Int)))) := ⟨(setCell_at (setCell_at HB3.out _ _) _ _).trans rfl, (K3.out.setCell ⟨wr.heap.size, 1, none⟩ (.inl (Nat.le_refl _)) _).setCell ⟨wr.heap.size, 3, none⟩ (.inl (Nat.le_refl _)) _⟩
          have HSZ : Hid (∃ h, h = wr.heap.size) := ⟨_, rfl⟩
          obtain ⟨h, eh⟩ := HSZ.out
          have EH : Hid _ := eh
          rw [← eh] at HWF y0 y1 y2 y3 y4 y5 y6 f0 f1 f2 f3 f4 f5 f6 hh3 ⊢
          clear eh HSZ HB3 HHW
          go_upto_region 12 with fail
          generalize ((w3.setCell ⟨h, 1, none⟩ (.int .i64 (q : Int))).setCell ⟨h, 3, none⟩ (.int .i64 (q : Int))) = W at HWF ⊢
          clear y0 y1 y2 y3 y4 y5 y6 f0 f1 f2 f3 f4 f5 f6 hh3 m1 m2 m3 m4 K3
          obtain ⟨⟨y0, y1, y2, y3, y4, y5, y6⟩, -⟩ := row_obj HWF.out.1
          have hhW := lt_of_heap HWF.out.1
          have GW : Hid _ := DL.out.gw.on HWF.out.2
          have HNA : Hid _ := NumA.on HD.out GW.out.kept
          have HRR : Hid (rightR (⟨kind, (q : Int), seq, (q : Int), frm, til, body⟩ : RwM)) := by
            have h0 := HVV.out
            exact ⟨h0.1, ⟨by show (0 : Int) ≤ (q : Int); omega, by show (q : Int) ≤ 1099511627776; omega⟩, h0.2.2.1, ⟨by show (0 : Int) ≤ (q : Int); omega, by show (q : Int) ≤ 4095; omega⟩, h0.2.2.2.2⟩
          have HQ2 : Hid _ := hq2
          have HPRE : Hid (∀ k, k < 5 → ∃ (x : Value) (X : List RwM), x = V.getD k nls ∧ X = L.getD k [] ++ [(⟨kind, (q : Int), seq, (q : Int), frm, til, body⟩ : RwM)] ∧ W.cell? ⟨lb, k, none⟩ = some x ∧ lb < W.heap.size ∧ x.ownBlock ≠ some lb ∧ x.ownBlock ≠ some h ∧ lb ≠ h ∧ ∀ (W' : World) (bb : Nat), Kept W W' → W'.heap[bb]? = some (Obj.cells #[.int .i64 kind, .int .i64 (q : Int), .int .i64 seq, .int .i64 (q : Int), .int .i64 frm, .int .i64 til, .string body] 32 (0, 0)) → ∀ ty, ∃ v' w', (Builtin.append_ #[39, 39] ty #[x, .slice (some ⟨bb, 0, none⟩) 1 1]).run Try.prog W' = .ok v' w' ∧ OwnR (lb + 1) w' v' X ∧ Same (fun j => x.ownBlock = some j) W' w' ∧ ∀ j, v'.ownBlock = some j → x.ownBlock = some j ∨ W'.heap.size ≤ j) := fun k hk => by
            have h5 := DL.out.five
            obtain ⟨c1, -, c3⟩ := GW.out.cell (i := k) (by rw [h5]; exact hk)
            have hlen : (L.getD k []).length ≤ 1024 := by
              have h1 := DL.out.perm.length_eq
              have h2 := DL.out.len
              have h3 : L.getD k [] ∈ L := by
                rw [List.getD_eq_getElem?_getD, List.getElem?_eq_getElem (by rw [h5]; exact hk)]
                exact List.getElem_mem _
              have := mem_flat_le h3
              omega
            have o0 := DL.out.gw.own k (by rw [h5]; exact hk)
            have o1 := GW.out.own k (by rw [h5]; exact hk)
            have hlb := lt_of_heap DL.out.gw.tab
            refine ⟨_, _, rfl, rfl, c1, c3, fun e => ?_, fun e => ?_, by rw [EH.out]; omega, fun W' bb k' hc ty => app_row_at (⟨kind, (q : Int), seq, (q : Int), frm, til, body⟩ : RwM) (o1.kept k' (fun _ _ e => e)) hc (by omega) (Nat.le_trans GW.out.sz k'.size) ty⟩
            · have := (o0.block e).1
              omega
            · have := (o0.block e).2
              rw [EH.out] at this
              omega
          by_cases hqm : q < m
          · have g1 : (q : Int) < (m : Int) := by omega
            obtain ⟨y, hy⟩ : ∃ y, d[q]? = some y := ⟨_, List.getElem?_eq_getElem (by rw [← EM.out]; exact hqm)⟩
            obtain ⟨db, doff, ed, hdb, cd⟩ := HNA.out q y hy
            subst ed
            by_cases hy0 : 0 ≤ y
            · obtain ⟨k, ek⟩ : ∃ k : Nat, Int.tmod y 5 = (k : Int) := ⟨(Int.tmod y 5).toNat, by rw [Int.tmod_eq_emod_of_nonneg hy0]; omega⟩
              have hk : k < 5 := by rw [Int.tmod_eq_emod_of_nonneg hy0] at ek; omega
              have d0 : decide (0 ≤ y) = true := decide_eq_true hy0
              have hk2 : (k : Int) < 5 := by omega
              clear hy HNA
              obtain ⟨x, X, ex, eX, cx, hlb, hxl, hxh, hlh, hap⟩ := HPRE.out k hk
              have EX : Hid _ := ex
              have EX2 : Hid _ := eX
              have HK5 : Hid (k < 5) := hk
              have HAPP : Hid _ := hap
              have HCE : Hid (∀ W' w4, Kept W W' → Same (fun j => x.ownBlock = some j) W' w4 → w4.cell? ⟨lb, k, none⟩ = some x ∧ w4.frozen? ⟨lb, k, none⟩ = false ∧ lb < w4.heap.size) := fun W' w4 k' k3 => by
                have t2 := ((k'.trans' (Same.refl _ _)).block lb hlb (fun e => e)).trans GW.out.tab
                have t3 := (k3.block lb (lt_of_heap t2) hxl).trans t2
                have c2 := (k'.cell (p := ⟨lb, k, none⟩) hlb (fun e => e)).trans cx
                exact ⟨(k3.cell (p := ⟨lb, k, none⟩) (lt_of_heap t2) hxl).trans c2, frozen_of t3 k, lt_of_heap t3⟩
              have HBK : Hid (∀ W' w4, Kept W W' → Same (fun j => x.ownBlock = some j) W' w4 → w4.heap[h]? = some (.cells #[.int .i64 kind, .int .i64 (q : Int), .int .i64 seq, .int .i64 (q : Int), .int .i64 frm, .int .i64 til, .string body] 32 (0, 0))) := fun W' w4 k' k3 => by
                have t2 := (k'.block h hhW (fun e => e)).trans HWF.out.1
                exact (k3.block h (lt_of_heap t2) hxh).trans t2
              have HN3 : Hid (∀ (W' : World) (v' : Value), Kept W W' → (∀ j, v'.ownBlock = some j → x.ownBlock = some j ∨ W'.heap.size ≤ j) → ∀ j, v'.ownBlock = some j → x.ownBlock = some j ∨ W.heap.size ≤ j) := fun W' v' k' h1 j hj => (h1 j hj).imp id fun e => Nat.le_trans k'.size e
              have HK3 : Hid (∀ W' w4 : World, Kept W W' → Same (fun j => x.ownBlock = some j) W' w4 → Same (fun j => x.ownBlock = some j) W w4) := fun W' w4 k' k3 => (k'.to _).trans' k3
              clear ex eX hap hxl hxh HPRE
              go_upto_region 14 with fail
              go_region_law ((refine step_app rfl (.tmp 57) (.tmp 59) 39 rfl x (.slice (some ⟨W.heap.size, 0, none⟩) 1 1) rfl rfl _ (HAPP.out _ _ (by (repeat (first | assumption | exact Same.refl _ _ | apply Same.alloc | apply Same.drew | apply Same.drewN)); done) (by exact heap_new _ _)) ?_); rintro v3 w4 ⟨o3, k3, n3⟩; obtain ⟨e4, f4, hb4⟩ := HCE.out _ w4 (by (repeat (first | assumption | exact Same.refl _ _ | apply Same.alloc | apply Same.drew | apply Same.drewN)); done) k3; have kc3 : Hid _ := HBK.out _ w4 (by (repeat (first | assumption | exact Same.refl _ _ | apply Same.alloc | apply Same.drew | apply Same.drewN)); done) k3; have nn3 := HN3.out _ _ (by (repeat (first | assumption | exact Same.refl _ _ | apply Same.alloc | apply Same.drew | apply Same.drewN)); done) n3; have kk3 := HK3.out _ _ (by (repeat (first | assumption | exact Same.refl _ _ | apply Same.alloc | apply Same.drew | apply Same.drewN)); done) k3; have Q : Hid _ := And.intro o3 (And.intro kk3 nn3); obtain ⟨a3, cp3, ev3, -⟩ := OwnR.rows o3; subst ev3; clear o3 k3 n3 kk3 nn3)
              all_goals
                have G5 : Hid (Gw w (w4.setCell ⟨lb, k, none⟩ (.slice a3 X.length cp3)) (lb + 1) lb (V.set k (.slice a3 X.length cp3)) (L.set k (L.getD k [] ++ [(⟨kind, (q : Int), seq, (q : Int), frm, til, body⟩ : RwM)])) u6 A) := by
                  have q1 := Q.out
                  have q0 : OwnR (lb + 1) w4 (.slice a3 X.length cp3) (L.getD k [] ++ [(⟨kind, (q : Int), seq, (q : Int), frm, til, body⟩ : RwM)]) := by
                    rw [← EX2.out]
                    exact q1.1
                  have q2 := q1.2
                  rw [EX.out] at q2
                  exact DL.out.gw.put HWF.out.2 (by rw [DL.out.five]; exact HK5.out) q0 q2.1 q2.2
                have HFIN : Hid (∀ W4 w5 v5, Kept (w4.setCell ⟨lb, k, none⟩ (.slice a3 X.length cp3)) W4 → OwnR (lb + 1) w5 v5 (A ++ [(⟨kind, (q : Int), seq, (q : Int), frm, til, body⟩ : RwM)]) → Same (fun j => u6.ownBlock = some j) W4 w5 → (∀ j, v5.ownBlock = some j → u6.ownBlock = some j ∨ W4.heap.size ≤ j) → ∃ V L, Dl w w5 lb (q + 1) v5 V L (A ++ [(⟨kind, (q : Int), seq, (q : Int), frm, til, body⟩ : RwM)])) := fun W4 w5 v5 k4 o5 k5 n5 => by
                  have q1 := Q.out
                  have q0 : OwnR (lb + 1) w4 (.slice a3 X.length cp3) (L.getD k [] ++ [(⟨kind, (q : Int), seq, (q : Int), frm, til, body⟩ : RwM)]) := by
                    rw [← EX2.out]
                    exact q1.1
                  have q2 := q1.2
                  rw [EX.out] at q2
                  exact ⟨_, _, DL.out.put HQ2.out HRR.out rfl (k := k) HK5.out HWF.out.2 q0 q2.1 q2.2 k4 o5 k5 n5⟩
                have hb5 : (w4.setCell ⟨lb, k, none⟩ (.slice a3 X.length cp3)).heap[h]? = some (.cells #[.int .i64 kind, .int .i64 (q : Int), .int .i64 seq, .int .i64 (q : Int), .int .i64 frm, .int .i64 til, .string body] 32 (0, 0)) := (((Same.refl (fun k => k = lb) w4).setCell ⟨lb, k, none⟩ (.inr rfl) _).block h (lt_of_heap kc3.out) (fun e => hlh e.symm)).trans kc3.out
                have HB5 : Hid _ := hb5
                clear hb5 kc3 Q e4 f4 hb4 y0 y1 y2 y3 y4 y5 y6 cx hlb hlh HAPP HCE HBK HN3 HK3 GW
                generalize w4.setCell ⟨lb, k, none⟩ (.slice a3 X.length cp3) = W5 at G5 HFIN HB5 ⊢
                obtain ⟨⟨y0, y1, y2, y3, y4, y5, y6⟩, -⟩ := row_obj HB5.out
                have HA5 : Hid (∀ g, g = W5.heap.size → ∀ ty, ∃ v' w', (Builtin.append_ #[39, 39] ty #[u6, .slice (some ⟨g, 0, none⟩) 1 1]).run Try.prog (W5.alloc (.cells #[.int .i64 kind, .int .i64 (q : Int), .int .i64 seq, .int .i64 (q : Int), .int .i64 frm, .int .i64 til, .string body] 32)) = .ok v' w' ∧ ∃ V L, Dl w w' lb (q + 1) v' V L (A ++ [(⟨kind, (q : Int), seq, (q : Int), frm, til, body⟩ : RwM)])) := fun g hg ty => by
                  obtain ⟨v', w', h1, h2, h3, h4⟩ := app_row_one (⟨kind, (q : Int), seq, (q : Int), frm, til, body⟩ : RwM) G5.out.all (by have := DL.out.len; omega) G5.out.sz ty
                  rw [hg]
                  exact ⟨v', w', h1, HFIN.out W5 w' v' (Same.refl _ _) h2 h3 h4⟩
                clear G5 HFIN HB5
                go_wp2_with (at_builtin; refine wpList_app rfl (.tmp 62) (.tmp 64) 39 39 rfl u6 (.slice (some ⟨_, 0, none⟩) 1 1) rfl rfl _ (HA5.out _ (by first | rfl | simp)) ?_; rintro v5 w5 d5; have D5 : Hid _ := d5; clear d5)
                go_roundw
                case rel =>
                  obtain ⟨V', L', d5⟩ := D5.out
                  exact ⟨q + 1, V', L', _, HQ.out, by rw [Int.natCast_add]; rfl, d5⟩
                case measure => simp only [intOf]; omega
            · have d0 : decide (0 ≤ y) = false := decide_eq_false hy0
              clear hy HNA
              obtain ⟨x, X, ex, eX, cx, hlb, hxl, hxh, hlh, hap⟩ := HPRE.out 0 (Nat.succ_pos 4)
              have EX : Hid _ := ex
              have EX2 : Hid _ := eX
              have HK5 : Hid (0 < 5) := (Nat.succ_pos 4)
              have HAPP : Hid _ := hap
              have HCE : Hid (∀ W' w4, Kept W W' → Same (fun j => x.ownBlock = some j) W' w4 → w4.cell? ⟨lb, 0, none⟩ = some x ∧ w4.frozen? ⟨lb, 0, none⟩ = false ∧ lb < w4.heap.size) := fun W' w4 k' k3 => by
                have t2 := ((k'.trans' (Same.refl _ _)).block lb hlb (fun e => e)).trans GW.out.tab
                have t3 := (k3.block lb (lt_of_heap t2) hxl).trans t2
                have c2 := (k'.cell (p := ⟨lb, 0, none⟩) hlb (fun e => e)).trans cx
                exact ⟨(k3.cell (p := ⟨lb, 0, none⟩) (lt_of_heap t2) hxl).trans c2, frozen_of t3 0, lt_of_heap t3⟩
              have HBK : Hid (∀ W' w4, Kept W W' → Same (fun j => x.ownBlock = some j) W' w4 → w4.heap[h]? = some (.cells #[.int .i64 kind, .int .i64 (q : Int), .int .i64 seq, .int .i64 (q : Int), .int .i64 frm, .int .i64 til, .string body] 32 (0, 0))) := fun W' w4 k' k3 => by
                have t2 := (k'.block h hhW (fun e => e)).trans HWF.out.1
                exact (k3.block h (lt_of_heap t2) hxh).trans t2
              have HN3 : Hid (∀ (W' : World) (v' : Value), Kept W W' → (∀ j, v'.ownBlock = some j → x.ownBlock = some j ∨ W'.heap.size ≤ j) → ∀ j, v'.ownBlock = some j → x.ownBlock = some j ∨ W.heap.size ≤ j) := fun W' v' k' h1 j hj => (h1 j hj).imp id fun e => Nat.le_trans k'.size e
              have HK3 : Hid (∀ W' w4 : World, Kept W W' → Same (fun j => x.ownBlock = some j) W' w4 → Same (fun j => x.ownBlock = some j) W w4) := fun W' w4 k' k3 => (k'.to _).trans' k3
              clear ex eX hap hxl hxh HPRE
              go_upto_region 14 with fail
              go_region_law ((refine step_app rfl (.tmp 57) (.tmp 59) 39 rfl x (.slice (some ⟨W.heap.size, 0, none⟩) 1 1) rfl rfl _ (HAPP.out _ _ (by (repeat (first | assumption | exact Same.refl _ _ | apply Same.alloc | apply Same.drew | apply Same.drewN)); done) (by exact heap_new _ _)) ?_); rintro v3 w4 ⟨o3, k3, n3⟩; obtain ⟨e4, f4, hb4⟩ := HCE.out _ w4 (by (repeat (first | assumption | exact Same.refl _ _ | apply Same.alloc | apply Same.drew | apply Same.drewN)); done) k3; have kc3 : Hid _ := HBK.out _ w4 (by (repeat (first | assumption | exact Same.refl _ _ | apply Same.alloc | apply Same.drew | apply Same.drewN)); done) k3; have nn3 := HN3.out _ _ (by (repeat (first | assumption | exact Same.refl _ _ | apply Same.alloc | apply Same.drew | apply Same.drewN)); done) n3; have kk3 := HK3.out _ _ (by (repeat (first | assumption | exact Same.refl _ _ | apply Same.alloc | apply Same.drew | apply Same.drewN)); done) k3; have Q : Hid _ := And.intro o3 (And.intro kk3 nn3); obtain ⟨a3, cp3, ev3, -⟩ := OwnR.rows o3; subst ev3; clear o3 k3 n3 kk3 nn3)
              all_goals
                have G5 : Hid (Gw w (w4.setCell ⟨lb, 0, none⟩ (.slice a3 X.length cp3)) (lb + 1) lb (V.set 0 (.slice a3 X.length cp3)) (L.set 0 (L.getD 0 [] ++ [(⟨kind, (q : Int), seq, (q : Int), frm, til, body⟩ : RwM)])) u6 A) := by
                  have q1 := Q.out
                  have q0 : OwnR (lb + 1) w4 (.slice a3 X.length cp3) (L.getD 0 [] ++ [(⟨kind, (q : Int), seq, (q : Int), frm, til, body⟩ : RwM)]) := by
                    rw [← EX2.out]
                    exact q1.1
                  have q2 := q1.2
                  rw [EX.out] at q2
                  exact DL.out.gw.put HWF.out.2 (by rw [DL.out.five]; exact HK5.out) q0 q2.1 q2.2
                have HFIN : Hid (∀ W4 w5 v5, Kept (w4.setCell ⟨lb, 0, none⟩ (.slice a3 X.length cp3)) W4 → OwnR (lb + 1) w5 v5 (A ++ [(⟨kind, (q : Int), seq, (q : Int), frm, til, body⟩ : RwM)]) → Same (fun j => u6.ownBlock = some j) W4 w5 → (∀ j, v5.ownBlock = some j → u6.ownBlock = some j ∨ W4.heap.size ≤ j) → ∃ V L, Dl w w5 lb (q + 1) v5 V L (A ++ [(⟨kind, (q : Int), seq, (q : Int), frm, til, body⟩ : RwM)])) := fun W4 w5 v5 k4 o5 k5 n5 => by
                  have q1 := Q.out
                  have q0 : OwnR (lb + 1) w4 (.slice a3 X.length cp3) (L.getD 0 [] ++ [(⟨kind, (q : Int), seq, (q : Int), frm, til, body⟩ : RwM)]) := by
                    rw [← EX2.out]
                    exact q1.1
                  have q2 := q1.2
                  rw [EX.out] at q2
                  exact ⟨_, _, DL.out.put HQ2.out HRR.out rfl (k := 0) HK5.out HWF.out.2 q0 q2.1 q2.2 k4 o5 k5 n5⟩
                have hb5 : (w4.setCell ⟨lb, 0, none⟩ (.slice a3 X.length cp3)).heap[h]? = some (.cells #[.int .i64 kind, .int .i64 (q : Int), .int .i64 seq, .int .i64 (q : Int), .int .i64 frm, .int .i64 til, .string body] 32 (0, 0)) := (((Same.refl (fun k => k = lb) w4).setCell ⟨lb, 0, none⟩ (.inr rfl) _).block h (lt_of_heap kc3.out) (fun e => hlh e.symm)).trans kc3.out
                have HB5 : Hid _ := hb5
                clear hb5 kc3 Q e4 f4 hb4 y0 y1 y2 y3 y4 y5 y6 cx hlb hlh HAPP HCE HBK HN3 HK3 GW
                generalize w4.setCell ⟨lb, 0, none⟩ (.slice a3 X.length cp3) = W5 at G5 HFIN HB5 ⊢
                obtain ⟨⟨y0, y1, y2, y3, y4, y5, y6⟩, -⟩ := row_obj HB5.out
                have HA5 : Hid (∀ g, g = W5.heap.size → ∀ ty, ∃ v' w', (Builtin.append_ #[39, 39] ty #[u6, .slice (some ⟨g, 0, none⟩) 1 1]).run Try.prog (W5.alloc (.cells #[.int .i64 kind, .int .i64 (q : Int), .int .i64 seq, .int .i64 (q : Int), .int .i64 frm, .int .i64 til, .string body] 32)) = .ok v' w' ∧ ∃ V L, Dl w w' lb (q + 1) v' V L (A ++ [(⟨kind, (q : Int), seq, (q : Int), frm, til, body⟩ : RwM)])) := fun g hg ty => by
                  obtain ⟨v', w', h1, h2, h3, h4⟩ := app_row_one (⟨kind, (q : Int), seq, (q : Int), frm, til, body⟩ : RwM) G5.out.all (by have := DL.out.len; omega) G5.out.sz ty
                  rw [hg]
                  exact ⟨v', w', h1, HFIN.out W5 w' v' (Same.refl _ _) h2 h3 h4⟩
                clear G5 HFIN HB5
                go_wp2_with (at_builtin; refine wpList_app rfl (.tmp 62) (.tmp 64) 39 39 rfl u6 (.slice (some ⟨_, 0, none⟩) 1 1) rfl rfl _ (HA5.out _ (by first | rfl | simp)) ?_; rintro v5 w5 d5; have D5 : Hid _ := d5; clear d5)
                go_roundw
                case rel =>
                  obtain ⟨V', L', d5⟩ := D5.out
                  exact ⟨q + 1, V', L', _, HQ.out, by rw [Int.natCast_add]; rfl, d5⟩
                case measure => simp only [intOf]; omega
          · have g1 : ¬ (q : Int) < (m : Int) := by omega
            clear HNA
            obtain ⟨x, X, ex, eX, cx, hlb, hxl, hxh, hlh, hap⟩ := HPRE.out 0 (Nat.succ_pos 4)
            have EX : Hid _ := ex
            have EX2 : Hid _ := eX
            have HK5 : Hid (0 < 5) := (Nat.succ_pos 4)
            have HAPP : Hid _ := hap
            have HCE : Hid (∀ W' w4, Kept W W' → Same (fun j => x.ownBlock = some j) W' w4 → w4.cell? ⟨lb, 0, none⟩ = some x ∧ w4.frozen? ⟨lb, 0, none⟩ = false ∧ lb < w4.heap.size) := fun W' w4 k' k3 => by
              have t2 := ((k'.trans' (Same.refl _ _)).block lb hlb (fun e => e)).trans GW.out.tab
              have t3 := (k3.block lb (lt_of_heap t2) hxl).trans t2
              have c2 := (k'.cell (p := ⟨lb, 0, none⟩) hlb (fun e => e)).trans cx
              exact ⟨(k3.cell (p := ⟨lb, 0, none⟩) (lt_of_heap t2) hxl).trans c2, frozen_of t3 0, lt_of_heap t3⟩
            have HBK : Hid (∀ W' w4, Kept W W' → Same (fun j => x.ownBlock = some j) W' w4 → w4.heap[h]? = some (.cells #[.int .i64 kind, .int .i64 (q : Int), .int .i64 seq, .int .i64 (q : Int), .int .i64 frm, .int .i64 til, .string body] 32 (0, 0))) := fun W' w4 k' k3 => by
              have t2 := (k'.block h hhW (fun e => e)).trans HWF.out.1
              exact (k3.block h (lt_of_heap t2) hxh).trans t2
            have HN3 : Hid (∀ (W' : World) (v' : Value), Kept W W' → (∀ j, v'.ownBlock = some j → x.ownBlock = some j ∨ W'.heap.size ≤ j) → ∀ j, v'.ownBlock = some j → x.ownBlock = some j ∨ W.heap.size ≤ j) := fun W' v' k' h1 j hj => (h1 j hj).imp id fun e => Nat.le_trans k'.size e
            have HK3 : Hid (∀ W' w4 : World, Kept W W' → Same (fun j => x.ownBlock = some j) W' w4 → Same (fun j => x.ownBlock = some j) W w4) := fun W' w4 k' k3 => (k'.to _).trans' k3
            clear ex eX hap hxl hxh HPRE
            go_upto_region 14 with fail
            go_region_law ((refine step_app rfl (.tmp 57) (.tmp 59) 39 rfl x (.slice (some ⟨W.heap.size, 0, none⟩) 1 1) rfl rfl _ (HAPP.out _ _ (by (repeat (first | assumption | exact Same.refl _ _ | apply Same.alloc | apply Same.drew | apply Same.drewN)); done) (by exact heap_new _ _)) ?_); rintro v3 w4 ⟨o3, k3, n3⟩; obtain ⟨e4, f4, hb4⟩ := HCE.out _ w4 (by (repeat (first | assumption | exact Same.refl _ _ | apply Same.alloc | apply Same.drew | apply Same.drewN)); done) k3; have kc3 : Hid _ := HBK.out _ w4 (by (repeat (first | assumption | exact Same.refl _ _ | apply Same.alloc | apply Same.drew | apply Same.drewN)); done) k3; have nn3 := HN3.out _ _ (by (repeat (first | assumption | exact Same.refl _ _ | apply Same.alloc | apply Same.drew | apply Same.drewN)); done) n3; have kk3 := HK3.out _ _ (by (repeat (first | assumption | exact Same.refl _ _ | apply Same.alloc | apply Same.drew | apply Same.drewN)); done) k3; have Q : Hid _ := And.intro o3 (And.intro kk3 nn3); obtain ⟨a3, cp3, ev3, -⟩ := OwnR.rows o3; subst ev3; clear o3 k3 n3 kk3 nn3)
            all_goals
              have G5 : Hid (Gw w (w4.setCell ⟨lb, 0, none⟩ (.slice a3 X.length cp3)) (lb + 1) lb (V.set 0 (.slice a3 X.length cp3)) (L.set 0 (L.getD 0 [] ++ [(⟨kind, (q : Int), seq, (q : Int), frm, til, body⟩ : RwM)])) u6 A) := by
                have q1 := Q.out
                have q0 : OwnR (lb + 1) w4 (.slice a3 X.length cp3) (L.getD 0 [] ++ [(⟨kind, (q : Int), seq, (q : Int), frm, til, body⟩ : RwM)]) := by
                  rw [← EX2.out]
                  exact q1.1
                have q2 := q1.2
                rw [EX.out] at q2
                exact DL.out.gw.put HWF.out.2 (by rw [DL.out.five]; exact HK5.out) q0 q2.1 q2.2
              have HFIN : Hid (∀ W4 w5 v5, Kept (w4.setCell ⟨lb, 0, none⟩ (.slice a3 X.length cp3)) W4 → OwnR (lb + 1) w5 v5 (A ++ [(⟨kind, (q : Int), seq, (q : Int), frm, til, body⟩ : RwM)]) → Same (fun j => u6.ownBlock = some j) W4 w5 → (∀ j, v5.ownBlock = some j → u6.ownBlock = some j ∨ W4.heap.size ≤ j) → ∃ V L, Dl w w5 lb (q + 1) v5 V L (A ++ [(⟨kind, (q : Int), seq, (q : Int), frm, til, body⟩ : RwM)])) := fun W4 w5 v5 k4 o5 k5 n5 => by
                have q1 := Q.out
                have q0 : OwnR (lb + 1) w4 (.slice a3 X.length cp3) (L.getD 0 [] ++ [(⟨kind, (q : Int), seq, (q : Int), frm, til, body⟩ : RwM)]) := by
                  rw [← EX2.out]
                  exact q1.1
                have q2 := q1.2
                rw [EX.out] at q2
                exact ⟨_, _, DL.out.put HQ2.out HRR.out rfl (k := 0) HK5.out HWF.out.2 q0 q2.1 q2.2 k4 o5 k5 n5⟩
              have hb5 : (w4.setCell ⟨lb, 0, none⟩ (.slice a3 X.length cp3)).heap[h]? = some (.cells #[.int .i64 kind, .int .i64 (q : Int), .int .i64 seq, .int .i64 (q : Int), .int .i64 frm, .int .i64 til, .string body] 32 (0, 0)) := (((Same.refl (fun k => k = lb) w4).setCell ⟨lb, 0, none⟩ (.inr rfl) _).block h (lt_of_heap kc3.out) (fun e => hlh e.symm)).trans kc3.out
              have HB5 : Hid _ := hb5
              clear hb5 kc3 Q e4 f4 hb4 y0 y1 y2 y3 y4 y5 y6 cx hlb hlh HAPP HCE HBK HN3 HK3 GW
              generalize w4.setCell ⟨lb, 0, none⟩ (.slice a3 X.length cp3) = W5 at G5 HFIN HB5 ⊢
              obtain ⟨⟨y0, y1, y2, y3, y4, y5, y6⟩, -⟩ := row_obj HB5.out
              have HA5 : Hid (∀ g, g = W5.heap.size → ∀ ty, ∃ v' w', (Builtin.append_ #[39, 39] ty #[u6, .slice (some ⟨g, 0, none⟩) 1 1]).run Try.prog (W5.alloc (.cells #[.int .i64 kind, .int .i64 (q : Int), .int .i64 seq, .int .i64 (q : Int), .int .i64 frm, .int .i64 til, .string body] 32)) = .ok v' w' ∧ ∃ V L, Dl w w' lb (q + 1) v' V L (A ++ [(⟨kind, (q : Int), seq, (q : Int), frm, til, body⟩ : RwM)])) := fun g hg ty => by
                obtain ⟨v', w', h1, h2, h3, h4⟩ := app_row_one (⟨kind, (q : Int), seq, (q : Int), frm, til, body⟩ : RwM) G5.out.all (by have := DL.out.len; omega) G5.out.sz ty
                rw [hg]
                exact ⟨v', w', h1, HFIN.out W5 w' v' (Same.refl _ _) h2 h3 h4⟩
              clear G5 HFIN HB5
              go_wp2_with (at_builtin; refine wpList_app rfl (.tmp 62) (.tmp 64) 39 39 rfl u6 (.slice (some ⟨_, 0, none⟩) 1 1) rfl rfl _ (HA5.out _ (by first | rfl | simp)) ?_; rintro v5 w5 d5; have D5 : Hid _ := d5; clear d5)
              go_roundw
              case rel =>
                obtain ⟨V', L', d5⟩ := D5.out
                exact ⟨q + 1, V', L', _, HQ.out, by rw [Int.natCast_add]; rfl, d5⟩
              case measure => simp only [intOf]; omega
        · have m3 : (1024 : Int) ≤ (q : Int) := by omega
          have m4 : 1024 ≤ q := by omega
          have KF : Hid (∀ x y, Kept wr ((w3.setCell ⟨wr.heap.size, 1, none⟩ x).setCell ⟨wr.heap.size, 3, none⟩ y)) := fun x y => (K3.out.setCell ⟨wr.heap.size, 1, none⟩ (.inl (Nat.le_refl _)) x).setCell ⟨wr.heap.size, 3, none⟩ (.inl (Nat.le_refl _)) y
          generalize wr.heap.size = h at *
          clear hq2
          go_wp2_with fail
          go_roundw
          case rel => exact ⟨q + 1, V, L, A, HQ.out, by rw [Int.natCast_add]; rfl, DL.out.skip (KF.out _ _)⟩
          case measure => simp only [intOf]; omega
      · rw [decide_eq_false hv] at HVr
        clear dl hl hv HV hq hg
        obtain ⟨kind, time, seq, index, frm, til, body⟩ := r
        unfold rowV at HVr
        simp only at *
        go_wp2_with fail
        refine Calls.mono (HP.out _ _ _ _ _ _ _ _) ?_
        rintro e w2 ⟨rfl, k2⟩
        have K2 : Hid _ := KB.out.trans' k2
        clear k2
        go_wp2_with fail
        refine Calls.mono (HVr.out _) ?_
        rintro e w3 ⟨rfl, k3⟩
        have K3 : Hid _ := K2.out.trans' k3
        clear k3 K2 HVr HP KB HBX
        go_wp2_with fail
        go_roundw
        case rel => exact ⟨q + 1, V, L, A, HQ.out, by rw [Int.natCast_add]; rfl, DL.out.skip K3.out⟩
        case measure => simp only [intOf]; omega
    · obtain rfl : n = q := by omega
      have e1 : decide ((n : Int) < (n : Int)) = false := by simp
      have HM : Hid (Calls _ _ _ _ _) := dl.merge (Same.refl _ wr)
      have HAL : Hid (A.length ≤ 1024) := by have := dl.len; show A.length ≤ 1024; omega
      clear dl hq hlt
      go_wp2_with fail
      refine Calls.mono HM.out ?_
      rintro e w2 ⟨oa, oc, ob, od, rfl, rfl, r1, r2, k2⟩
      have R1 : Hid _ := r1
      have R2 : Hid _ := r2
      have K2 : Hid _ := k2
      obtain ⟨z, ez⟩ : ∃ z, z = A.length := ⟨_, rfl⟩
      rw [← ez]
      have EZ : Hid _ := ez
      have hz : z ≤ 1024 := by rw [ez]; exact HAL.out
      clear r1 r2 k2 HM ez
      go_wp2_with fail
      have hne : ∀ (r : RwM) (W : World), (binOp .neq 32 (rowV r) (rowV r)).run Try.prog W = .ok (.bool false) W := neq_row2
      have HNE : Hid _ := hne
      clear hne
      go_loopw [83] (fun i wr => ∃ q : Nat, q ≤ z ∧ i = .int .i64 (q : Int) ∧ Kept w2 wr) (fun i _ => z - (intOf i).toNat)
      case atStart => exact ⟨0, Nat.zero_le _, rfl, Same.refl _ _⟩
      case round =>
        obtain ⟨q, hq, rfl, kk⟩ := hrel
        by_cases hlt : q < z
        · have e1 : decide ((q : Int) < (z : Int)) = true := decide_eq_true (by omega)
          have e1' : (q : Int) < (z : Int) := by omega
          have HQ : Hid _ := hlt
          obtain ⟨r, hl⟩ : ∃ r, A[q]? = some r := ⟨_, List.getElem?_eq_getElem (by rw [← EZ.out]; exact hlt)⟩
          obtain ⟨g, off, ea, hg, c0, c1, c2, c3, c4, c5, c6⟩ := (RowsAt.on R1.out kk) q r hl
          subst ea
          obtain ⟨g2, off2, eb, hg2, d0, d1, d2, d3, d4, d5, d6⟩ := (RowsAt.on R2.out kk) q r hl
          subst eb
          have hne : ∀ W : World, _ := HNE.out r
          have KF : Hid (Kept w2 (wr.alloc (.cells #[.int .i64 r.kind, .int .i64 r.time, .int .i64 r.seq, .int .i64 r.index, .int .i64 r.frm, .int .i64 r.til, .string r.body] 32))) := kk.alloc _
          have t : ∀ o, (wr.alloc (.cells #[.int .i64 r.kind, .int .i64 r.time, .int .i64 r.seq, .int .i64 r.index, .int .i64 r.frm, .int .i64 r.til, .string r.body] 32)).cell? ⟨g2, o, none⟩ = wr.cell? ⟨g2, o, none⟩ := fun o => ((Same.refl (fun _ => False) wr).alloc _).cell (p := ⟨g2, o, none⟩) hg2 (fun e => e)
          clear kk hl
          obtain ⟨kind, time, seq, index, frm, til, body⟩ := r
          unfold rowV at hne
          simp only at *
          go_wp2_with fail
          go_quiet (fail)
          go_wp2_with fail
          go_roundw
          case rel => exact ⟨q + 1, HQ.out, by rw [Int.natCast_add]; rfl, by first | exact KF.out | exact KF.out.drew | exact KF.out.drewN _⟩
          case measure => simp only [intOf]; omega
        · obtain rfl : z = q := by omega
          have e1 : decide ((z : Int) < (z : Int)) = false := by simp
          have KF : Hid _ := K2.out.trans' kk
          clear kk hq hlt
          go_wp2_with fail
          go_ret
          exact ⟨rfl, KF.out⟩
end Go.Proofs.Ytolaeiagfnhllaa
