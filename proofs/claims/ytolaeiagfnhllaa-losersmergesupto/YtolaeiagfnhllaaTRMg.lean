/- What is proved: what the document's Merge answers, whatever it is asked: the same as Merge; the lists are such as memory can hold. -/
import Derived.Test.YtolaeiagfnhllaaTMgB
import Derived.Test.YtolaeiagfnhllaaNRef
import Derived.Test.YtolaeiagfnhllaaQValR
namespace Go.Proofs.Ytolaeiagfnhllaa
open Go.RowKit

/-- The first that is not zero. -/
def thn (x y : Int) : Int := if x = 0 then y else x
theorem app_q1 {w W : World} {base : Nat} {v : Value} {xs : List RwM} (r : RwM) (hown : OwnQ base w v xs) (k : Kept w W) (hb : xs.length + 1 ≤ 2199023255552) (hbase : base ≤ w.heap.size) {w0 : World} (s : Same (fun k => base ≤ k) w0 w) (ty : TypeId) :
    ∃ v' w', (Builtin.append_ #[40, 40] ty #[v, .slice (some ⟨W.heap.size, 0, none⟩) 1 1]).run Try.prog (W.alloc (.cells #[.int .i64 r.kind, .int .i64 r.time, .int .i64 r.seq, .int .i64 r.index, .int .i64 r.frm, .int .i64 r.til, .string r.body] 41)) = .ok v' w' ∧ OwnQ base w' v' (xs ++ [r]) ∧ Same (fun k => base ≤ k) w0 w' := by
  have k2 : Kept w (W.alloc (.cells #[.int .i64 r.kind, .int .i64 r.time, .int .i64 r.seq, .int .i64 r.index, .int .i64 r.frm, .int .i64 r.til, .string r.body] 41)) := k.alloc _
  obtain ⟨v', w', h1, h2, h3, -⟩ := app_q r (hown.kept k2 (fun _ _ e => e)) (heap_new W _) hb (Nat.le_trans hbase k2.size) ty
  exact ⟨v', w', h1, h2, (s.trans' (k2.to _)).trans h3 fun j _ e => (hown.block e).1⟩
set_option maxRecDepth 100000 in
theorem rmerge_order {order : Int} (ho : ¬ (order = 1 ∨ order = 2)) (a : Option Addr) (n cap : Nat) (w : World) :
    Calls Try.prog 15 #[.int .i64 order, .slice a n cap] w fun e w' => e = .returned (.tuple #[.slice none 0 0, .int .i64 91]) ∧ w' = w := by
  by_cases h1 : order < 1
  · have d1 : decide (order < 1) = true := decide_eq_true h1
    clear ho
    go_enter Try.func15, Try.ntmps15
    go_wp2_with fail
    go_ret2
    exact ⟨rfl, rfl⟩
  · have d1 : decide (order < 1) = false := decide_eq_false h1
    have h2 : 2 < order := by omega
    have d2 : decide (2 < order) = true := decide_eq_true h2
    clear ho
    go_enter Try.func15, Try.ntmps15
    go_wp2_with fail
    go_ret2
    exact ⟨rfl, rfl⟩
set_option maxRecDepth 100000 in
theorem rmerge_fan {order : Int} (ho : order = 1 ∨ order = 2) (a : Option Addr) {n : Nat} (hn : ¬ (1 ≤ n ∧ n ≤ 64)) (cap : Nat) (w : World) :
    Calls Try.prog 15 #[.int .i64 order, .slice a n cap] w fun e w' => e = .returned (.tuple #[.slice none 0 0, .int .i64 110]) ∧ w' = w := by
  have d1 : ¬ order < 1 := by omega
  have d2 : ¬ 2 < order := by omega
  by_cases h1 : n < 1
  · have d3 : (n : Int) < 1 := by omega
    clear ho hn
    go_enter Try.func15, Try.ntmps15
    go_wp2_with fail
    go_ret2
    exact ⟨rfl, rfl⟩
  · have d3 : ¬ (n : Int) < 1 := by omega
    have d4 : (64 : Int) < (n : Int) := by omega
    have d5 : 64 < n := by omega
    clear ho hn
    go_enter Try.func15, Try.ntmps15
    go_wp2_with fail
    go_ret2
    exact ⟨rfl, rfl⟩
set_option maxRecDepth 100000 in
set_option maxHeartbeats 2000000 in
theorem rmerge_look {order : Int} (ho : order = 1 ∨ order = 2) {w : World} {a : Option Addr} {cap : Nat} {L : List (List RwM)} (h0 : 1 ≤ L.length) (h1 : L.length ≤ 64) (hl : ListsAt w a L) (hn : L.flatten.length ≤ 2199023255552) :
    Calls Try.prog 15 #[.int .i64 order, .slice a L.length cap] w fun e w' => (∃ x c, e = .returned (.tuple #[.slice x (if lookA order L = 0 then srt (bef order) L.flatten else []).length c, .int .i64 (lookA order L)]) ∧ RowsAt w' x (if lookA order L = 0 then srt (bef order) L.flatten else [])) ∧ Kept w w' := by
  have HL : Hid _ := hl
  have HN : Hid _ := hn
  have HV : Hid (∀ r W, _) := validR9_any
  have HB : Hid (∀ x y W, _) := before_any order
  have HSO : Hid (∀ (W : World) (v : Value), OwnQ w.heap.size W v L.flatten → ∃ x c, v = .slice x L.flatten.length c ∧ Calls Try.prog 29 #[.int .i64 order, .slice x L.flatten.length c] W fun e w' => ∃ v, e = .returned v ∧ OwnQ W.heap.size w' v (srt (bef order) L.flatten) ∧ Kept W w') := fun W v o => by
    obtain ⟨x, c, e, r1, r2, r3, -⟩ := o.rows
    exact ⟨x, c, e, sorted10 order (L.flatten.length + 1) (Nat.lt_succ_self _) r1 r2 r3 hn⟩
  obtain ⟨n, en⟩ : ∃ n, n = L.length := ⟨_, rfl⟩
  obtain ⟨res, er⟩ : ∃ res, res = lookA order L := ⟨_, rfl⟩
  obtain ⟨Z, ez⟩ : ∃ Z, Z = if lookA order L = 0 then srt (bef order) L.flatten else [] := ⟨_, rfl⟩
  rw [← ez]
  rw [← er] at ez
  have HZ0 : Hid (res ≠ 0 → Z = []) := fun e => by rw [ez, if_neg e]
  have HZ1 : Hid (res = 0 → Z = srt (bef order) L.flatten) := fun e => by rw [ez, if_pos e]
  clear ez
  rw [← er, ← en]
  rw [← en] at h0 h1
  have EN : Hid _ := en
  have HF0 : Hid (res = lookA order (L.drop 0)) := er
  have d1 : ¬ order < 1 := by omega
  have d2 : ¬ 2 < order := by omega
  have d3 : ¬ (n : Int) < 1 := by omega
  have d4 : ¬ (64 : Int) < (n : Int) := by omega
  have d5 : ¬ 64 < n := by omega
  clear hl hn en er ho
  go_enter Try.func15, Try.ntmps15
  go_wp2_with fail
  go_loopw [6, 7] (fun v t wr => ∃ i : Nat, i ≤ n ∧ t = .int .i64 (i : Int) ∧ OwnQ w.heap.size wr v (L.take i).flatten ∧ res = lookA order (L.drop i) ∧ Same (fun k => w.heap.size ≤ k) w wr) (fun _ t _ => n - (intOf t).toNat)
  case atStart => exact ⟨0, Nat.zero_le _, rfl, OwnQ.nil _ _, HF0.out, Same.refl _ _⟩
  case round =>
    clear HF0
    obtain ⟨i, hi, rfl, ow, hf, kk⟩ := hrel
    by_cases hlt : i < n
    · have e1 : decide ((i : Int) < (n : Int)) = true := decide_eq_true (by omega)
      have e1' : (i : Int) < (n : Int) := by omega
      have HI : Hid _ := hlt
      obtain ⟨l, hlq⟩ : ∃ l, L[i]? = some l := ⟨_, List.getElem?_eq_getElem (by rw [← EN.out]; exact hlt)⟩
      have HLQ : Hid _ := hlq
      rw [drop_at hlq, lookA] at hf
      have HF0 : Hid (res = thn (lookF order (prv l 0) (l.drop 0)) (lookA order (L.drop (i + 1)))) := hf
      have HO0 : Hid (OwnQ w.heap.size wr u6 ((L.take i).flatten ++ l.take 0)) := by
        show OwnQ _ _ _ _
        rw [List.take_zero, List.append_nil]
        exact ow
      have K0 : Hid _ := kk
      obtain ⟨m, em⟩ : ∃ m, m = l.length := ⟨_, rfl⟩
      have EM : Hid _ := em
      have hmn : (L.take i).flatten.length + m ≤ 2199023255552 := by
        have := take_flat_le L (i + 1)
        rw [take_flat hlq] at this
        have := HN.out
        omega
      have HMN : Hid _ := hmn
      clear ow hf kk hlq em hmn
      go_wp2_with fail
      go_loopw [6, 8] (fun v t wr => ∃ k : Nat, k ≤ m ∧ t = .int .i64 (k : Int) ∧ OwnQ w.heap.size wr v ((L.take i).flatten ++ l.take k) ∧ res = thn (lookF order (prv l k) (l.drop k)) (lookA order (L.drop (i + 1))) ∧ Same (fun k => w.heap.size ≤ k) w wr) (fun _ t _ => m - (intOf t).toNat)
      case atStart => exact ⟨0, Nat.zero_le _, rfl, HO0.out, HF0.out, K0.out⟩
      case round =>
        clear HO0 HF0 K0
        obtain ⟨k, hk, rfl, ow, hf, kk⟩ := hrel
        have kp : Kept w wr := kk.mono fun j hj e => by omega
        obtain ⟨bb, off, x, c, rfl, hbb, cl, hrow⟩ := (ListsAt.on HL.out kp) i l HLQ.out
        rw [← EM.out] at cl
        have hm2 := HMN.out
        by_cases hlk : k < m
        · have g1 : decide ((k : Int) < (m : Int)) = true := decide_eq_true (by omega)
          have g1' : (k : Int) < (m : Int) := by omega
          have HK1 : Hid _ := hlk
          obtain ⟨r, hr⟩ : ∃ r, l[k]? = some r := ⟨_, List.getElem?_eq_getElem (by rw [← EM.out]; exact hlk)⟩
          obtain ⟨g, o2, ex, hg, c0, c1, c2, c3, c4, c5, c6⟩ := hrow k r hr
          subst ex
          rw [drop_at hr] at hf
          have HTK : Hid ((L.take i).flatten ++ l.take (k + 1) = ((L.take i).flatten ++ l.take k) ++ [r]) := by
            show _ = _
            rw [List.take_add_one, hr, List.append_assoc]
            rfl
          have hal : ((L.take i).flatten ++ l.take k).length + 1 ≤ 2199023255552 := by
            rw [List.length_append, List.length_take, ← EM.out]
            omega
          have HAP : Hid (∀ W, Kept wr W → ∀ ty, _) := fun W (kw : Kept wr W) ty => app_q1 r ow kw hal kk.size kk ty
          obtain ⟨h, eh⟩ : ∃ h, h = wr.heap.size := ⟨_, rfl⟩
          have EH : Hid _ := eh
          have HBX : Hid _ := heap_new wr (.cells #[.int .i64 r.kind, .int .i64 r.time, .int .i64 r.seq, .int .i64 r.index, .int .i64 r.frm, .int .i64 r.til, .string r.body] 41)
          have KB : Hid (Kept wr (wr.alloc (.cells #[.int .i64 r.kind, .int .i64 r.time, .int .i64 r.seq, .int .i64 r.index, .int .i64 r.frm, .int .i64 r.til, .string r.body] 41))) := (Same.refl _ wr).alloc _
          have HVr : Hid (∀ W, _) := HV.out r
          have KP : Hid _ := kp
          by_cases hv : rightR r
          · rw [decide_eq_true hv] at HVr
            by_cases hk0 : k = 0
            · have HF : Hid (res = thn (lookF order (prv l (k + 1)) (l.drop (k + 1))) (lookA order (L.drop (i + 1)))) := by
                have q1 : prv l (k + 1) = some r := hr
                have q2 : prv l k = none := by rw [hk0]; rfl
                rw [q2, lookF, if_pos hv] at hf
                rw [q1]
                exact hf
              have z1 : ¬ (0 : Int) < (k : Int) := by omega
              have z2 : decide ((0 : Int) < (k : Int)) = false := decide_eq_false z1
              have z3 : ¬ 0 < k := by omega
              have z4 : decide (0 < k) = false := decide_eq_false z3
              clear hf hv HV HB hk hr hk0 hrow ow kk kp hal hm2
              obtain ⟨akind, atime, aseq, aindex, afrm, atil, abody⟩ := r
              unfold rowV at HVr
              simp only at *
              rw [← eh] at HBX
              go_wp2_with fail
              refine Calls.mono (HVr.out _) ?_
              rintro e w1 ⟨rfl, k1⟩
              rw [← EH.out]
              have K1 : Hid _ := KB.out.trans' k1
              have hb1 := (k1.block _ (lt_of_heap HBX.out) (fun e => e)).trans HBX.out
              have HB5 : Hid _ := hb1
              obtain ⟨⟨y0, y1, y2, y3, y4, y5, y6⟩, -⟩ := row_obj hb1
              clear k1 HBX hb1 HVr KB eh
              go_wp2_with fail
              go_quiet (fail)
              have HA5 : Hid (∀ W5, Kept wr W5 → ∀ gg, gg = W5.heap.size → ∀ ty, ∃ v' w', (Builtin.append_ #[40, 40] ty #[u6, .slice (some ⟨gg, 0, none⟩) 1 1]).run Try.prog (W5.alloc (.cells #[.int .i64 akind, .int .i64 atime, .int .i64 aseq, .int .i64 aindex, .int .i64 afrm, .int .i64 atil, .string abody] 41)) = .ok v' w' ∧ OwnQ w.heap.size w' v' ((L.take i).flatten ++ l.take (k + 1)) ∧ Same (fun k => w.heap.size ≤ k) w w') := fun W5 k5 gg hg ty => by
                rw [hg, HTK.out]
                exact HAP.out W5 k5 ty
              clear HAP HTK
              go_wp2_with (at_builtin; refine wpList_app rfl (.tmp 64) (.tmp 66) 40 40 rfl u6 (.slice (some ⟨_, 0, none⟩) 1 1) rfl rfl _ (HA5.out _ (by (repeat (first | exact K1.out | apply Same.alloc | apply Same.drew | apply Same.drewN)); done) _ (by first | rfl | simp)) ?_; rintro v5 w5 d5; have D5 : Hid _ := d5; clear d5)
              go_roundw
              case rel => exact ⟨k + 1, HK1.out, by rw [Int.natCast_add]; rfl, D5.out.1, HF.out, D5.out.2⟩
              case measure => simp only [intOf]; omega
            · obtain ⟨p, rfl⟩ : ∃ p, k = p + 1 := ⟨k - 1, by omega⟩
              obtain ⟨xr, hx⟩ : ∃ xr, l[p]? = some xr := ⟨_, List.getElem?_eq_getElem (by rw [← EM.out]; omega)⟩
              obtain ⟨g', o2', eb, hg', x0, x1, x2, x3, x4, x5, x6⟩ := hrow p xr hx
              cases eb
              have HC1 : Hid (∀ W, _) := fun W => HB.out r xr W
              have HF : Hid (res = thn (if bef order r xr = true then 115 else lookF order (prv l (p + 1 + 1)) (l.drop (p + 1 + 1))) (lookA order (L.drop (i + 1)))) := by
                have q1 : prv l (p + 1 + 1) = some r := hr
                have q2 : prv l (p + 1) = some xr := hx
                rw [q2, lookF, if_pos hv] at hf
                rw [q1]
                exact hf
              have hmm : m ≤ 2199023255552 := by omega
              clear hf hv HV HB hk hr hk0 hrow ow kk kp hal hm2 hx
              obtain ⟨akind, atime, aseq, aindex, afrm, atil, abody⟩ := r
              obtain ⟨bkind, btime, bseq, bindex, bfrm, btil, bbody⟩ := xr
              unfold rowV at HVr HC1
              simp only at *
              have e2 : decide ((0 : Int) < ((p + 1 : Nat) : Int)) = true := decide_eq_true (by omega)
              rw [Int.natCast_add, Int.natCast_one] at *
              have hw1 : IntKind.i64.wrap ((p : Int) + 1 - 1) = (p : Int) := by rw [IntKind.wrap_i64]; omega
              have hw2 : IntKind.i64.wrap (p : Int) = (p : Int) := by rw [IntKind.wrap_i64]; omega
              have p1 : (p : Int) < (m : Int) := by omega
              have p5 : p + 1 < m := by omega
              have p6 : (0 : Int) ≤ (p : Int) + 1 := by omega
              have hN : ((p : Int) + 1).toNat = p + 1 := by omega
              have p3 : (0 : Int) ≤ (p : Int) := by omega
              have p4 : p < m := by omega
              rw [← eh] at HBX
              go_wp2_with fail
              refine Calls.mono (HVr.out _) ?_
              rintro e w1 ⟨rfl, k1⟩
              rw [← EH.out]
              have K1 : Hid _ := KB.out.trans' k1
              have hb1 := (k1.block _ (lt_of_heap HBX.out) (fun e => e)).trans HBX.out
              obtain ⟨⟨y0, y1, y2, y3, y4, y5, y6⟩, -⟩ := row_obj hb1
              have t : ∀ o, w1.cell? ⟨g, o, none⟩ = wr.cell? ⟨g, o, none⟩ := fun o => K1.out.cell (p := ⟨g, o, none⟩) hg (fun e => e)
              have v0 := (t _).trans x0
              have v1 := (t _).trans x1
              have v2 := (t _).trans x2
              have v3 := (t _).trans x3
              have v4 := (t _).trans x4
              have v5 := (t _).trans x5
              have v6 := (t _).trans x6
              have cl1 := (K1.out.cell (p := ⟨bb, off + i, none⟩) hbb (fun e => e)).trans cl
              have hg1 : g < w1.heap.size := Nat.lt_of_lt_of_le hg K1.out.size
              have hbb1 : bb < w1.heap.size := Nat.lt_of_lt_of_le hbb K1.out.size
              have hh2 := lt_of_heap hb1
              have HB5 : Hid _ := hb1
              clear k1 HBX hb1 HVr KB t x0 x1 x2 x3 x4 x5 x6 c0 c1 c2 c3 c4 c5 c6 hg hg' eh cl hbb
              have HT : Hid (∀ W, Kept w1 W → Kept w1 W ∧ W.cell? ⟨bb, off + i, none⟩ = some (.slice (some ⟨g, o2, none⟩) m c) ∧ W.cell? ⟨h, 0, none⟩ = some (.int .i64 akind) ∧ W.cell? ⟨h, 1, none⟩ = some (.int .i64 atime) ∧ W.cell? ⟨h, 2, none⟩ = some (.int .i64 aseq) ∧ W.cell? ⟨h, 3, none⟩ = some (.int .i64 aindex) ∧ W.cell? ⟨h, 4, none⟩ = some (.int .i64 afrm) ∧ W.cell? ⟨h, 5, none⟩ = some (.int .i64 atil) ∧ W.cell? ⟨h, 6, none⟩ = some (.string abody) ∧ W.cell? ⟨g, o2 + p * 7, none⟩ = some (.int .i64 bkind) ∧ W.cell? ⟨g, o2 + p * 7 + 1, none⟩ = some (.int .i64 btime) ∧ W.cell? ⟨g, o2 + p * 7 + 2, none⟩ = some (.int .i64 bseq) ∧ W.cell? ⟨g, o2 + p * 7 + 3, none⟩ = some (.int .i64 bindex) ∧ W.cell? ⟨g, o2 + p * 7 + 4, none⟩ = some (.int .i64 bfrm) ∧ W.cell? ⟨g, o2 + p * 7 + 5, none⟩ = some (.int .i64 btil) ∧ W.cell? ⟨g, o2 + p * 7 + 6, none⟩ = some (.string bbody)) := fun W k => by
                have t : ∀ o, W.cell? ⟨h, o, none⟩ = w1.cell? ⟨h, o, none⟩ := fun o => k.cell (p := ⟨h, o, none⟩) hh2 (fun e => e)
                have t2 : ∀ o, W.cell? ⟨g, o, none⟩ = w1.cell? ⟨g, o, none⟩ := fun o => k.cell (p := ⟨g, o, none⟩) hg1 (fun e => e)
                exact ⟨k, (k.cell (p := ⟨bb, off + i, none⟩) hbb1 (fun e => e)).trans cl1, (t _).trans y0, (t _).trans y1, (t _).trans y2, (t _).trans y3, (t _).trans y4, (t _).trans y5, (t _).trans y6, (t2 _).trans v0, (t2 _).trans v1, (t2 _).trans v2, (t2 _).trans v3, (t2 _).trans v4, (t2 _).trans v5, (t2 _).trans v6⟩
              have HC2 : Hid (∀ W, Kept w1 W → Calls _ _ _ _ fun e w' => _ ∧ Kept w1 w') := fun W (k : Kept w1 W) => Calls.mono (HC1.out W) fun e w' hh => ⟨hh.1, k.trans' hh.2⟩
              generalize bef order _ _ = bv at HF HC2 HC1
              clear HC1 hh2 hg1 hbb1
              cases bv with
              | true =>
                have HF2 : Hid (res = 115) := HF.out
                clear HF
                go_wp2_with fail
                go_region_held3 (fun W => Kept w1 W ∧ W.cell? ⟨bb, off + i, none⟩ = some (.slice (some ⟨g, o2, none⟩) m c) ∧ W.cell? ⟨h, 0, none⟩ = some (.int .i64 akind) ∧ W.cell? ⟨h, 1, none⟩ = some (.int .i64 atime) ∧ W.cell? ⟨h, 2, none⟩ = some (.int .i64 aseq) ∧ W.cell? ⟨h, 3, none⟩ = some (.int .i64 aindex) ∧ W.cell? ⟨h, 4, none⟩ = some (.int .i64 afrm) ∧ W.cell? ⟨h, 5, none⟩ = some (.int .i64 atil) ∧ W.cell? ⟨h, 6, none⟩ = some (.string abody) ∧ W.cell? ⟨g, o2 + p * 7, none⟩ = some (.int .i64 bkind) ∧ W.cell? ⟨g, o2 + p * 7 + 1, none⟩ = some (.int .i64 btime) ∧ W.cell? ⟨g, o2 + p * 7 + 2, none⟩ = some (.int .i64 bseq) ∧ W.cell? ⟨g, o2 + p * 7 + 3, none⟩ = some (.int .i64 bindex) ∧ W.cell? ⟨g, o2 + p * 7 + 4, none⟩ = some (.int .i64 bfrm) ∧ W.cell? ⟨g, o2 + p * 7 + 5, none⟩ = some (.int .i64 btil) ∧ W.cell? ⟨g, o2 + p * 7 + 6, none⟩ = some (.string bbody))
                  (exact HT.out _ (by (repeat (first | assumption | exact Same.refl _ _ | apply Same.alloc | apply Same.drew | apply Same.drewN)); done))
                  ((first
                  | (go_at_call 22; refine Calls.mono (HC2.out _ (by (repeat (first | assumption | exact Same.refl _ _ | apply Same.alloc | apply Same.drew | apply Same.drewN)); done)) ?_; rintro e w5 ⟨rfl, k5⟩)))
                all_goals
                  have KF : Hid (Kept w _) := KP.out.trans' (K1.out.trans' k5)
                  clear k5
                  go_wp2_with fail
                  go_ret2
                  rw [HF2.out, HZ0.out (by rw [HF2.out]; decide)]
                  exact ⟨⟨none, 0, rfl, RowsAt.nil _ _⟩, by first | exact KF.out | exact Same.drew KF.out⟩
              | false =>
                rw [if_neg (by decide)] at HF
                have HA5 : Hid (∀ W5, Kept wr W5 → ∀ gg, gg = W5.heap.size → ∀ ty, ∃ v' w', (Builtin.append_ #[40, 40] ty #[u6, .slice (some ⟨gg, 0, none⟩) 1 1]).run Try.prog (W5.alloc (.cells #[.int .i64 akind, .int .i64 atime, .int .i64 aseq, .int .i64 aindex, .int .i64 afrm, .int .i64 atil, .string abody] 41)) = .ok v' w' ∧ OwnQ w.heap.size w' v' ((L.take i).flatten ++ l.take (p + 1 + 1)) ∧ Same (fun k => w.heap.size ≤ k) w w') := fun W5 k5 gg hg ty => by
                  rw [hg, HTK.out]
                  exact HAP.out W5 k5 ty
                clear HAP HTK
                go_wp2_with fail
                go_region_held3 (fun W => Kept w1 W ∧ W.cell? ⟨bb, off + i, none⟩ = some (.slice (some ⟨g, o2, none⟩) m c) ∧ W.cell? ⟨h, 0, none⟩ = some (.int .i64 akind) ∧ W.cell? ⟨h, 1, none⟩ = some (.int .i64 atime) ∧ W.cell? ⟨h, 2, none⟩ = some (.int .i64 aseq) ∧ W.cell? ⟨h, 3, none⟩ = some (.int .i64 aindex) ∧ W.cell? ⟨h, 4, none⟩ = some (.int .i64 afrm) ∧ W.cell? ⟨h, 5, none⟩ = some (.int .i64 atil) ∧ W.cell? ⟨h, 6, none⟩ = some (.string abody) ∧ W.cell? ⟨g, o2 + p * 7, none⟩ = some (.int .i64 bkind) ∧ W.cell? ⟨g, o2 + p * 7 + 1, none⟩ = some (.int .i64 btime) ∧ W.cell? ⟨g, o2 + p * 7 + 2, none⟩ = some (.int .i64 bseq) ∧ W.cell? ⟨g, o2 + p * 7 + 3, none⟩ = some (.int .i64 bindex) ∧ W.cell? ⟨g, o2 + p * 7 + 4, none⟩ = some (.int .i64 bfrm) ∧ W.cell? ⟨g, o2 + p * 7 + 5, none⟩ = some (.int .i64 btil) ∧ W.cell? ⟨g, o2 + p * 7 + 6, none⟩ = some (.string bbody))
                  (exact HT.out _ (by (repeat (first | assumption | exact Same.refl _ _ | apply Same.alloc | apply Same.drew | apply Same.drewN)); done))
                  ((first
                  | (go_at_call 22; refine Calls.mono (HC2.out _ (by (repeat (first | assumption | exact Same.refl _ _ | apply Same.alloc | apply Same.drew | apply Same.drewN)); done)) ?_; rintro e w5 ⟨rfl, k5⟩)))
                all_goals
                  have K5 : Hid (Kept wr _) := K1.out.trans' k5
                  obtain ⟨-, -, y0, y1, y2, y3, y4, y5, y6, -⟩ := HT.out _ k5
                  clear k5 cl1 v0 v1 v2 v3 v4 v5 v6 HB5 HC2 HT
                  go_wp2_with (at_builtin; refine wpList_app rfl (.tmp 64) (.tmp 66) 40 40 rfl u6 (.slice (some ⟨_, 0, none⟩) 1 1) rfl rfl _ (HA5.out _ (by (repeat (first | exact K5.out | apply Same.alloc | apply Same.drew | apply Same.drewN)); done) _ (by first | rfl | simp)) ?_; rintro v5 w5 d5; have D5 : Hid _ := d5; clear d5)
                  go_roundw
                  case rel => exact ⟨p + 1 + 1, HK1.out, by rw [Int.natCast_add]; rfl, D5.out.1, HF.out, D5.out.2⟩
                  case measure => simp only [intOf]; omega
          · rw [decide_eq_false hv] at HVr
            have hf2 : res = 90 := by
              have q3 : lookF order (prv l k) (r :: l.drop (k + 1)) = 90 := by cases prv l k <;> (rw [lookF, if_neg hv])
              rw [hf, q3]
              rfl
            have HF2 : Hid _ := hf2
            clear hf hf2 hv HV HB hk hr hrow ow kk kp hal hm2 HAP HTK
            obtain ⟨akind, atime, aseq, aindex, afrm, atil, abody⟩ := r
            unfold rowV at HVr
            simp only at *
            go_wp2_with fail
            refine Calls.mono (HVr.out _) ?_
            rintro e w1 ⟨rfl, k1⟩
            have K1 : Hid (Kept w _) := KP.out.trans' (KB.out.trans' k1)
            clear k1 HBX HVr KB eh
            go_wp2_with fail
            go_ret2
            rw [HF2.out, HZ0.out (by rw [HF2.out]; decide)]
            exact ⟨⟨none, 0, rfl, RowsAt.nil _ _⟩, K1.out⟩
        · obtain rfl : m = k := by omega
          have g1 : decide ((m : Int) < (m : Int)) = false := by simp
          have HO2 : Hid (OwnQ w.heap.size wr u6 (L.take (i + 1)).flatten) := by
            show OwnQ _ _ _ _
            rw [List.take_add_one, HLQ.out, List.flatten_append]
            have e2 : l.take m = l := by rw [EM.out, List.take_length]
            rw [e2] at ow
            simpa using ow
          have hf2 : res = lookA order (L.drop (i + 1)) := by
            rw [hf, EM.out, List.drop_length]
            cases prv l l.length <;> rfl
          have HF2 : Hid _ := hf2
          have KK : Hid _ := kk
          clear hf hf2 ow kk kp hk hlk hm2 hrow
          go_wp2_with fail
          go_roundw
          case rel => exact ⟨i + 1, HI.out, by rw [Int.natCast_add]; rfl, HO2.out, HF2.out, KK.out⟩
          case measure => simp only [intOf]; omega
    · obtain rfl : n = i := by omega
      have e1 : decide ((n : Int) < (n : Int)) = false := by simp
      have hf2 : res = 0 := by
        rw [hf, EN.out, List.drop_length]
        rfl
      have ow2 : OwnQ w.heap.size wr u6 L.flatten := by
        rw [EN.out, List.take_length] at ow
        exact ow
      obtain ⟨x, c, rfl, hso⟩ := HSO.out _ _ ow2
      have HS : Hid _ := hso
      have KK : Hid (Kept w wr) := kk.mono fun j hj e => by omega
      generalize L.flatten.length = z at *
      have HF2 : Hid _ := hf2
      clear hf hf2 ow ow2 kk hi hlt hso HSO
      go_wp2_with fail
      refine Calls.mono HS.out ?_
      rintro e w5 ⟨v5, rfl, o5, k5⟩
      obtain ⟨x5, c5, rfl, r5, -⟩ := OwnQ.rows o5
      have R5 : Hid _ := (⟨r5, KK.out.trans' k5⟩ : _ ∧ _)
      clear r5 o5 k5 HS
      go_wp2_with fail
      go_ret2
      rw [HF2.out, HZ1.out HF2.out]
      exact ⟨⟨x5, c5, rfl, R5.out.1⟩, R5.out.2⟩
/-- The document's Merge, whatever it is asked. -/
theorem rmerge_any (order : Int) {w : World} {a : Option Addr} (cap : Nat) {L : List (List RwM)} (hl : ListsAt w a L) (hn : L.flatten.length ≤ 2199023255552) :
    Calls Try.prog 15 #[.int .i64 order, .slice a L.length cap] w fun e w' => ∃ x c, e = .returned (.tuple #[.slice x (mgR order L).length c, .int .i64 (mgC order L)]) ∧ RowsAt w' x (mgR order L) ∧ Kept w w' := by
  unfold mgR
  by_cases ho : order = 1 ∨ order = 2
  · by_cases h1 : 1 ≤ L.length ∧ L.length ≤ 64
    · have e : mgC order L = lookA order L := by unfold mgC; rw [if_pos ho, if_pos h1]
      rw [e]
      exact Calls.mono (rmerge_look ho (cap := cap) h1.1 h1.2 hl hn) fun _ w' ⟨⟨x, c, h2, h3⟩, h4⟩ => ⟨x, c, h2, h3, h4⟩
    · have e : mgC order L = 110 := by unfold mgC; rw [if_pos ho, if_neg h1]
      rw [e, if_neg (by decide)]
      exact Calls.mono (rmerge_fan ho a h1 cap w) fun _ w' ⟨h2, h3⟩ => ⟨none, 0, h2, RowsAt.nil _ _, by rw [h3]; exact Same.refl _ _⟩
  · have e : mgC order L = 91 := by unfold mgC; rw [if_neg ho]
    rw [e, if_neg (by decide)]
    exact Calls.mono (rmerge_order ho a L.length cap w) fun _ w' ⟨h2, h3⟩ => ⟨none, 0, h2, RowsAt.nil _ _, by rw [h3]; exact Same.refl _ _⟩
end Go.Proofs.Ytolaeiagfnhllaa
