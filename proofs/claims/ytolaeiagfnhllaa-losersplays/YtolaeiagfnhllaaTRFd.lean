/- What is proved: what New, Feed and Finish of the document's tree answer and leave, and which sources wait by it; the tree is one that its New made. -/
import Derived.Test.YtolaeiagfnhllaaTRef
import Derived.Test.YtolaeiagfnhllaaTWait
namespace Go.Proofs.Ytolaeiagfnhllaa
open Go.RowKit

set_option maxRecDepth 100000 in
set_option maxHeartbeats 1600000 in
theorem rfeed11 {w : World} {rb rs rr : Nat} {order : Int} {S : List Sr} {R : List RwM} (h : RT w rb rs rr order S R) (i : Int) (r : RwM) :
    Calls Try.prog 23 #[.pointer (some ⟨rb, 0, none⟩), .int .i64 i, rowV r] w fun e w' => e = .returned (.int .i64 (feedC S i r)) ∧ (∃ R', RT w' rb rs rr order (feedS S i r) R') ∧ Same (RF rb rs rr) w w' := by
  have ec : putC S i r 1 = feedC S i r := by
    unfold putC feedC
    by_cases h1 : refC S i ≠ 0
    · rw [if_pos h1, if_pos h1]
    · rw [if_neg h1, if_neg h1]
      by_cases h2 : rightR r
      · rw [if_pos h2, if_neg (fun e => e.2 h2)]
      · rw [if_neg h2, if_pos ⟨rfl, h2⟩]
  have KB : Hid (Kept w (w.alloc (.cells #[.int .i64 r.kind, .int .i64 r.time, .int .i64 r.seq, .int .i64 r.index, .int .i64 r.frm, .int .i64 r.til, .string r.body] 41))) := (Same.refl _ w).alloc _
  have HP : Hid (∀ W, Kept w W → Calls Try.prog 33 #[.pointer (some ⟨rb, 0, none⟩), .int .i64 i, rowV r, .int .i64 1] W fun e w' => e = .returned (.int .i64 (feedC S i r)) ∧ (∃ R', RT w' rb rs rr order (feedS S i r) R') ∧ Same (RF rb rs rr) w w') := fun W k => by
    have := rput11 (h.on k) i r (.fed r) (.inl rfl)
    rw [show (Sr.fed r).code = 1 from rfl, ec] at this
    exact Calls.mono this fun _ _ ⟨h1, h2, h3⟩ => ⟨h1, h2, (k.to _).trans' h3⟩
  generalize feedS S i r = S' at *
  generalize feedC S i r = c at *
  clear h ec
  obtain ⟨kind, time, seq, index, frm, til, body⟩ := r
  unfold rowV at *
  simp only at *
  go_enter Try.func23, Try.ntmps23
  go_wp2_with fail
  refine Calls.mono (HP.out _ KB.out) ?_
  rintro e w1 ⟨rfl, h1, k1⟩
  have R1 : Hid _ := (⟨h1, k1⟩ : _ ∧ _)
  clear h1 k1
  go_wp2_with fail
  go_ret
  exact ⟨rfl, R1.out⟩
set_option maxRecDepth 100000 in
set_option maxHeartbeats 1600000 in
theorem rfinish11 {w : World} {rb rs rr : Nat} {order : Int} {S : List Sr} {R : List RwM} (h : RT w rb rs rr order S R) (i : Int) :
    Calls Try.prog 24 #[.pointer (some ⟨rb, 0, none⟩), .int .i64 i] w fun e w' => e = .returned (.int .i64 (refC S i)) ∧ (∃ R', RT w' rb rs rr order (finS S i) R') ∧ Same (RF rb rs rr) w w' := by
  have ec : putC S i r0 2 = refC S i := by
    unfold putC
    by_cases h1 : refC S i ≠ 0
    · rw [if_pos h1]
    · rw [if_neg h1, if_neg (fun e => by omega)]
      omega
  have HP : Hid (Calls Try.prog 33 #[.pointer (some ⟨rb, 0, none⟩), .int .i64 i, rowV r0, .int .i64 2] w fun e w' => e = .returned (.int .i64 (refC S i)) ∧ (∃ R', RT w' rb rs rr order (finS S i) R') ∧ Same (RF rb rs rr) w w') := by
    have := rput11 h i r0 .fin (.inr rfl)
    rw [show (Sr.fin).code = 2 from rfl, ec] at this
    exact this
  generalize finS S i = S' at *
  generalize refC S i = c at *
  clear h ec
  rw [show rowV r0 = .agg #[.int .i64 0, .int .i64 0, .int .i64 0, .int .i64 0, .int .i64 0, .int .i64 0, .string ⟨#[]⟩] from rfl] at HP
  go_enter Try.func24, Try.ntmps24
  go_wp2_with fail
  refine Calls.mono HP.out ?_
  rintro e w1 ⟨rfl, h1, k1⟩
  have R1 : Hid _ := (⟨h1, k1⟩ : _ ∧ _)
  clear h1 k1
  go_wp2_with fail
  go_ret
  exact ⟨rfl, R1.out⟩
theorem Try.infoRRow11 : (Try.prog.info? 41).map (fun i => (i.zero, i.size, i.bytes)) = some (some (.agg #[.int .i64 0, .int .i64 0, .int .i64 0, .int .i64 0, .int .i64 0, .int .i64 0, .string .empty]), 7, 64) := by kernel_rfl
def zw : Array Value := #[.int .i64 0, .int .i64 0, .int .i64 0, .int .i64 0, .int .i64 0, .int .i64 0, .string .empty]
theorem made_rows (n : Nat) : madeCells zw (n * 7) = (rwc (List.replicate n r0)).toArray := by
  apply Array.ext'
  unfold madeCells
  rw [Array.toList_map, Array.toList_range]
  show _ = rwc (List.replicate n r0)
  induction n with
  | zero => rfl
  | succ n ih =>
    rw [List.replicate_succ', rwc_append, ← ih, show (n + 1) * 7 = n * 7 + 1 + 1 + 1 + 1 + 1 + 1 + 1 by omega, List.range_succ, List.range_succ, List.range_succ, List.range_succ, List.range_succ, List.range_succ, List.range_succ]
    simp only [List.map_append, List.append_assoc, List.map_cons, List.map_nil]
    congr 1
    rw [show (n * 7) % zw.size = 0 by show (n * 7) % 7 = 0; omega, show (n * 7 + 1) % zw.size = 1 by show (n * 7 + 1) % 7 = 1; omega, show (n * 7 + 1 + 1) % zw.size = 2 by show (n * 7 + 1 + 1) % 7 = 2; omega, show (n * 7 + 1 + 1 + 1) % zw.size = 3 by show (n * 7 + 1 + 1 + 1) % 7 = 3; omega, show (n * 7 + 1 + 1 + 1 + 1) % zw.size = 4 by show (n * 7 + 1 + 1 + 1 + 1) % 7 = 4; omega, show (n * 7 + 1 + 1 + 1 + 1 + 1) % zw.size = 5 by show (n * 7 + 1 + 1 + 1 + 1 + 1) % 7 = 5; omega, show (n * 7 + 1 + 1 + 1 + 1 + 1 + 1) % zw.size = 6 by show (n * 7 + 1 + 1 + 1 + 1 + 1 + 1) % 7 = 6; omega]
    rfl
theorem make_rrows (w : World) (n : Nat) (hn : n ≤ 64) : (Instr.makeSlice 40 (.int .i64 (n : Int)) (.int .i64 (n : Int))).run Try.prog w = .ok (.slice (some ⟨w.heap.size, 0, none⟩) n n) (w.alloc (.cells (rwc (List.replicate n r0)).toArray 41)) := by
  obtain ⟨i0, hi0, hz0, hz1, hz2⟩ := info_parts Try.infoRRow11
  have hr := run_make (P := Try.prog) w 40 41 i0 _ Try.underlying40 hi0 hz0 .i64 .i64 n n (by omega) (by omega) (by rw [hz2]; omega) (by omega)
  have hc : (Value.agg zw).cells = zw := by rfl
  simp only [Int.toNat_natCast, hz1] at hr
  rw [show (Value.agg #[.int .i64 0, .int .i64 0, .int .i64 0, .int .i64 0, .int .i64 0, .int .i64 0, .string .empty]).cells = zw from hc, made_rows] at hr
  exact hr
set_option maxRecDepth 100000 in
theorem rnew11_order {order : Int} (ho : ¬ (order = 1 ∨ order = 2)) (k : Int) (w : World) : Calls Try.prog 11 #[.int .i64 order, .int .i64 k] w fun e w' => e = .returned (.tuple #[.pointer none, .int .i64 91]) ∧ w' = w := by
  by_cases h1 : order < 1
  · have d1 : decide (order < 1) = true := decide_eq_true h1
    clear ho
    go_enter Try.func11, Try.ntmps11
    go_wp2_with fail
    go_ret2
    exact ⟨rfl, rfl⟩
  · have d1 : decide (order < 1) = false := decide_eq_false h1
    have h2 : 2 < order := by omega
    have d2 : decide (2 < order) = true := decide_eq_true h2
    clear ho
    go_enter Try.func11, Try.ntmps11
    go_wp2_with fail
    go_ret2
    exact ⟨rfl, rfl⟩
set_option maxRecDepth 100000 in
theorem rnew11_fan {order : Int} (ho : order = 1 ∨ order = 2) {k : Int} (hk : k < 1 ∨ 64 < k) (w : World) : Calls Try.prog 11 #[.int .i64 order, .int .i64 k] w fun e w' => e = .returned (.tuple #[.pointer none, .int .i64 110]) ∧ w' = w := by
  have HK : Hid _ := hk
  clear hk
  rcases ho with rfl | rfl
  all_goals
    by_cases h1 : k < 1
    · have d1 : decide (k < 1) = true := decide_eq_true h1
      go_enter Try.func11, Try.ntmps11
      go_wp2_with fail
      go_ret2
      exact ⟨rfl, rfl⟩
    · have d1 : decide (k < 1) = false := decide_eq_false h1
      have h2 : 64 < k := by have := HK.out; omega
      have d2 : decide (64 < k) = true := decide_eq_true h2
      go_enter Try.func11, Try.ntmps11
      go_wp2_with fail
      go_ret2
      exact ⟨rfl, rfl⟩
set_option maxRecDepth 100000 in
set_option maxHeartbeats 1600000 in
theorem rnew11_ok {order : Int} (ho : order = 1 ∨ order = 2) {k : Nat} (h0 : 1 ≤ k) (h1 : k ≤ 64) (w : World) : Calls Try.prog 11 #[.int .i64 order, .int .i64 (k : Int)] w fun e w' => ∃ b gs gn R, e = .returned (.tuple #[.pointer (some ⟨b, 0, none⟩), .int .i64 0]) ∧ RT w' b gs gn order (List.replicate k .wait) R ∧ Kept w w' ∧ w.heap.size ≤ b ∧ w.heap.size ≤ gs ∧ w.heap.size ≤ gn := by
  have d1 : decide ((k : Int) < 1) = false := decide_eq_false (by omega)
  have d2 : decide ((64 : Int) < (k : Int)) = false := decide_eq_false (by omega)
  have k64 : (k : Int) ≤ 64 := by omega
  have hmS : ∀ W : World, (Instr.makeSlice 40 (.int .i64 (k : Int)) (.int .i64 (k : Int))).run Try.prog W = .ok (.slice (some ⟨W.heap.size, 0, none⟩) k k) (W.alloc (.cells (rwc (List.replicate k r0)).toArray 41)) := fun W => make_rrows W k h1
  have hmI : ∀ W : World, (Instr.makeSlice 49 (.int .i64 (k : Int)) (.int .i64 (k : Int))).run Try.prog W = .ok (.slice (some ⟨W.heap.size, 0, none⟩) k k) (W.alloc (.cells (inz (List.replicate k 0)).toArray 3)) := fun W => make_ints W k (by omega)
  have HR : Hid (∀ (W : World) (b gs gn : Nat), W.heap[b]? = some (.cells #[.int .i64 order, .slice (some ⟨gs, 0, none⟩) k k, .slice (some ⟨gn, 0, none⟩) k k] 65 (0, 0)) → W.heap[gs]? = some (.cells (inz (List.replicate k 0)).toArray 3 (0, 0)) → W.heap[gn]? = some (.cells (rwc (List.replicate k r0)).toArray 41 (0, 0)) → RT W b gs gn order (List.replicate k .wait) (List.replicate k r0)) := fun W b gs gn e1 e2 e3 =>
    ⟨by rw [List.length_replicate]; exact e1, by rw [List.map_replicate]; exact e2, e3, by rw [List.length_replicate, List.length_replicate], fun i r hi hr => absurd hr (by rw [getD_at' hi, List.getElem_replicate]; exact fun e => nomatch e), by rw [List.length_replicate]; omega, by rw [List.length_replicate]; exact h1⟩
  generalize (inz (List.replicate k 0)).toArray = AI at *
  generalize eAS : (rwc (List.replicate k r0)).toArray = AS at *
  clear h0 h1
  rcases ho with rfl | rfl
  all_goals
    go_enter Try.func11, Try.ntmps11
    go_wp2_with fail
    go_region
    all_goals (go_wp2_with fail)
    all_goals go_ret2
    all_goals
      first
      | exact ⟨w.heap.size + 2, w.heap.size, w.heap.size + 1, _, rfl, (HR.out _ _ _ _ (three_new _ _ _ _).2.2 (three_new _ _ _ _).1 (three_new _ _ _ _).2.1).on (Same.refl _ _).drew, ((((Same.refl _ w).alloc _).alloc _).alloc _).drew, by omega, Nat.le_refl _, Nat.le_succ _⟩
      | exact ⟨w.heap.size + 2, w.heap.size + 1, w.heap.size, _, rfl, (HR.out _ _ _ _ (three_new _ _ _ _).2.2 (three_new _ _ _ _).2.1 (three_new _ _ _ _).1).on (Same.refl _ _).drew, ((((Same.refl _ w).alloc _).alloc _).alloc _).drew, by omega, Nat.le_succ _, Nat.le_refl _⟩
set_option maxRecDepth 100000 in
set_option maxHeartbeats 1600000 in
theorem rwaiting11 {w : World} {rb rs rr : Nat} {order : Int} {S : List Sr} {R : List RwM} (h : RT w rb rs rr order S R) :
    Calls Try.prog 26 #[.pointer (some ⟨rb, 0, none⟩)] w fun e w' => ∃ v, e = .returned v ∧ OwnZ w.heap.size w' v (wtl S) ∧ Kept w w' := by
  have TR : Hid _ := h
  obtain ⟨⟨c0, c1, c2⟩, hb, -, -⟩ := h.cells
  have hk1 := h.k1
  obtain ⟨n, en⟩ : ∃ n, n = S.length := ⟨_, rfl⟩
  rw [← en] at c1 c2 hk1
  have EN : Hid _ := en
  clear h en
  go_enter Try.func26, Try.ntmps26
  go_wp2_with fail
  go_loopw [3, 11] (fun v i wr => ∃ (q : Nat), q ≤ n ∧ i = .int .i64 (q : Int) ∧ OwnZ w.heap.size wr v (wtq S q) ∧ Kept w wr) (fun _ i _ => n - (intOf i).toNat)
  case atStart => exact ⟨0, Nat.zero_le _, rfl, OwnZ.nil _ _, Same.refl _ _⟩
  case round =>
    obtain ⟨q, hq, rfl, ho, ks⟩ := hrel
    have KS : Hid _ := ks
    have tr := TR.out.on ks
    by_cases hlt : q < n
    · have e1 : decide ((q : Int) < (n : Int)) = true := decide_eq_true (by omega)
      have e1' : (q : Int) < (n : Int) := by omega
      obtain ⟨p0, -⟩ := tr.st_at (i := q) (by rw [← EN.out]; exact hlt)
      have hgs := lt_of_heap tr.st
      have hlt2 : Hid _ := hlt
      have hsz := ks.size
      have hln := wtq_len S q
      have HN : Hid _ := wtq_succ S q
      have hcz := Sr.wt_code (S.getD q .wait)
      have HA : Hid (∀ ty, ∃ v' w', (Builtin.append_ #[49, 49] ty #[u3, .slice (some ⟨wr.heap.size, 0, none⟩) 1 1]).run Try.prog (wr.alloc (.cells #[.int .i64 (q : Int)] 3)) = .ok v' w' ∧ OwnZ w.heap.size w' v' (wtq S q ++ [(q : Int)]) ∧ Kept w w') := fun ty => by
        obtain ⟨v', w', h1, h2, h3⟩ := app_z (q : Int) ho (by omega) hsz ty
        exact ⟨v', w', h1, h2, ks.trans h3 fun i hi e => by have := (OwnZ.block ho e).1; omega⟩
      have HO : Hid _ := ho
      generalize (S.getD q .wait).code = sc at *
      cases hwt : (S.getD q .wait).wt
      · rw [hwt] at hcz HN
        rw [if_neg (by decide)] at HN
        have e2 : (sc == 0) = false := by simpa using hcz.symm
        clear hcz ho ks tr hln hwt
        go_wp2_with fail
        go_roundw
        case rel => exact ⟨q + 1, hlt2.out, by rw [Int.natCast_add]; rfl, by rw [HN.out]; exact HO.out, KS.out⟩
        case measure => simp only [intOf]; omega
      · rw [hwt] at hcz HN
        rw [if_pos rfl] at HN
        obtain rfl : sc = 0 := by simpa using hcz.symm
        clear hcz ho ks tr hln hwt
        go_wp2_with (at_builtin; refine wpList_app rfl (.tmp 18) (.tmp 20) 49 49 rfl u3 (.slice (some ⟨wr.heap.size, 0, none⟩) 1 1) rfl rfl _ HA.out ?_; rintro v1 w1 ⟨o1, k1⟩)
        have R : Hid _ := (⟨o1, k1⟩ : _ ∧ _)
        clear o1 k1
        go_roundw
        case rel => exact ⟨q + 1, hlt2.out, by rw [Int.natCast_add]; rfl, by rw [HN.out]; exact R.out.1, R.out.2⟩
        case measure => simp only [intOf]; omega
    · obtain rfl : n = q := by omega
      have e1 : decide ((n : Int) < (n : Int)) = false := by simp
      have HO : Hid (OwnZ w.heap.size wr u3 (wtl S)) := by
        show OwnZ w.heap.size wr u3 (wtl S)
        unfold wtl
        rw [← EN.out]
        exact ho
      clear ho ks tr
      go_wp2_with fail
      go_ret
      exact ⟨_, rfl, HO.out, KS.out⟩
end Go.Proofs.Ytolaeiagfnhllaa
