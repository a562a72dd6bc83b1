/- What is proved: append onto a row of bytes that is owned, clones, 'put', 'grown', 'Append', bytes.Clone, and 'same' on two equal lists; the bounds that a machine's memory sets. -/
import Derived.Test.YtbjmdpfoeeadeaaWSize
import Derived.Laws.AppendOwnNone
import Derived.Laws.OwnMore
import Derived.Laws.MakeOwn
import Derived.Lib.SliceRun
namespace Go.Proofs.Ytbjmdpfoeeadeaa
open Go.RowKit

theorem Try.infoByte : (Try.prog.info? 5).map (fun i => (i.zero, i.size, i.bytes)) = some (some (.int .u8 0), 1, 1) := by kernel_rfl

/-- append as a law at the operation: whatever its run gives. -/
theorem wpList_app {P : Program} {w : World} {ops : Array Oper} {rest : List Oper} {o : Oper} {a : Act} {Q : Exit → Act → World → Prop} (hgd : o.guard = none) (s x : Operand) (t u : TypeId)
    (ho : o.op = .call { callee := .builtin .append, args := #[s, x], argTypes := #[t, u] }) (vs vx : Value) (hs : a.eval s = vs) (hx : a.eval x = vx) (R : Value → World → Prop)
    (hrun : ∀ ty, ∃ v' w', (Builtin.append_ #[t, u] ty #[vs, vx]).run P w = .ok v' w' ∧ R v' w') (h : ∀ v' w', R v' w' → wpList P ops Q rest (a.put o.dst v') w') : wpList P ops Q (o :: rest) a w := by
  refine wpList_plain hgd fun K hK => ?_
  obtain ⟨v', w', hr, hR⟩ := hrun o.type
  unfold Oper.wp
  simp [execOp, ho, resolve, invoke, builtin, hs, hx, hr, Result.andThen]
  exact hK _ _ (h v' w' hR)

/-- The value v is a row of the bytes l of one's own, in a block from base on. -/
abbrev OwnB (base : Nat) (w : World) (v : Value) (l : List Int) : Prop := w.ownsRow base 5 1 v l.length (byt l)
theorem OwnB.nil (base : Nat) (w : World) : OwnB base w (.slice none 0 0) [] := World.ownsRow_nil w base 5 1
theorem OwnB.kept {S : Nat → Prop} {base : Nat} {w w' : World} {v : Value} {l : List Int} (h : OwnB base w v l) (hs : Same S w w') (hn : ∀ k, v.ownBlock = some k → ¬ S k) : OwnB base w' v l := by
  refine ⟨h.1, ?_⟩
  rcases h.2 with h2 | ⟨g, cap, cur, rfl, hb, hg, h1, h2, h3, h4⟩
  · exact .inl h2
  · exact .inr ⟨g, cap, cur, rfl, hb, (hs.block g (lt_of_heap hg) (hn g (by simp [Value.ownBlock]))).trans hg, h1, h2, h3, h4⟩
theorem OwnB.lower {base base' : Nat} {w : World} {v : Value} {l : List Int} (h : OwnB base w v l) (hb : base' ≤ base) : OwnB base' w v l := by
  refine ⟨h.1, ?_⟩
  rcases h.2 with h2 | ⟨g, cap, cur, rfl, hb', hg, h1, h2, h3, h4⟩
  · exact .inl h2
  · exact .inr ⟨g, cap, cur, rfl, Nat.le_trans hb hb', hg, h1, h2, h3, h4⟩
theorem OwnB.block {base : Nat} {w : World} {v : Value} {l : List Int} (h : OwnB base w v l) {k : Nat} (hk : v.ownBlock = some k) : base ≤ k ∧ k < w.heap.size := by
  rcases h.2 with ⟨rfl, _⟩ | ⟨g, cap, cur, rfl, hb, hg, h1, h2, h3, h4⟩
  · simp [Value.ownBlock] at hk
  · simp [Value.ownBlock] at hk
    subst hk
    exact ⟨hb, lt_of_heap hg⟩
/-- What is known of such a row as a list in memory. -/
theorem OwnB.bytes {base : Nat} {w : World} {v : Value} {l : List Int} (h : OwnB base w v l) : ∃ a cap, v = .slice a l.length cap ∧ BytesAt w a l ∧ l.length ≤ cap ∧ (a = none → l.length = 0 ∧ cap = 0) ∧ (∀ k off, a = some ⟨k, off, none⟩ → base ≤ k ∧ off = 0) ∧ (∀ ad, a = some ad → ad.spot = none) := by
  obtain ⟨a, cap, rfl, h3, h4⟩ := BytesAt.of_row h
  refine ⟨a, cap, rfl, h3, ?_⟩
  rcases h.2 with ⟨h', _⟩ | ⟨g, c, cur, h', hb, _, hc, _⟩
  · simp only [Value.slice.injEq] at h'
    obtain ⟨rfl, h0, rfl⟩ := h'
    exact ⟨by omega, fun _ => ⟨h0, rfl⟩, (fun k off e => by cases e), (fun ad e => by cases e)⟩
  · simp only [Value.slice.injEq] at h'
    obtain ⟨rfl, -, rfl⟩ := h'
    exact ⟨hc, (fun e => by cases e), (fun k off e => by cases e; exact ⟨hb, rfl⟩), fun ad e => by cases e; rfl⟩

/-- What an append leaves: the row with the new bytes behind it. -/
def AppR (base : Nat) (w : World) (ys : List Int) (v' : Value) (w' : World) : Prop := OwnB base w' v' ys ∧ Same (fun k => base ≤ k) w w'
theorem app_bytes {w : World} {base : Nat} {v : Value} {xs l : List Int} {oa : Option Addr} {c : Nat} (hown : OwnB base w v xs) (hl : BytesAt w oa l) (hnil : oa = none → l.length = 0 ∧ c = 0) (hb : xs.length + l.length ≤ 140737488355328) (hbase : base ≤ w.heap.size) (ty : TypeId) :
    ∃ v' w', (Builtin.append_ #[71, 71] ty #[v, .slice oa l.length c]).run Try.prog w = .ok v' w' ∧ AppR base w (xs ++ l) v' w' := by
  obtain ⟨i0, hi0, hz0, hz1, hz2⟩ := info_parts Try.infoByte
  cases oa with
  | none =>
    obtain ⟨h0, rfl⟩ := hnil rfl
    obtain rfl : l = [] := List.eq_nil_of_length_eq_zero h0
    refine ⟨v, w, run_append_owned_none (P := Try.prog) (w := w) base 71 ty 5 i0 1 Try.underlying71 hi0 v xs.length _ hown, ?_, Same.refl _ _⟩
    simpa using hown
  | some ad =>
    obtain ⟨v', w', hr, r1, r2, _, r3⟩ := run_append_own_at (P := Try.prog) (w := w) base 71 ty 5 i0 _ 1 1 Try.underlying71 hi0 hz0 hz1 hz2 rfl (by decide) v xs.length _ hown ad l.length c (byt l) (by rw [length_byt, Nat.mul_one])
      (fun j u hu => by
        rw [byt_get] at hu
        obtain ⟨x, hx, rfl⟩ := Option.map_eq_some_iff.1 hu
        obtain ⟨b', off', e, _, hc⟩ := hl _ _ hx
        cases e
        rw [Addr.add_lit]
        exact hc) (byt_one _) (by unfold maxLen; omega) (by omega) hbase
    rw [← byt_append] at r1
    exact ⟨v', w', hr, by rw [OwnB, List.length_append]; exact r1, Same.of_grown r2 (fun k e => (hown.block e).1)⟩
theorem AppR.old {base : Nat} {w w0 : World} {ys : List Int} {v' : Value} {w' : World} (h : AppR base w0 ys v' w') (k : Kept w w0) : AppR base w ys v' w' := ⟨h.1, (Kept.to k _).trans' h.2⟩
theorem bytes_new (w : World) (l : List Int) : BytesAt (w.alloc (.cells (byt l).toArray 5 (0, 0))) (some ⟨w.heap.size, 0, none⟩) l := fun i x hx => by
  refine ⟨w.heap.size, 0, rfl, by simp, ?_⟩
  rw [cell_of (heap_new w _), Nat.zero_add, List.getElem?_toArray, byt_get, hx]
  rfl
/-- One byte more. -/
theorem app_one {w : World} {base : Nat} {v : Value} {xs : List Int} (x : Int) (hown : OwnB base w v xs) (hb : xs.length + 1 ≤ 140737488355328) (hbase : base ≤ w.heap.size) (ty : TypeId) :
    ∃ v' w', (Builtin.append_ #[71, 71] ty #[v, .slice (some ⟨w.heap.size, 0, none⟩) 1 1]).run Try.prog (w.alloc (.cells #[.int .u8 x] 5)) = .ok v' w' ∧ AppR base w (xs ++ [x]) v' w' := by
  obtain ⟨v', w', h1, h2⟩ := app_bytes (c := 1) (hown.kept ((Same.refl (fun _ => False) w).alloc (.cells #[.int .u8 x] 5)) (fun _ _ h => h)) (bytes_new w [x]) (fun e => by cases e) hb (by simp; omega) ty
  exact ⟨v', w', h1, h2.old ((Same.refl _ w).alloc _)⟩
/-- append onto an empty literal. -/
theorem app_lit {w : World} {l : List Int} {oa : Option Addr} {c : Nat} (hl : BytesAt w oa l) (hnil : oa = none → l.length = 0 ∧ c = 0) (hb : l.length ≤ 140737488355328) (ty : TypeId) :
    ∃ v' w', (Builtin.append_ #[71, 71] ty #[.slice (some ⟨w.heap.size, 0, none⟩) 0 0, .slice oa l.length c]).run Try.prog (w.alloc (.cells #[] 5)) = .ok v' w' ∧ OwnB w.heap.size w' v' l ∧ Kept w w' := by
  obtain ⟨v', w', h1, h2, h3⟩ := app_bytes (w := w.alloc (.cells #[] 5)) (base := w.heap.size) (xs := []) (World.ownsRow_made w #[] 0 (Nat.le_refl _) (Nat.zero_le _) rfl) (hl.kept ((Same.refl (fun _ => False) w).alloc _) (fun _ _ h => h)) hnil (by simpa using hb) (by simp) ty
  exact ⟨v', w', h1, h2, ((Same.refl _ w).alloc _).trans h3 (fun i hi e => by omega)⟩
/-- 'make' of an empty row with room. -/
theorem make_room (w : World) (n : Nat) (hn : n ≤ 281474976710656) : (Instr.makeSlice 71 (.int .i64 0) (.int .i64 (n : Int))).run Try.prog w = .ok (.slice (some ⟨w.heap.size, 0, none⟩) 0 n) (w.alloc (.cells (madeCells #[.int .u8 0] n) 5)) := by
  obtain ⟨i0, hi0, hz0, hz1, hz2⟩ := info_parts Try.infoByte
  have hr := run_make (P := Try.prog) w 71 5 i0 _ Try.underlying71 hi0 hz0 .i64 .i64 0 n (by omega) (by omega) (by rw [hz2]; omega) (by omega)
  simp only [Int.toNat_natCast, hz1, Nat.mul_one] at hr
  exact hr
theorem own_made (w : World) (n : Nat) (hn : n ≤ 281474976710656) : OwnB w.heap.size (w.alloc (.cells (madeCells #[.int .u8 0] n) 5)) (.slice (some ⟨w.heap.size, 0, none⟩) 0 n) [] :=
  ⟨rfl, .inr ⟨w.heap.size, n, _, rfl, Nat.le_refl _, heap_new w _, Nat.zero_le _, by unfold maxLen; omega, by simp [madeCells], by simp [byt]⟩⟩

set_option maxRecDepth 100000 in
set_option maxHeartbeats 800000 in
theorem grown_any (w : World) (oa : Option Addr) (c : Nat) (l : List Int) (room : Nat) (hl : BytesAt w oa l) (hnil : oa = none → l.length = 0 ∧ c = 0) (hb : l.length ≤ 140737488355328) (hr : l.length + room ≤ 281474976710656) :
    Calls Try.prog 79 #[.slice oa l.length c, .int .i64 (room : Int)] w fun e w' => ∃ v, e = .returned v ∧ OwnB w.heap.size w' v l ∧ Kept w w' := by
  obtain ⟨n, en⟩ : ∃ n, n = l.length := ⟨_, rfl⟩
  obtain ⟨N, eN⟩ : ∃ N, N = n + room := ⟨_, rfl⟩
  have e1 : (n : Int) + (room : Int) = (N : Int) := by omega
  have hmk := make_room w N (by omega)
  have HR : Hid (∀ ty, _) := fun ty => app_bytes (c := c) (own_made w N (by omega)) (hl.kept ((Same.refl (fun _ => False) w).alloc (.cells (madeCells #[.int .u8 0] N) 5)) (fun _ _ h => h)) hnil (by simpa using hb) (by simp) ty
  rw [← en] at HR hb ⊢
  have hnr : (N : Int) ≤ 281474976710656 := by omega
  clear hl hnil hr en eN
  go_enter Try.func79, Try.ntmps79
  go_wp2_with (at_builtin; refine wpList_app rfl (.tmp 9) (.tmp 10) 71 71 rfl _ _ rfl rfl _ HR.out ?_; intro v' w1 hR)
  go_ret
  exact ⟨v', rfl, hR.1, ((Same.refl _ w).alloc _).trans hR.2 (fun i hi e => by omega)⟩

set_option maxRecDepth 100000 in
set_option maxHeartbeats 1600000 in
theorem put_any {base : Nat} {w : World} {v : Value} {xs : List Int} (n : Nat) (hown : OwnB base w v xs) (hb : xs.length + (form n).length ≤ 140737488355328) (hn : n ≤ 9223372036854775807) (hbase : base ≤ w.heap.size) :
    Calls Try.prog 78 #[v, .int .i64 (n : Int)] w fun e w' => ∃ v', e = .returned v' ∧ OwnB base w' v' (xs ++ form n) ∧ Same (fun k => base ≤ k) w w' := by
  have HO : Hid _ := hown
  have HB : Hid _ := hb
  have HBS : Hid _ := hbase
  clear hown hb hbase
  go_enter Try.func78, Try.ntmps78
  go_wp2_with fail
  go_loopw [0, 1] (fun v i wr => ∃ (m : Nat) (ys : List Int), i = .int .i64 m ∧ m ≤ n ∧ OwnB base wr v ys ∧ ys ++ form m = xs ++ form n ∧ Same (fun k => base ≤ k) w wr) (fun _ i _ => (intOf i).toNat)
  case atStart => exact ⟨n, xs, rfl, Nat.le_refl _, HO.out, rfl, Same.refl _ _⟩
  case round =>
    obtain ⟨m, ys, rfl, hm, ho, he, hk⟩ := hrel
    have HOR : Hid _ := ho
    have HE : Hid _ := he
    have HK : Hid _ := hk
    clear ho he hk
    have hlen : ys.length + (form m).length ≤ 140737488355328 := by
      have := congrArg List.length HE.out
      have hb := HB.out
      simp only [List.length_append] at this
      omega
    have hbw : base ≤ wr.heap.size := Nat.le_trans HBS.out (Same.size HK.out)
    by_cases hlt : m < 128
    · have c1 : decide (128 ≤ (m : Int)) = false := decide_eq_false (by omega)
      have c2 : (m : Int) < 128 := by omega
      have hf := form_small hlt
      have HR : Hid _ := app_one (m : Int) HOR.out (by rw [hf] at hlen; simpa using hlen) hbw
      clear hlen hbw
      go_wp2_with (at_builtin; refine wpList_app rfl (.tmp 16) (.tmp 19) 71 71 rfl _ _ rfl rfl _ HR.out ?_; intro v' w1 hR)
      go_ret
      refine ⟨v', rfl, ?_, Same.trans' HK.out hR.2⟩
      rw [← HE.out, hf]
      exact hR.1
    · have c1 : decide (128 ≤ (m : Int)) = true := decide_eq_true (by omega)
      have c2 : 128 ≤ (m : Int) := by omega
      have hf := form_big hlt
      have hx : ((m % 128 + 128 : Nat) : Int) = (m : Int) % 128 + 128 := by omega
      obtain ⟨q, eq⟩ : ∃ q, q = m / 128 := ⟨_, rfl⟩
      have hd : (m : Int).tdiv 128 = (q : Int) := by rw [Int.tdiv_eq_ediv_of_nonneg (by omega)]; omega
      have hq : (q : Int) ≤ 9223372036854775807 := by omega
      rw [← eq] at hf
      rw [hx] at hf
      have HR : Hid _ := app_one ((m : Int) % 128 + 128) HOR.out (by rw [hf] at hlen; simp at hlen; omega) hbw
      have HF : Hid _ := hf
      clear hlen hbw hf hx
      go_wp2_with (at_builtin; refine wpList_app rfl (.tmp 7) (.tmp 12) 71 71 rfl _ _ rfl rfl _ HR.out ?_; intro v' w1 hR)
      go_roundw
      case rel => exact ⟨q, ys ++ [(m : Int) % 128 + 128], by congr 1, by omega, hR.1, by rw [← HE.out, HF.out]; simp, Same.trans' HK.out hR.2⟩
      case measure => simp only [intOf]; omega
theorem form8 {n : Nat} (h : n ≤ 72057594037927935) : (form n).length ≤ 8 := form_le (by decide) (by omega)

set_option maxRecDepth 100000 in
set_option maxHeartbeats 800000 in
theorem append_any (w : World) (oa : Option Addr) (c : Nat) (l : List Int) (n : Nat) (hl : BytesAt w oa l) (hnil : oa = none → l.length = 0 ∧ c = 0) (hb : l.length + 8 ≤ 140737488355328) (hn : n ≤ 72057594037927935) :
    Calls Try.prog 69 #[.slice oa l.length c, .int .i64 (n : Int)] w fun e w' => ∃ v, e = .returned (.tuple #[v, .int .i64 0]) ∧ OwnB w.heap.size w' v (l ++ form n) ∧ Kept w w' := by
  have HS : Hid _ := size_any n w hn
  have h8 := form8 hn
  have hp := form_pos n
  have HG : Hid _ := grown_any w oa c l (form n).length hl hnil (by omega) (by omega)
  have HP : Hid (∀ (w1 : World) (v : Value), OwnB w.heap.size w1 v l → w.heap.size ≤ w1.heap.size → _) := fun w1 v ho hz => put_any (base := w.heap.size) (w := w1) n ho (by omega) (by omega) hz
  obtain ⟨L, eL⟩ : ∃ L, L = l.length := ⟨_, rfl⟩
  rw [← eL] at HG ⊢
  obtain ⟨F, eF⟩ : ∃ F, F = (form n).length := ⟨_, rfl⟩
  rw [← eF] at HG HS hp
  have c1 : ((F : Int) == 0) = false := by simp; omega
  have c2 : ¬ ((F : Int) = 0) := by omega
  clear hl hnil eF eL h8 hp
  go_enter Try.func69, Try.ntmps69
  go_wp2_with fail
  refine Calls.mono HS.out ?_
  rintro e w1 ⟨rfl, rfl⟩
  go_wp2_with fail
  refine Calls.mono HG.out ?_
  rintro e w2 ⟨v2, rfl, o2, k2⟩
  have O2 : Hid _ := o2
  have K2 : Hid _ := k2
  clear o2 k2
  go_wp2_with fail
  refine Calls.mono (HP.out _ _ O2.out K2.out.size) ?_
  rintro e w3 ⟨v3, rfl, o3, k3⟩
  have O3 : Hid _ := o3
  have K3 : Hid _ := k3
  clear o3 k3
  go_wp2_with fail
  go_ret2
  exact ⟨v3, rfl, O3.out, Same.trans K2.out K3.out (fun i hi e => by omega)⟩
set_option maxRecDepth 100000 in
theorem append_no (w : World) (v : Value) (n : Int) (hn : n < 0 ∨ 72057594037927935 < n) :
    Calls Try.prog 69 #[v, .int .i64 n] w fun e w' => e = .returned (.tuple #[.slice none 0 0, .int .i64 50]) ∧ w' = w := by
  have HS : Hid _ := size_no n w hn
  clear hn
  go_enter Try.func69, Try.ntmps69
  go_wp2_with fail
  refine Calls.mono HS.out ?_
  rintro e w1 ⟨rfl, rfl⟩
  go_wp2_with fail
  go_ret2
  exact ⟨rfl, rfl⟩

end Go.Proofs.Ytbjmdpfoeeadeaa
