/- What is proved: lists of violations of one's own in memory: one more, another list behind it; no condition. -/
import Derived.Test.YtbjmdpfoeeadeaaREnc
import Derived.Test.YtbjmdpfoeeadeaaJWide
import Derived.BigQuiet
import Derived.BigRegion
import Derived.Carry
import Derived.Deep.RegionHeld3
import Derived.Deep.RegionLaw
import Derived.Deep.RegionWith
import Derived.Deep.QuietTactic
import Derived.Deep.CutRange
import Derived.Deep.DeepCutAuto
import Derived.StillTailTactics
namespace Go.Proofs.Ytbjmdpfoeeadeaa.Sw
open Go.RowKit

/-- A violation. -/
structure Vl where
  kd : Int
  tm : Int
  tx : Int
  op : Int
  wi : Int
  key : ByteArray
  wa : Bool
  ex : ByteArray
  go : Bool
  ob : ByteArray
  fr : Int
  tt : Int
abbrev vl1 (x : Vl) : List Value := [.int .i64 x.kd, .int .i64 x.tm, .int .i64 x.tx, .int .i64 x.op, .int .i64 x.wi, .string x.key, .bool x.wa, .string x.ex, .bool x.go, .string x.ob, .int .i64 x.fr, .int .i64 x.tt]
abbrev vlO (x : Vl) : Obj := .cells #[.int .i64 x.kd, .int .i64 x.tm, .int .i64 x.tx, .int .i64 x.op, .int .i64 x.wi, .string x.key, .bool x.wa, .string x.ex, .bool x.go, .string x.ob, .int .i64 x.fr, .int .i64 x.tt] 49 (0, 0)
def vlc (l : List Vl) : List Value := l.flatMap vl1
theorem length_vlc (l : List Vl) : (vlc l).length = l.length * 12 := by
  induction l with
  | nil => rfl
  | cons a r ih => simp only [vlc, List.flatMap_cons, List.length_append, List.length_cons, List.length_nil] at *; omega
theorem vlc_append (a b : List Vl) : vlc (a ++ b) = vlc a ++ vlc b := by simp [vlc]
theorem vlc_one (l : List Vl) : ∀ v ∈ vlc l, v.oneCell' = true := by
  intro v hv
  obtain ⟨o, _, hf⟩ := List.mem_flatMap.1 hv
  simp only [List.mem_cons, List.not_mem_nil, or_false] at hf
  rcases hf with rfl | rfl | rfl | rfl | rfl | rfl | rfl | rfl | rfl | rfl | rfl | rfl <;> rfl
theorem vlc_get {l : List Vl} {i : Nat} {x : Vl} (h : l[i]? = some x) (j : Nat) (hj : j < 12) : (vlc l)[i * 12 + j]? = (vl1 x)[j]? := by
  induction l generalizing i with
  | nil => simp at h
  | cons a r ih =>
    have e : vlc (a :: r) = vl1 a ++ vlc r := rfl
    cases i with
    | zero =>
      simp only [List.getElem?_cons_zero, Option.some.injEq] at h
      subst h
      rw [e, Nat.zero_mul, Nat.zero_add, List.getElem?_append_left (by exact hj)]
    | succ i =>
      simp only [List.getElem?_cons_succ] at h
      rw [e, List.getElem?_append_right (by show 12 ≤ _; omega), ← ih h]
      congr 1
      show (i + 1) * 12 + j - 12 = _
      omega
theorem vlc_set {l : List Vl} {i : Nat} {x y : Vl} (h : l[i]? = some x) {j : Nat} (hj : j < 12) {v : Value} (hv : (vl1 x).set j v = vl1 y) : (vlc l).set (i * 12 + j) v = vlc (l.set i y) := by
  induction l generalizing i with
  | nil => simp at h
  | cons a l ih =>
    have e : ∀ z (r : List Vl), vlc (z :: r) = vl1 z ++ vlc r := fun _ _ => rfl
    cases i with
    | zero =>
      simp only [List.getElem?_cons_zero, Option.some.injEq] at h
      subst h
      rw [List.set_cons_zero, e, e, Nat.zero_mul, Nat.zero_add, List.set_append_left _ _ (by exact hj), hv]
    | succ i =>
      simp only [List.getElem?_cons_succ] at h
      rw [List.set_cons_succ, e, e, List.set_append_right _ _ (by show 12 ≤ _; omega), ← ih h]
      congr 2
      show (i + 1) * 12 + j - 12 = _
      omega
theorem Try.infoViol : (Try.prog.info? 49).map (fun i => (i.zero, i.size, i.bytes)) = some (some (.agg #[.int .i64 0, .int .i64 0, .int .i64 0, .int .i64 0, .int .i64 0, .string .empty, .bool false, .string .empty, .bool false, .string .empty, .int .i64 0, .int .i64 0]), 12, 120) := by kernel_rfl
/-- A list of violations of one's own. -/
def OwnL (base : Nat) (w : World) (v : Value) (l : List Vl) : Prop := w.ownsRow base 49 12 v l.length (vlc l)
theorem OwnL.nil (base : Nat) (w : World) : OwnL base w (.slice none 0 0) [] := ⟨rfl, .inl ⟨rfl, rfl⟩⟩
theorem row_kept {S : Nat → Prop} {base : Nat} {w w' : World} {e : TypeId} {n m : Nat} {v : Value} {l : List Value} (h : w.ownsRow base e n v m l) (hs : Same S w w') (hn : ∀ k, v.ownBlock = some k → ¬ S k) : w'.ownsRow base e n v m l := by
  rcases h.2 with ⟨rfl, h0⟩ | ⟨g, cap, cur, rfl, hb, hg, hr⟩
  · exact ⟨h.1, .inl ⟨rfl, h0⟩⟩
  · exact ⟨h.1, .inr ⟨g, cap, cur, rfl, hb, (hs.block g (lt_of_heap hg) (hn g rfl)).trans hg, hr⟩⟩
theorem row_base {base base' : Nat} {w : World} {e : TypeId} {n m : Nat} {v : Value} {l : List Value} (h : w.ownsRow base e n v m l) (hb : base' ≤ base) : w.ownsRow base' e n v m l := by
  rcases h.2 with ⟨rfl, h0⟩ | ⟨g, cap, cur, rfl, hb2, hg, hr⟩
  · exact ⟨h.1, .inl ⟨rfl, h0⟩⟩
  · exact ⟨h.1, .inr ⟨g, cap, cur, rfl, Nat.le_trans hb hb2, hg, hr⟩⟩
theorem row_block {base : Nat} {w : World} {e : TypeId} {n m : Nat} {v : Value} {l : List Value} (h : w.ownsRow base e n v m l) {k : Nat} (hk : v.ownBlock = some k) : base ≤ k ∧ ∃ cur, w.heap[k]? = some (.cells cur e (0, 0)) := by
  rcases h.2 with ⟨rfl, h0⟩ | ⟨g, cap, cur, rfl, hb, hg, hr⟩
  · cases hk
  · cases hk
    exact ⟨hb, cur, hg⟩
theorem row_shape {base : Nat} {w : World} {e : TypeId} {n m : Nat} {v : Value} {l : List Value} (h : w.ownsRow base e n v m l) : ∃ a cap, v = .slice a m cap ∧ m ≤ cap ∧ (a = none → m = 0 ∧ cap = 0) ∧ (∀ ad, a = some ad → ∃ g, ad = ⟨g, 0, none⟩ ∧ base ≤ g ∧ g < w.heap.size) := by
  rcases h.2 with ⟨rfl, hn⟩ | ⟨g, cap, cur, rfl, hb, hg, h1, h2, h3, h4⟩
  · subst hn
    exact ⟨none, 0, rfl, Nat.le_refl _, fun _ => ⟨rfl, rfl⟩, fun _ e => (by cases e)⟩
  · exact ⟨some ⟨g, 0, none⟩, cap, rfl, h1, fun e => (by cases e), fun ad e => by cases e; exact ⟨g, rfl, hb, lt_of_heap hg⟩⟩
theorem row_cell {base : Nat} {w : World} {e : TypeId} {n m : Nat} {a : Option Addr} {m' cap : Nat} {l : List Value} (h : w.ownsRow base e n (.slice a m' cap) m l) {j : Nat} {u : Value} (hu : l[j]? = some u) : ∃ b, a = some ⟨b, 0, none⟩ ∧ base ≤ b ∧ b < w.heap.size ∧ w.cell? ⟨b, j, none⟩ = some u := by
  rcases h.2 with ⟨e0, hn⟩ | ⟨g, cap', cur, e0, hb, hg, h1, h2, h3, h4⟩
  · have := h.1
    rw [hn, Nat.zero_mul] at this
    rw [List.eq_nil_of_length_eq_zero this] at hu
    cases hu
  · cases e0
    refine ⟨g, rfl, hb, lt_of_heap hg, ?_⟩
    rw [cell_of hg]
    rw [← h4, List.getElem?_take] at hu
    split at hu
    · simpa using hu
    · cases hu
theorem types_ne {w : World} {b : Nat} {c c' : Array Value} {t t' : TypeId} (h : w.heap[b]? = some (.cells c t (0, 0))) (h' : w.heap[b]? = some (.cells c' t' (0, 0))) (hn : t ≠ t') : False := by
  rw [h] at h'
  cases h'
  exact hn rfl
theorem heap_set {w : World} {p : Addr} {u : Value} {b : Nat} (h : b ≠ p.block) : (w.setCell p u).heap[b]? = w.heap[b]? := Below.heap_setCell _ _ _ _ h
theorem add_at (g o j : Nat) : (Addr.mk g o none).add j = ⟨g, o + j, none⟩ := by simp [Addr.add]
/-- One violation more. -/
theorem app_vl {w : World} {base g : Nat} {v : Value} {xs : List Vl} (x : Vl) (hown : OwnL base w v xs) (hg : w.heap[g]? = some (vlO x)) (hb : xs.length ≤ 4096) (hbase : base ≤ w.heap.size) (ty : TypeId) :
    ∃ v' w', (Builtin.append_ #[26, 26] ty #[v, .slice (some ⟨g, 0, none⟩) 1 1]).run Try.prog w = .ok v' w' ∧ OwnL base w' v' (xs ++ [x]) ∧ Same (fun k => v.ownBlock = some k) w w' ∧ ∀ k, v'.ownBlock = some k → v.ownBlock = some k ∨ w.heap.size ≤ k := by
  obtain ⟨v', w', hr, r1, r2, r3, -⟩ := Ch.app_wide (P := Try.prog) (t := 26) (ty := ty) (c := 1) (m := 1) (a := ⟨g, 0, none⟩) (news := vlc [x]) Try.underlying26 Try.infoViol rfl (by decide) hown (length_vlc [x]) (fun j u hu => by
    rw [add_at, Nat.zero_add, cell_of hg]
    simpa [vlc] using hu) (vlc_one _) (by unfold maxLen; omega) (by omega) hbase
  rw [← vlc_append] at r1
  exact ⟨v', w', hr, by rw [OwnL, List.length_append]; exact r1, r2, r3⟩
/-- Another list behind it. -/
theorem app_vls {w : World} {base base' : Nat} {v v2 : Value} {xs ys : List Vl} (hown : OwnL base w v xs) (h2 : OwnL base' w v2 ys) (hb : xs.length + ys.length ≤ 4096) (hbase : base ≤ w.heap.size) (ty : TypeId) :
    ∃ v' w', (Builtin.append_ #[26, 26] ty #[v, v2]).run Try.prog w = .ok v' w' ∧ OwnL base w' v' (xs ++ ys) ∧ Same (fun k => v.ownBlock = some k) w w' ∧ ∀ k, v'.ownBlock = some k → v.ownBlock = some k ∨ w.heap.size ≤ k := by
  obtain ⟨a, cap, rfl, -, hnil, hg⟩ := row_shape h2
  cases a with
  | none =>
    obtain ⟨h0, rfl⟩ := hnil rfl
    obtain rfl : ys = [] := List.eq_nil_of_length_eq_zero h0
    obtain ⟨i0, hi0, -, -, -⟩ := info_parts Try.infoViol
    refine ⟨v, w, ?_, by rw [List.append_nil]; exact hown, Same.refl _ _, fun k hk => .inl hk⟩
    exact run_append_owned_none (P := Try.prog) (w := w) base 26 ty 49 i0 12 Try.underlying26 hi0 v xs.length (vlc xs) hown
  | some ad =>
    obtain ⟨g, rfl, -, -⟩ := hg ad rfl
    obtain ⟨v', w', hr, r1, r2, r3, -⟩ := Ch.app_wide (P := Try.prog) (t := 26) (ty := ty) (c := cap) (m := ys.length) (a := ⟨g, 0, none⟩) (news := vlc ys) Try.underlying26 Try.infoViol rfl (by decide) hown (length_vlc ys) (fun j u hu => by
      obtain ⟨b, e, -, -, c⟩ := row_cell h2 hu
      cases e
      rw [add_at, Nat.zero_add]
      exact c) (vlc_one _) (by unfold maxLen; omega) (by omega) hbase
    rw [← vlc_append] at r1
    exact ⟨v', w', hr, by rw [OwnL, List.length_append]; exact r1, r2, r3⟩
theorem own_one {w : World} {g : Nat} {x : Vl} (h : w.heap[g]? = some (vlO x)) : OwnL g w (.slice (some ⟨g, 0, none⟩) 1 1) [x] :=
  ⟨rfl, .inr ⟨g, 1, _, rfl, Nat.le_refl _, h, Nat.le_refl _, by unfold maxLen; omega, rfl, rfl⟩⟩
theorem own_at {base : Nat} {w : World} {a : Option Addr} {m cap : Nat} {l : List Vl} (h : OwnL base w (.slice a m cap) l) {j : Nat} {x : Vl} (hx : l[j]? = some x) : ∃ b, a = some ⟨b, 0, none⟩ ∧ b < w.heap.size ∧ w.cell? ⟨b, j * 12, none⟩ = some (.int .i64 x.kd) ∧ w.cell? ⟨b, j * 12 + 1, none⟩ = some (.int .i64 x.tm) ∧ w.cell? ⟨b, j * 12 + 2, none⟩ = some (.int .i64 x.tx) ∧ w.cell? ⟨b, j * 12 + 3, none⟩ = some (.int .i64 x.op) ∧ w.cell? ⟨b, j * 12 + 4, none⟩ = some (.int .i64 x.wi) ∧ w.cell? ⟨b, j * 12 + 5, none⟩ = some (.string x.key) ∧ w.cell? ⟨b, j * 12 + 6, none⟩ = some (.bool x.wa) ∧ w.cell? ⟨b, j * 12 + 7, none⟩ = some (.string x.ex) ∧ w.cell? ⟨b, j * 12 + 8, none⟩ = some (.bool x.go) ∧ w.cell? ⟨b, j * 12 + 9, none⟩ = some (.string x.ob) ∧ w.cell? ⟨b, j * 12 + 10, none⟩ = some (.int .i64 x.fr) ∧ w.cell? ⟨b, j * 12 + 11, none⟩ = some (.int .i64 x.tt) := by
  have g : ∀ k, k < 12 → ∀ u, (vl1 x)[k]? = some u → ∃ b, a = some ⟨b, 0, none⟩ ∧ base ≤ b ∧ b < w.heap.size ∧ w.cell? ⟨b, j * 12 + k, none⟩ = some u := fun k hk u hu => row_cell h ((vlc_get hx k hk).trans hu)
  obtain ⟨b, rfl, -, hb, c0⟩ := g 0 (by omega) _ rfl
  have g' : ∀ k, k < 12 → ∀ u, (vl1 x)[k]? = some u → w.cell? ⟨b, j * 12 + k, none⟩ = some u := fun k hk u hu => by
    obtain ⟨b', e, -, -, c⟩ := g k hk u hu
    injection e with e
    injection e with e
    rw [e]
    exact c
  exact ⟨b, rfl, hb, c0, g' 1 (by omega) _ rfl, g' 2 (by omega) _ rfl, g' 3 (by omega) _ rfl, g' 4 (by omega) _ rfl, g' 5 (by omega) _ rfl, g' 6 (by omega) _ rfl, g' 7 (by omega) _ rfl, g' 8 (by omega) _ rfl, g' 9 (by omega) _ rfl, g' 10 (by omega) _ rfl, g' 11 (by omega) _ rfl⟩
set_option maxRecDepth 100000 in
set_option maxHeartbeats 3200000 in
theorem same16 {base base' : Nat} (w : World) (a b : Option Addr) (n c d : Nat) (l : List Vl) (ha : OwnL base w (.slice a n c) l) (hb : OwnL base' w (.slice b n d) l) (hn : n = l.length) (hm : n ≤ 1000000) :
    Calls Try.prog 13 #[.slice a n c, .slice b n d] w fun e w' => e = .returned (.bool true) ∧ Kept w w' := by
  have HA : Hid (OwnL base w (.slice a n c) l) := ha
  have HB : Hid (OwnL base' w (.slice b n d) l) := hb
  have HN : Hid (n = l.length) := hn
  clear ha hb hn
  go_enter Try.func13, Try.ntmps13
  go_wp2_with fail
  go_loopw [14] (fun i wr => ∃ j : Nat, i = .int .i64 j ∧ j ≤ n ∧ Kept w wr) (fun i _ => n - (intOf i).toNat)
  case atStart => exact ⟨0, rfl, Nat.zero_le _, Same.refl _ _⟩
  case round =>
    obtain ⟨j, rfl, hj, kj⟩ := hrel
    rename World => WL
    have KL : Hid (Kept w WL) := kj
    clear kj
    by_cases hlt : j < n
    · have d1 : decide ((j : Int) < (n : Int)) = true := decide_eq_true (by omega)
      have hlt2 : (j : Int) < (n : Int) := by omega
      have hws : IntKind.i64.wrap ((j : Int) + 1) = (j : Int) + 1 := by rw [IntKind.wrap_i64] <;> omega
      have hj1 : (j : Int) + 1 ≤ 9223372036854775807 := by omega
      obtain ⟨x, hx⟩ : ∃ x, l[j]? = some x := ⟨_, List.getElem?_eq_getElem (by rw [← show n = _ from HN.out]; exact hlt)⟩
      have HX : Hid (l[j]? = some x) := hx
      obtain ⟨ba, rfl, hba, p0, p1, p2, p3, p4, p5, p6, p7, p8, p9, p10, p11⟩ := own_at (row_kept HA.out KL.out (fun _ _ e => e)) hx
      clear hx
      go_upto_region 6 with fail
      have GB : Hid _ := heap_new WL (vlO x)
      have KB : Hid (Kept w (WL.alloc (vlO x))) := KL.out.alloc _
      generalize WL.alloc (vlO x) = W6 at *
      generalize WL.heap.size = g6 at GB ⊢
      clear p0 p1 p2 p3 p4 p5 p6 p7 p8 p9 p10 p11 hba
      obtain ⟨bb, rfl, hbb, p0, p1, p2, p3, p4, p5, p6, p7, p8, p9, p10, p11⟩ := own_at (row_kept HB.out KB.out (fun _ _ e => e)) HX.out
      have y0 : W6.cell? ⟨g6, 0, none⟩ = some (.int .i64 x.kd) := (cell_of GB.out 0).trans rfl
      have y1 : W6.cell? ⟨g6, 1, none⟩ = some (.int .i64 x.tm) := (cell_of GB.out 1).trans rfl
      have y2 : W6.cell? ⟨g6, 2, none⟩ = some (.int .i64 x.tx) := (cell_of GB.out 2).trans rfl
      have y3 : W6.cell? ⟨g6, 3, none⟩ = some (.int .i64 x.op) := (cell_of GB.out 3).trans rfl
      have y4 : W6.cell? ⟨g6, 4, none⟩ = some (.int .i64 x.wi) := (cell_of GB.out 4).trans rfl
      have y5 : W6.cell? ⟨g6, 5, none⟩ = some (.string x.key) := (cell_of GB.out 5).trans rfl
      have y6 : W6.cell? ⟨g6, 6, none⟩ = some (.bool x.wa) := (cell_of GB.out 6).trans rfl
      have y7 : W6.cell? ⟨g6, 7, none⟩ = some (.string x.ex) := (cell_of GB.out 7).trans rfl
      have y8 : W6.cell? ⟨g6, 8, none⟩ = some (.bool x.go) := (cell_of GB.out 8).trans rfl
      have y9 : W6.cell? ⟨g6, 9, none⟩ = some (.string x.ob) := (cell_of GB.out 9).trans rfl
      have y10 : W6.cell? ⟨g6, 10, none⟩ = some (.int .i64 x.fr) := (cell_of GB.out 10).trans rfl
      have y11 : W6.cell? ⟨g6, 11, none⟩ = some (.int .i64 x.tt) := (cell_of GB.out 11).trans rfl
      have hg6 := lt_of_heap GB.out
      clear HX
      go_quiet (fail)
      go_wp2_with fail
      go_roundw
      case rel => exact ⟨j + 1, by simp, hlt, (by (repeat (first | exact KB.out | apply Same.drew | apply Same.drewN)); done)⟩
      case measure => simp only [intOf]; omega
    · obtain rfl : n = j := by omega
      have d1 : decide ((n : Int) < (n : Int)) = false := decide_eq_false (by omega)
      go_wp2_with fail
      go_ret
      exact ⟨rfl, KL.out⟩
end Go.Proofs.Ytbjmdpfoeeadeaa.Sw
