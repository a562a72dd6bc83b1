/- What is proved: which of an item and the two below it comes first, as the heap answers it; the places lie in the list. -/
import Derived.Test.YtcbllejjiokmbaaNHm
namespace Go.Proofs.Ytcbllejjiokmbaa
open Go.RowKit

/-- Of an item and those below it that lie ahead of q, c is the first. -/
structure Li (lt : Nat → Nat → Bool) (L : List Nat) (a c q : Nat) : Prop where
  who : c = a ∨ (0 < c ∧ c < L.length ∧ (c - 1) / 2 = a ∧ lt (L.getD c 0) (L.getD a 0) = true)
  least : ∀ k, 2 * a + 1 ≤ k → k < q → k < L.length → lt (L.getD k 0) (L.getD c 0) = false
theorem Li.stay {lt : Nat → Nat → Bool} {L : List Nat} {a c q : Nat} (h : Li lt L a c q) (hl : lt (L.getD q 0) (L.getD c 0) = false) : Li lt L a c (q + 1) :=
  ⟨h.who, fun k k0 k1 k2 => by
    by_cases e : k = q
    · subst e; exact hl
    · exact h.least k k0 (by omega) k2⟩
theorem Li.turn {lt : Nat → Nat → Bool} (o : SWO lt) {L : List Nat} {a c q : Nat} (h : Li lt L a c q) (hq : q < L.length) (h1 : 2 * a + 1 ≤ q) (h2 : q ≤ 2 * a + 2) (hl : lt (L.getD q 0) (L.getD c 0) = true) : Li lt L a q (q + 1) := by
  refine ⟨.inr ⟨by omega, hq, by omega, ?_⟩, fun k k0 k1 k2 => ?_⟩
  · rcases h.who with rfl | ⟨-, -, -, h3⟩
    · exact hl
    · exact o.trans hl h3
  · by_cases e : k = q
    · subst e; exact o.irr _
    · exact o.ntr (h.least k k0 (by omega) k2) (o.asym hl)
/-- What leastFrom answers. -/
def Lst (lt : Nat → Nat → Bool) (L : List Nat) (a c : Nat) : Prop :=
  (c = a ∧ ∀ k, 0 < k → k < L.length → (k - 1) / 2 = a → lt (L.getD k 0) (L.getD a 0) = false) ∨
  (c ≠ a ∧ 0 < c ∧ c < L.length ∧ (c - 1) / 2 = a ∧ lt (L.getD c 0) (L.getD a 0) = true ∧ ∀ k, 0 < k → k < L.length → (k - 1) / 2 = a → lt (L.getD k 0) (L.getD c 0) = false)
theorem Li.done {lt : Nat → Nat → Bool} {L : List Nat} {a c q : Nat} (h : Li lt L a c q) (hq : 2 * a + 3 ≤ q ∨ L.length ≤ q) : Lst lt L a c := by
  rcases h.who with rfl | ⟨h0, h1, h2, h3⟩
  · exact .inl ⟨rfl, fun k k0 k1 k2 => h.least k (by omega) (by omega) k1⟩
  · exact .inr ⟨by omega, h0, h1, h2, h3, fun k k0 k1 k2 => h.least k (by omega) (by omega) k1⟩
set_option maxRecDepth 100000 in
set_option maxHeartbeats 1600000 in
theorem least10 {B : Nat} {w : World} {ob lb : Nat} {order : Int} {oa : Option Addr} {cap : Nat} {l : List RwM} (E : Env B w ob lb order oa cap l) {v : Value} {L : List Nat} (h : Hm B w ob lb v L) (hL : ∀ k, k < L.length → L.getD k 0 < l.length) (hn : L.length ≤ 2199023255552) {a : Nat} (ha : a ≤ L.length) :
    Calls Try.prog 70 #[.pointer (some ⟨B, 0, none⟩), .int .i64 a] w fun e w' => ∃ c : Nat, e = .returned (.int .i64 c) ∧ Lst (plt (bef order) l) L a c ∧ Kept w w' := by
  have HE : Hid _ := E
  have HH : Hid _ := h
  have HL : Hid _ := hL
  have O : Hid _ := plt_swo (bef_swo order) l
  obtain ⟨lt, elt⟩ : ∃ lt, lt = plt (bef order) l := ⟨_, rfl⟩
  have HB : Hid (∀ W, Kept w W → ∀ i j : Nat, i < l.length → j < l.length → Calls _ _ _ W fun e w' => e = .returned (.bool (lt i j)) ∧ Kept W w') := fun W k i j hi hj => by rw [elt]; exact before10 (E.on (k.to _)) hi hj
  rw [← elt] at O ⊢
  clear elt
  obtain ⟨ov, cv, rfl⟩ := h.own.len
  obtain ⟨n, en⟩ : ∃ n, n = L.length := ⟨_, rfl⟩
  obtain ⟨c0, c1, -, hB⟩ := h.cells
  rw [← en] at c0 ha hn
  have EN : Hid _ := en
  have c0' : Hid _ := c0
  have c1' : Hid _ := c1
  have hB' : Hid _ := hB
  have ha2 : (a : Int) ≤ 2199023255552 := by omega
  clear E h hL en c0 c1 hB
  go_enter Try.func70, Try.ntmps70
  go_wp2_with fail
  go_loopw [5, 6] (fun u i wr => ∃ c q : Nat, u = .int .i64 c ∧ i = .int .i64 q ∧ Li lt L a c q ∧ 2 * a + 1 ≤ q ∧ q ≤ 2 * a + 3 ∧ Kept w wr) (fun _ i _ => 2 * a + 3 - (intOf i).toNat)
  case atStart => exact ⟨a, 2 * a + 1, rfl, by rw [show ((2 * a + 1 : Nat) : Int) = 2 * (a : Int) + 1 by omega], ⟨.inl rfl, fun k k0 k1 => by omega⟩, Nat.le_refl _, by omega, Same.refl _ _⟩
  case round =>
    obtain ⟨c, q, rfl, rfl, hi, hq1, hq2, kk⟩ := hrel
    have HI : Hid _ := hi
    have KK : Hid _ := kk
    have g0 := (kk.cell (p := ⟨B, 0, none⟩) hB'.out (fun e => e)).trans c0'.out
    have g1 := (kk.cell (p := ⟨B, 1, none⟩) hB'.out (fun e => e)).trans c1'.out
    by_cases hlt : q ≤ 2 * a + 2
    · have d1 : decide ((q : Int) ≤ 2 * (a : Int) + 2) = true := decide_eq_true (by omega)
      have d1' : (q : Int) ≤ 2 * (a : Int) + 2 := by omega
      by_cases hqn : q < n
      · have d2 : decide ((q : Int) < (n : Int)) = true := decide_eq_true (by omega)
        have d2' : (q : Int) < (n : Int) := by omega
        have hcn : c < n := by
          rcases hi.who with e | e
          · omega
          · have := EN.out; omega
        have d3 : (c : Int) < (n : Int) := by omega
        obtain ⟨g, cap', e, hg, -⟩ := HH.out.own.shape (by have := EN.out; omega)
        simp only [Value.slice.injEq, true_and] at e
        obtain ⟨rfl, rfl⟩ := e
        obtain ⟨cq, -, hgl⟩ := HH.out.own.at (i := q) (by rw [← EN.out]; exact hqn)
        obtain ⟨cc, -, -⟩ := HH.out.own.at (i := c) (by rw [← EN.out]; exact hcn)
        have p2 := (kk.cell (p := ⟨g, q, none⟩) hgl (fun e => e)).trans cq
        have p3 := (kk.cell (p := ⟨g, c, none⟩) hgl (fun e => e)).trans cc
        have hx := HL.out q (by rw [← EN.out]; exact hqn)
        have hy := HL.out c (by rw [← EN.out]; exact hcn)
        have HB1 : Hid (∀ W, Kept wr W → Calls _ _ _ W fun e w' => e = .returned (.bool (lt (L.getD q 0) (L.getD c 0))) ∧ Kept wr w') := fun W k => Calls.mono (HB.out W (KK.out.trans' k) _ _ hx hy) fun e w' hh => ⟨hh.1, k.trans' hh.2⟩
        have hS : Hid (lt (L.getD q 0) (L.getD c 0) = false → Li lt L a c (q + 1)) := fun e => hi.stay e
        have hT : Hid (lt (L.getD q 0) (L.getD c 0) = true → Li lt L a q (q + 1)) := fun e => hi.turn O.out (by rw [← EN.out]; exact hqn) hq1 hlt e
        generalize L.getD q 0 = x at *
        generalize L.getD c 0 = y at *
        have hBr : B < wr.heap.size := Nat.lt_of_lt_of_le hB'.out kk.size
        have hgr : g < wr.heap.size := Nat.lt_of_lt_of_le hgl kk.size
        have HT : Hid (∀ W, Kept wr W → Kept wr W ∧ W.cell? ⟨B, 0, none⟩ = some (.slice (some ⟨g, 0, none⟩) n cv) ∧ W.cell? ⟨B, 1, none⟩ = some (.func (.func 62) #[] #[.pointer (some ⟨ob, 0, none⟩), .pointer (some ⟨lb, 0, none⟩)]) ∧ W.cell? ⟨g, q, none⟩ = some (.int .i64 (x : Int)) ∧ W.cell? ⟨g, c, none⟩ = some (.int .i64 (y : Int))) := fun W k =>
          ⟨k, (k.cell (p := ⟨B, 0, none⟩) hBr (fun e => e)).trans g0, (k.cell (p := ⟨B, 1, none⟩) hBr (fun e => e)).trans g1, (k.cell (p := ⟨g, q, none⟩) hgr (fun e => e)).trans p2, (k.cell (p := ⟨g, c, none⟩) hgr (fun e => e)).trans p3⟩
        generalize lt x y = b at *
        clear hi kk hx hy cq cc HI hg
        go_wp2_with fail
        go_region_held3 (fun W => Kept wr W ∧ W.cell? ⟨B, 0, none⟩ = some (.slice (some ⟨g, 0, none⟩) n cv) ∧ W.cell? ⟨B, 1, none⟩ = some (.func (.func 62) #[] #[.pointer (some ⟨ob, 0, none⟩), .pointer (some ⟨lb, 0, none⟩)]) ∧ W.cell? ⟨g, q, none⟩ = some (.int .i64 (x : Int)) ∧ W.cell? ⟨g, c, none⟩ = some (.int .i64 (y : Int)))
          (exact HT.out _ (by (repeat (first | assumption | exact Same.refl _ _ | apply Same.alloc | apply Same.drew | apply Same.drewN)); done))
          ((first
          | (go_at_call 62; refine Calls.mono (HB1.out _ (by (repeat (first | assumption | exact Same.refl _ _ | apply Same.alloc | apply Same.drew | apply Same.drewN)); done)) ?_; rintro r w1 ⟨rfl, k1⟩)))
        all_goals
          cases b with
          | false =>
            go_wp2_with fail
            go_roundw
            case rel => exact ⟨c, q + 1, rfl, by rw [Int.natCast_add]; rfl, hS.out rfl, by omega, by omega, KK.out.trans' (by assumption)⟩
            case measure => simp only [intOf]; omega
          | true =>
            go_wp2_with fail
            go_roundw
            case rel => exact ⟨q, q + 1, rfl, by rw [Int.natCast_add]; rfl, hT.out rfl, by omega, by omega, KK.out.trans' (by assumption)⟩
            case measure => simp only [intOf]; omega
      · have d2 : decide ((q : Int) < (n : Int)) = false := decide_eq_false (by omega)
        have d2' : ¬ q < n := hqn
        have HD : Hid _ := hi.done (.inr (by have := EN.out; omega))
        clear hi kk HI
        go_wp2_with fail
        go_ret
        exact ⟨c, rfl, HD.out, KK.out⟩
    · have d1 : decide ((q : Int) ≤ 2 * (a : Int) + 2) = false := decide_eq_false (by omega)
      have d1' : ¬ ((q : Int) ≤ 2 * (a : Int) + 2) := by omega
      have HD : Hid _ := hi.done (.inl (by omega))
      clear hi kk HI
      go_wp2_with fail
      go_ret
      exact ⟨c, rfl, HD.out, KK.out⟩
end Go.Proofs.Ytcbllejjiokmbaa
