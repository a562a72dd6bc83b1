/- What is proved: a config's settings in any order, plain. -/
import Derived.Test.YtolooejcgdknnaaDoorCfB
namespace Go.Proofs.YtolooejcgdknnaaDoor
open Go.RowKit

def bT : List UInt8 := [98, 117, 100, 103, 101, 116, 61, 52, 48, 57, 54]
def eT : List UInt8 := [101, 112, 115, 61, 48]
/-- Settings with a blank between two. -/
def jn : List (List UInt8) → List UInt8
  | [] => []
  | [p] => p
  | p :: q :: ps => p ++ 32 :: jn (q :: ps)
theorem jn_snoc (q : List UInt8) : ∀ {ps : List (List UInt8)}, ps ≠ [] → jn (ps ++ [q]) = jn ps ++ [32] ++ q
  | [], h => (h rfl).elim
  | [p], _ => by simp [jn]
  | p :: r :: ps, _ => by
    have ih := jn_snoc q (ps := r :: ps) (by simp)
    show jn (p :: r :: (ps ++ [q])) = _
    have e : jn (p :: r :: (ps ++ [q])) = p ++ 32 :: jn (r :: (ps ++ [q])) := rfl
    rw [e, show r :: (ps ++ [q]) = (r :: ps) ++ [q] from rfl, ih]
    simp [jn]
theorem pcs_jn : ∀ {ps : List (List UInt8)}, ps ≠ [] → (∀ p ∈ ps, 32 ∉ p) → pcs (jn ps) = ps
  | [], h, _ => (h rfl).elim
  | [p], _, h => pcs_no (h p (by simp))
  | p :: q :: ps, _, h => by
    show pcs (p ++ 32 :: jn (q :: ps)) = _
    rw [pcs_at (h p (by simp)), pcs_jn (by simp) (fun r hr => h r (by simp at hr ⊢; exact .inr hr))]
theorem jn_ne {ps : List (List UInt8)} (h : ps ≠ []) (hp : ∀ p ∈ ps, p ≠ []) : jn ps ≠ [] := by
  match ps, h with
  | [p], _ => exact hp p (by simp)
  | p :: q :: ps, _ => simp [jn]
/-- Is a setting left out? -/
def lo (e1 e2 : Bool) (x : Cg) (k : Nat) : Bool := (e1 && (pc x k == bT)) || (e2 && (pc x k == eT))
/-- The text of the first j settings from place r on, round about. -/
def jt (e1 e2 : Bool) (x : Cg) (r : Nat) : Nat → List UInt8
  | 0 => []
  | j + 1 => if lo e1 e2 x ((j + r) % 5) = true then jt e1 e2 x r j else jt e1 e2 x r j ++ (if jt e1 e2 x r j = [] then [] else [32]) ++ pc x ((j + r) % 5)
def pk (e1 e2 : Bool) (r j : Nat) : List Nat := ((List.range j).map fun j => (j + r) % 5).filter fun k => !((e1 && decide (k = 0)) || (e2 && decide (k = 3)))
structure Ox (e1 e2 : Bool) (x : Cg) : Prop where
  ok : chk x = 0
  h1 : e1 = true → x.a = 4096
  h2 : e2 = true → x.d = 0
theorem stg_at {x : Cg} (h : chk x = 0) {k : Nat} (hk : k < 5) : stg (pc x k) = some (k, (fl x k).toNat) := by
  have := nn_ok h k
  exact stg_pc hk (by omega) (by omega)
theorem numb_4096 : numb [52, 48, 57, 54] = some 4096 := by decide
theorem stg_bT : stg bT = some (0, 4096) := by rw [stg_iff]; exact ⟨by omega, [52, 48, 57, 54], rfl, numb_4096⟩
theorem stg_eT : stg eT = some (3, 0) := by rw [stg_iff]; exact ⟨by omega, [48], rfl, by decide⟩
theorem lo_eq {e1 e2 : Bool} {x : Cg} (h : Ox e1 e2 x) {k : Nat} (hk : k < 5) : lo e1 e2 x k = ((e1 && decide (k = 0)) || (e2 && decide (k = 3))) := by
  have e := stg_at h.ok hk
  have a1 : e1 = true → (pc x k == bT) = decide (k = 0) := fun he => by
    by_cases hk0 : k = 0
    · subst hk0
      have : pc x 0 = bT := by
        show nmC 0 ++ [61] ++ Lib.itoa x.a = bT
        rw [h.h1 he, it_4096]
        rfl
      rw [this]; rfl
    · rw [decide_eq_false hk0]
      refine beq_eq_false_iff_ne.2 fun e2 => ?_
      rw [e2, stg_bT] at e
      have e3 := congrArg (Option.map Prod.fst) e
      simp only [Option.map_some, Option.some.injEq] at e3
      exact hk0 e3.symm
  have a2 : e2 = true → (pc x k == eT) = decide (k = 3) := fun he => by
    by_cases hk0 : k = 3
    · subst hk0
      have : pc x 3 = eT := by
        show nmC 3 ++ [61] ++ Lib.itoa x.d = eT
        rw [h.h2 he, it_0]
        rfl
      rw [this]; rfl
    · rw [decide_eq_false hk0]
      refine beq_eq_false_iff_ne.2 fun e2 => ?_
      rw [e2, stg_eT] at e
      have e3 := congrArg (Option.map Prod.fst) e
      simp only [Option.map_some, Option.some.injEq] at e3
      exact hk0 e3.symm
  unfold lo
  cases e1 <;> cases e2 <;> simp_all
theorem pc_ne (x : Cg) (k : Nat) : pc x k ≠ [] := by unfold pc; simp
theorem jt_jn {e1 e2 : Bool} {x : Cg} (h : Ox e1 e2 x) (r : Nat) : ∀ j, jt e1 e2 x r j = jn ((pk e1 e2 r j).map (pc x))
  | 0 => rfl
  | j + 1 => by
    have ih := jt_jn h r j
    have hk : (j + r) % 5 < 5 := Nat.mod_lt _ (by omega)
    have e : pk e1 e2 r (j + 1) = pk e1 e2 r j ++ (if ((e1 && decide ((j + r) % 5 = 0)) || (e2 && decide ((j + r) % 5 = 3))) = true then [] else [(j + r) % 5]) := by
      unfold pk
      rw [List.range_succ, List.map_append, List.filter_append]
      congr 1
      simp only [List.map_cons, List.map_nil, List.filter_cons, List.filter_nil]
      cases ((e1 && decide ((j + r) % 5 = 0)) || (e2 && decide ((j + r) % 5 = 3))) <;> rfl
    unfold jt
    rw [lo_eq h hk, e]
    generalize (j + r) % 5 = k at hk
    split
    · rw [List.append_nil, ih]
    · rw [List.map_append, ih]
      cases hp : pk e1 e2 r j with
      | nil => simp [jn]
      | cons a l =>
        have hne : ((a :: l).map (pc x)) ≠ [] := by simp
        rw [if_neg (jn_ne hne (fun p hp => by obtain ⟨k, _, rfl⟩ := List.mem_map.1 hp; exact pc_ne x k))]
        exact (jn_snoc _ hne).symm
theorem pk_one : ∀ (e1 e2 : Bool) (r : Fin 5), 1 ∈ pk e1 e2 r.val 5 ∧ ∀ k ∈ pk e1 e2 r.val 5, k < 5 := by decide
/-- Settings read one behind the other. -/
def rdK (x : Cg) : List Nat → Cg → Sn → Option Cg
  | [], y, _ => some y
  | k :: ks, y, s => if s.at k = true then none else rdK x ks (y.put k (fl x k)) (s.on k)
theorem rdK_eq {x : Cg} (h : chk x = 0) : ∀ (ks : List Nat) (y : Cg) (s : Sn), (∀ k ∈ ks, k < 5) → rdP (ks.map (pc x)) y s = rdK x ks y s
  | [], _, _, _ => rfl
  | k :: ks, y, s, hk => by
    have e := stg_at h (hk k (by simp))
    have f : ((fl x k).toNat : Int) = fl x k := by have := nn_ok h k; omega
    simp only [List.map_cons, rdP, e, rdK, f]
    split
    · rfl
    · exact rdK_eq h ks _ _ (fun k hk2 => hk k (by simp [hk2]))
theorem rdP_app : ∀ (ps : List (List UInt8)) (y : Cg) (s : Sn) (q : List UInt8), rdP ps y s = none ∨ stg q = none → rdP (ps ++ [q]) y s = none
  | [], y, s, q, h => by
    rcases h with h | h
    · cases h
    · simp [rdP, h]
  | p :: ps, y, s, q, h => by
    simp only [List.cons_append, rdP] at h ⊢
    rcases hp : stg p with _ | ⟨k, n⟩
    · rfl
    · rw [hp] at h
      dsimp only at h ⊢
      by_cases hs : s.at k = true
      · rw [if_pos hs]
      · rw [if_neg hs] at h ⊢
        exact rdP_app ps _ _ q h
theorem pkv000 : pk false false 0 5 = [0, 1, 2, 3, 4] := by decide
theorem pkv001 : pk false false 1 5 = [1, 2, 3, 4, 0] := by decide
theorem pkv002 : pk false false 2 5 = [2, 3, 4, 0, 1] := by decide
theorem pkv003 : pk false false 3 5 = [3, 4, 0, 1, 2] := by decide
theorem pkv004 : pk false false 4 5 = [4, 0, 1, 2, 3] := by decide
theorem pkv010 : pk false true 0 5 = [0, 1, 2, 4] := by decide
theorem pkv011 : pk false true 1 5 = [1, 2, 4, 0] := by decide
theorem pkv012 : pk false true 2 5 = [2, 4, 0, 1] := by decide
theorem pkv013 : pk false true 3 5 = [4, 0, 1, 2] := by decide
theorem pkv014 : pk false true 4 5 = [4, 0, 1, 2] := by decide
theorem pkv100 : pk true false 0 5 = [1, 2, 3, 4] := by decide
theorem pkv101 : pk true false 1 5 = [1, 2, 3, 4] := by decide
theorem pkv102 : pk true false 2 5 = [2, 3, 4, 1] := by decide
theorem pkv103 : pk true false 3 5 = [3, 4, 1, 2] := by decide
theorem pkv104 : pk true false 4 5 = [4, 1, 2, 3] := by decide
theorem pkv110 : pk true true 0 5 = [1, 2, 4] := by decide
theorem pkv111 : pk true true 1 5 = [1, 2, 4] := by decide
theorem pkv112 : pk true true 2 5 = [2, 4, 1] := by decide
theorem pkv113 : pk true true 3 5 = [4, 1, 2] := by decide
theorem pkv114 : pk true true 4 5 = [4, 1, 2] := by decide
theorem rdK_all {e1 e2 : Bool} {x : Cg} (h : Ox e1 e2 x) (r : Fin 5) : rdK x (pk e1 e2 r.val 5) usC sn0 = some x := by
  obtain ⟨a, b, c, d, e⟩ := x
  have h1 := h.h1
  have h2 := h.h2
  simp only at h1 h2
  obtain ⟨r, hr⟩ := r
  have hc : r = 0 ∨ r = 1 ∨ r = 2 ∨ r = 3 ∨ r = 4 := by omega
  rcases hc with rfl | rfl | rfl | rfl | rfl <;> cases e1 <;> cases e2 <;> simp at h1 h2 <;> (try subst h1) <;> (try subst h2) <;> simp only [pkv000, pkv001, pkv002, pkv003, pkv004, pkv010, pkv011, pkv012, pkv013, pkv014, pkv100, pkv101, pkv102, pkv103, pkv104, pkv110, pkv111, pkv112, pkv113, pkv114] <;> rfl
theorem rdK_twice {e1 e2 : Bool} (x : Cg) (r : Fin 5) : rdK x (pk e1 e2 r.val 5 ++ [1]) usC sn0 = none := by
  obtain ⟨a, b, c, d, e⟩ := x
  obtain ⟨r, hr⟩ := r
  have hc : r = 0 ∨ r = 1 ∨ r = 2 ∨ r = 3 ∨ r = 4 := by omega
  rcases hc with rfl | rfl | rfl | rfl | rfl <;> cases e1 <;> cases e2 <;> simp only [pkv000, pkv001, pkv002, pkv003, pkv004, pkv010, pkv011, pkv012, pkv013, pkv014, pkv100, pkv101, pkv102, pkv103, pkv104, pkv110, pkv111, pkv112, pkv113, pkv114] <;> rfl
theorem pc_no {x : Cg} (h : chk x = 0) (k : Nat) : 32 ∉ pc x k := pc_no32 (n := (fl x k).toNat) (by have := nn_ok h k; omega)
theorem pk_ne (e1 e2 : Bool) (r : Fin 5) : (pk e1 e2 r.val 5) ≠ [] := by
  intro e
  have := (pk_one e1 e2 r).1
  rw [e] at this
  cases this
theorem order1 {e1 e2 : Bool} {x : Cg} (h : Ox e1 e2 x) (r : Fin 5) : parseC (jt e1 e2 x r.val 5) = (x, 0) := by
  have hne : ((pk e1 e2 r.val 5).map (pc x)) ≠ [] := by simpa using pk_ne e1 e2 r
  have hnb : ∀ p ∈ (pk e1 e2 r.val 5).map (pc x), 32 ∉ p := fun p hp => by obtain ⟨k, _, rfl⟩ := List.mem_map.1 hp; exact pc_no h.ok k
  unfold parseC rdC
  rw [jt_jn h, if_neg (jn_ne hne (fun p hp => by obtain ⟨k, _, rfl⟩ := List.mem_map.1 hp; exact pc_ne x k)), pcs_jn hne hnb, rdK_eq h.ok _ _ _ (pk_one e1 e2 r).2, rdK_all h r]
  dsimp only
  rw [h.ok]
  rfl
theorem order2 {e1 e2 : Bool} {x : Cg} (h : Ox e1 e2 x) (r : Fin 5) : parseC (jt e1 e2 x r.val 5 ++ [32] ++ pc x 1) = (zC, 230) := by
  have hne : ((pk e1 e2 r.val 5).map (pc x)) ≠ [] := by simpa using pk_ne e1 e2 r
  have hnb : ∀ p ∈ (pk e1 e2 r.val 5).map (pc x) ++ [pc x 1], 32 ∉ p := fun p hp => by
    rw [List.mem_append, List.mem_singleton] at hp
    rcases hp with hp | rfl
    · obtain ⟨k, _, rfl⟩ := List.mem_map.1 hp; exact pc_no h.ok k
    · exact pc_no h.ok 1
  unfold parseC rdC
  rw [jt_jn h, if_neg (by simp), ← jn_snoc _ hne, pcs_jn (by simp) hnb, show (pk e1 e2 r.val 5).map (pc x) ++ [pc x 1] = (pk e1 e2 r.val 5 ++ [1]).map (pc x) by simp,
    rdK_eq h.ok _ _ _ (fun k hk => by rw [List.mem_append, List.mem_singleton] at hk; rcases hk with hk | rfl; exact (pk_one e1 e2 r).2 k hk; omega), rdK_twice x r]
theorem order3 {e1 e2 : Bool} {x : Cg} (h : Ox e1 e2 x) (r : Fin 5) : parseC (jt e1 e2 x r.val 5 ++ [32]) = (zC, 230) := by
  have hne : ((pk e1 e2 r.val 5).map (pc x)) ≠ [] := by simpa using pk_ne e1 e2 r
  have hnb : ∀ p ∈ (pk e1 e2 r.val 5).map (pc x) ++ [[]], 32 ∉ p := fun p hp => by
    rw [List.mem_append, List.mem_singleton] at hp
    rcases hp with hp | rfl
    · obtain ⟨k, _, rfl⟩ := List.mem_map.1 hp; exact pc_no h.ok k
    · simp
  unfold parseC rdC
  have e := jn_snoc [] hne
  rw [List.append_nil] at e
  rw [jt_jn h, if_neg (by simp), ← e, pcs_jn (by simp) hnb, rdP_app _ _ _ [] (.inr (by decide))]
theorem jt_len {e1 e2 : Bool} {x : Cg} (h : chk x = 0) (r : Nat) : ∀ j, (jt e1 e2 x r j).length ≤ 40 * j
  | 0 => Nat.le_refl _
  | j + 1 => by
    have ih := jt_len (e1 := e1) (e2 := e2) h r j
    have h2 : (pc x ((j + r) % 5)).length ≤ 30 := by
      obtain ⟨h0, h1⟩ := fl_bd h ((j + r) % 5)
      have h2 := itoa_len h0 h1
      have h3 : (nmC ((j + r) % 5)).length ≤ 6 := by
        unfold nmC
        split <;> decide
      simp only [pc, List.length_append, List.length_cons, List.length_nil]
      omega
    unfold jt
    split
    · omega
    · simp only [List.length_append]
      split <;> simp <;> omega
end Go.Proofs.YtolooejcgdknnaaDoor
