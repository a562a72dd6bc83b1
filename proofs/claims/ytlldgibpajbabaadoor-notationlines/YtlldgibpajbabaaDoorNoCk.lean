/- What is proved: the document's Check and Copies of a list of transactions that lies in memory (as LChk, for a seat without the log's bytes); the bounds that a machine's memory sets. -/
import Derived.Test.YtlldgibpajbabaaDoorNoTs
import Derived.Test.YtlldgibpajbabaaDoorRRVal
namespace Go.Proofs.YtlldgibpajbabaaDoor
open Go.RowKit

/-- The place and the error of the first transaction that isn't right. -/
def bad7 : List TxM → Nat → Nat × Int
  | [], _ => (0, 0)
  | t :: r, i => if valid t ≠ 0 then (i, valid t) else bad7 r (i + 1)
def check7 (l : List TxM) : Nat × Int := if 4096 < l.length then (0, 71) else bad7 l 0
theorem bad7_ok : ∀ {l : List TxM} {i : Nat}, (bad7 l i).2 = 0 ↔ ∀ t ∈ l, Right t := by
  intro l
  induction l with
  | nil => intro i; exact ⟨fun _ t h => (by cases h), fun _ => rfl⟩
  | cons t r ih =>
    intro i
    unfold bad7
    by_cases c : valid t ≠ 0
    · rw [if_pos c]
      exact ⟨fun h => absurd h c, fun h => absurd (valid_zero.2 (h t (by simp))) c⟩
    · rw [if_neg c, ih]
      have c' : valid t = 0 := by simpa using c
      refine ⟨fun h x hx => ?_, fun h x hx => h x (by simp [hx])⟩
      rcases List.mem_cons.1 hx with rfl | hx
      · exact valid_zero.1 c'
      · exact h x hx
theorem bad7_zero : ∀ {l : List TxM} {i : Nat}, (bad7 l i).2 = 0 → (bad7 l i).1 = 0 := by
  intro l
  induction l with
  | nil => intro i _; rfl
  | cons t r ih =>
    intro i h
    unfold bad7 at h ⊢
    by_cases c : valid t ≠ 0
    · rw [if_pos c] at h
      exact absurd h c
    · rw [if_neg c] at h ⊢
      exact ih h
theorem check7_ok {l : List TxM} : (check7 l).2 = 0 ↔ (∀ t ∈ l, Right t) ∧ l.length ≤ 4096 := by
  unfold check7
  by_cases c : 4096 < l.length
  · rw [if_pos c]
    exact ⟨fun h => absurd h (by decide), fun h => absurd h.2 (by omega)⟩
  · rw [if_neg c, bad7_ok]
    exact ⟨fun h => ⟨h, by omega⟩, fun h => h.1⟩
theorem check7_zero {l : List TxM} (h : (check7 l).2 = 0) : check7 l = (0, 0) := by
  have h1 : (check7 l).1 = 0 := by
    unfold check7 at h ⊢
    by_cases c : 4096 < l.length
    · rw [if_pos c]
    · rw [if_neg c] at h ⊢
      exact bad7_zero h
  exact Prod.ext h1 h
theorem bad7_at {l : List TxM} : ∀ {i j : Nat} {t : TxM}, l[i]? = some t → (∀ x ∈ l.take i, Right x) → valid t ≠ 0 → bad7 l j = (j + i, valid t) := by
  induction l with
  | nil => intro i j t h; simp at h
  | cons a r ih =>
    intro i j t h hr hv
    cases i with
    | zero =>
      simp only [List.getElem?_cons_zero, Option.some.injEq] at h
      subst h
      unfold bad7
      rw [if_pos hv]
      rfl
    | succ i =>
      simp only [List.getElem?_cons_succ] at h
      unfold bad7
      rw [if_neg (by simpa using valid_zero.2 (hr a (by simp))), ih h (fun x hx => hr x (by simp [hx])) hv]
      congr 1
      omega

section
variable {w : World} {oa : Option Addr} {c : Nat} {l : List TxR}
theorem bad7_all {l : List TxM} {k j : Nat} (h : ∀ t ∈ l.take k, Right t) (hk : l.length ≤ k) : bad7 l j = (0, 0) := by
  have h2 : ∀ t ∈ l, Right t := by rw [List.take_of_length_le hk] at h; exact h
  exact Prod.ext (bad7_zero (bad7_ok.2 h2)) (bad7_ok.2 h2)
set_option maxRecDepth 100000 in
set_option maxHeartbeats 1600000 in
theorem check_ref (h : ArgL w oa c l) : Calls Tryd.prog 12 #[.slice oa l.length c] w fun x w' => x = .returned (.tuple #[.int .i64 ((check7 (l.map TxR.t)).1 : Int), .int .i64 (check7 (l.map TxR.t)).2]) ∧ Kept w w' := by
  have hle := h.le
  have HD : Hid _ := h.txs
  have HDP : Hid _ := h.deep
  obtain ⟨L, eL⟩ : ∃ L, L = l.length := ⟨_, rfl⟩
  have EL : Hid _ := eL
  by_cases hl : 4096 < l.length
  · have hl3 : decide ((L : Int) > 4096) = true := decide_eq_true (by omega)
    have hl2 : 4096 < (L : Int) := by omega
    have hc : check7 (l.map TxR.t) = (0, 71) := by unfold check7; rw [if_pos (by rw [List.length_map]; exact hl)]
    rw [hc, ← eL]
    clear h hl eL hc
    go_enter Tryd.func12, Tryd.ntmps12
    go_wp2_with fail
    go_ret2
    exact ⟨rfl, Same.refl _ _⟩
  · have hl3 : decide ((L : Int) > 4096) = false := decide_eq_false (by omega)
    have hLi : (L : Int) ≤ 4096 := by omega
    obtain ⟨Z, eZ⟩ : ∃ Z, Z = check7 (l.map TxR.t) := ⟨_, rfl⟩
    have hc : Z = bad7 (l.map TxR.t) 0 := by rw [eZ]; unfold check7; rw [if_neg (by rw [List.length_map]; exact hl)]
    have HC : Hid _ := hc
    rw [← eZ, ← eL]
    clear h hl eL hc eZ hle
    go_enter Tryd.func12, Tryd.ntmps12
    go_wp2_with fail
    go_loopw [4] (fun i W => ∃ k : Nat, i = .int .i64 k ∧ k ≤ L ∧ Kept w W ∧ ∀ t ∈ (l.map TxR.t).take k, Right t) (fun i _ => L - (intOf i).toNat)
    case atStart => exact ⟨0, rfl, Nat.zero_le _, Same.refl _ _, fun t ht => (by simp at ht)⟩
    case round =>
      obtain ⟨k, rfl, hk, hkw, hrt⟩ := hrel
      have KW : Hid _ := hkw
      have HRT : Hid _ := hrt
      have hsz := hkw.size
      clear hkw hrt
      by_cases hkl : k < L
      · have d1 : decide ((k : Int) < (L : Int)) = true := decide_eq_true (by omega)
        have hkl2 : (k : Int) < (L : Int) := by omega
        obtain ⟨r, hr⟩ : ∃ r, l[k]? = some r := ⟨_, List.getElem?_eq_getElem (by rw [← EL.out]; exact hkl)⟩
        obtain ⟨b, off, rfl, hbl, -⟩ := HD.out _ _ hr
        obtain ⟨x0, x1, x2, x3, x4, x5, x6, x7⟩ := TxsAt.get (TxsAt.on HD.out KW.out) hr
        have hbl2 : b < wr.heap.size := Nat.lt_of_lt_of_le hbl hsz
        have HV : Hid _ := validR_any wr r.t r.v (TxA.on (Deep.get HDP.out hr) KW.out)
        have HR : Hid _ := hr
        have HKL : Hid _ := hkl
        clear hr hbl hkl hk
        go_wp2_with fail
        refine Calls.mono HV.out ?_
        rintro x w1 ⟨rfl, k1⟩
        have K1 : Hid (Kept w w1) := KW.out.trans' k1
        clear k1
        by_cases hv : valid r.t = 0
        · have hv' : (valid r.t != 0) = false := by simpa using hv
          have HVV : Hid _ := hv
          clear hv
          go_wp2_with fail
          go_roundw
          case rel =>
            refine ⟨k + 1, by congr 1, HKL.out, K1.out, fun t ht => ?_⟩
            rw [List.take_add_one, List.getElem?_map, HR.out] at ht
            rcases List.mem_append.1 ht with ht | ht
            · exact HRT.out t ht
            · obtain rfl : t = r.t := by simpa using ht
              exact valid_zero.1 HVV.out
          case measure => simp only [intOf]; have := HKL.out; omega
        · have hv' : (valid r.t != 0) = true := by simpa using hv
          have HVV : Hid _ := hv
          clear hv
          go_wp2_with fail
          go_ret2
          have e := bad7_at (l := l.map TxR.t) (i := k) (j := 0) (t := r.t) (by rw [List.getElem?_map, HR.out]; rfl) HRT.out HVV.out
          rw [Nat.zero_add, ← HC.out] at e
          rw [e]
          exact ⟨rfl, K1.out⟩
      · obtain rfl : k = L := by omega
        have d1 : decide ((k : Int) < (k : Int)) = false := decide_eq_false (by omega)
        clear hkl hk
        go_wp2_with fail
        go_ret2
        have e := bad7_all (j := 0) HRT.out (by rw [List.length_map, ← EL.out]; exact Nat.le_refl _)
        rw [← HC.out] at e
        rw [e]
        exact ⟨rfl, KW.out⟩
/-- One transaction more behind a row of one's own, however long. -/
theorem app_tx_big {w : World} {base : Nat} {v : Value} {xs : List TxR} (r : TxR) (hown : OwnT base w v xs) (hb : (xs.length + 1) * 80 ≤ 140737488355328) (hbase : base ≤ w.heap.size) (ty : TypeId) :
    ∃ v' w', (Builtin.append_ #[33, 33] ty #[v, .slice (some ⟨w.heap.size, 0, none⟩) 1 1]).run Tryd.prog (w.alloc r.obj) = .ok v' w' ∧ OwnT base w' v' (xs ++ [r]) ∧ Same (fun k => v.ownBlock = some k) w w' ∧ ∀ k, v'.ownBlock = some k → v.ownBlock = some k ∨ w.heap.size ≤ k := by
  obtain ⟨i0, hi0, hz0, hz1, hz2⟩ := info_parts Tryd.infoTxn
  have k0 : Kept w (w.alloc r.obj) := (Same.refl _ w).alloc _
  have ho := OwnT.on hown k0
  obtain ⟨v', w', hr, r1, r2, _, r3⟩ := run_append_own_at (P := Tryd.prog) (w := w.alloc r.obj) base 33 ty 25 i0 _ 8 80 Tryd.underlying33 hi0 hz0 hz1 hz2 rfl (by decide) v xs.length _ ho ⟨w.heap.size, 0, none⟩ 1 1 (txc [r]) (length_txc [r])
    (fun j u hu => txs_new w r _ j u hu) (txc_one _) (by unfold maxLen; omega) (by omega) (by simp [World.size_alloc]; omega)
  rw [← txc_append] at r1
  refine ⟨v', w', hr, by rw [OwnT, List.length_append]; exact r1, (Kept.to k0 _).trans' (Same.of_grown r2 (fun k e => e)), fun k hk => ?_⟩
  rcases r3 with e | e
  · exact .inl (e ▸ hk)
  · rw [e] at hk
    cases hk
    rw [World.size_alloc]
    exact .inr (by omega)
/-- What stands at the head of the loop: k are copied. -/
structure Cps (w W : World) (l : List TxR) (v : Value) (k : Nat) (m : List TxR) : Prop where
  lst : Lst w.heap.size W v m
  eq : m.map TxR.t = (l.take k).map TxR.t
  len : m.length = k
  kept : Kept w W
theorem Cps.next {W W1 : World} {v : Value} {k : Nat} {m : List TxR} {r : TxR} {a : Option Addr} {c : Nat} (h : Cps w W l v k m) (hr : l[k]? = some r) (k1 : Kept W W1) (ho : OwnO W.heap.size W1 (.slice a r.t.ops.length c) r.t.ops) (hb : (k + 1) * 80 ≤ 140737488355328) (ty : TypeId) :
    ∃ v' w', (Builtin.append_ #[33, 33] ty #[v, .slice (some ⟨W1.heap.size + 1, 0, none⟩) 1 1]).run Tryd.prog ((W1.alloc (⟨r.t, a, c⟩ : TxR).obj).alloc (⟨r.t, a, c⟩ : TxR).obj) = .ok v' w' ∧ (∃ a' c', Cps w w' l v' (k + 1) (m ++ [⟨r.t, a, c⟩]) ∧ v' = .slice a' (k + 1) c') := by
  have hsz : w.heap.size ≤ W1.heap.size := Nat.le_trans h.kept.size k1.size
  have k2 : Kept W (W1.alloc (⟨r.t, a, c⟩ : TxR).obj) := k1.alloc _
  obtain ⟨v', w', hr', r1, r2, r3⟩ := app_tx_big (⟨r.t, a, c⟩ : TxR) (OwnT.on h.lst.row k2) (by rw [h.len]; exact hb) (by rw [World.size_alloc]; omega) ty
  rw [World.size_alloc] at hr'
  refine ⟨v', w', hr', ?_⟩
  obtain ⟨q1, -⟩ := Lst.app (r := (⟨r.t, a, c⟩ : TxR)) h.lst k2 (OwnO.on ho ((Same.refl _ W1).alloc _)) h.kept.size r1 r2 r3
  obtain ⟨a', c', e', -⟩ := OwnT.txs r1
  refine ⟨a', c', ⟨q1, ?_, by rw [List.length_append, h.len]; rfl, (h.kept.trans' k2).trans r2 (fun i hi e => absurd (h.lst.row.block e).1 (Nat.not_le.2 hi))⟩, by rw [e', List.length_append, h.len]; rfl⟩
  rw [List.map_append, h.eq, List.take_add_one, hr]
  simp
set_option maxRecDepth 100000 in
set_option maxHeartbeats 1600000 in
theorem copies_any (h : ArgL w oa c l) : Calls Tryd.prog 11 #[.slice oa l.length c] w fun x w' => ∃ v m, x = .returned v ∧ m.map TxR.t = l.map TxR.t ∧ Lst w.heap.size w' v m ∧ Kept w w' := by
  have hle := h.le
  have H : Hid _ := h
  have HD : Hid _ := h.txs
  obtain ⟨L, eL⟩ : ∃ L, L = l.length := ⟨_, rfl⟩
  have EL : Hid _ := eL
  rw [← eL] at hle ⊢
  have hLi : (L : Int) ≤ 140737488351232 := by omega
  have H0 : Hid (Cps w w l (.slice none 0 0) 0 []) := ⟨Lst.nil _ _, rfl, rfl, Same.refl _ _⟩
  clear h eL
  go_enter Tryd.func11, Tryd.ntmps11
  go_wp2_with fail
  go_loopw [3, 4] (fun v i W => ∃ (k : Nat) (m : List TxR), i = .int .i64 k ∧ k ≤ L ∧ Cps w W l v k m) (fun _ i _ => L - (intOf i).toNat)
  case atStart => exact ⟨0, [], rfl, Nat.zero_le _, H0.out⟩
  case round =>
    obtain ⟨k, m, rfl, hk, hc⟩ := hrel
    have HC : Hid _ := hc
    obtain ⟨va, vc, rfl⟩ : ∃ va vc, _ = Value.slice va k vc := by
      obtain ⟨a', c', e', -⟩ := OwnT.txs hc.lst.row
      rw [hc.len] at e'
      exact ⟨a', c', e'⟩
    have hsz := hc.kept.size
    clear hc H0
    by_cases hkl : k < L
    · have d1 : decide ((k : Int) < (L : Int)) = true := decide_eq_true (by omega)
      have hkl2 : (k : Int) < (L : Int) := by omega
      obtain ⟨r, hr⟩ : ∃ r, l[k]? = some r := ⟨_, List.getElem?_eq_getElem (by rw [← EL.out]; exact hkl)⟩
      obtain ⟨b, off, rfl, hbl, -⟩ := HD.out _ _ hr
      obtain ⟨x0, x1, x2, x3, x4, x5, x6, x7⟩ := TxsAt.get (TxsAt.on HD.out HC.out.kept) hr
      have hbl2 : b < wr.heap.size := Nat.lt_of_lt_of_le hbl hsz
      have HCP : Hid _ := copy_any wr r.t r.a r.c ((H.out.each r (List.mem_of_getElem? hr)).on HC.out.kept)
      have HR : Hid _ := hr
      have HKL : Hid _ := hkl
      clear hr hbl hkl hk
      go_wp2_with fail
      refine Calls.mono HCP.out ?_
      rintro x w1 ⟨a1, c1, rfl, o1, k1⟩
      have HN : Hid (∀ ty, _) := fun ty => HC.out.next HR.out k1 o1 (by have := HKL.out; omega) ty
      rw [show txV r.t (.slice a1 r.t.ops.length c1) = .agg #[.int .i64 r.t.f0, .int .i64 r.t.f1, .int .i64 r.t.f2, .int .i64 r.t.f3, .int .i64 r.t.f4, .int .i64 r.t.f5, .int .i64 r.t.f6, .slice a1 r.t.ops.length c1] from rfl]
      clear o1 k1
      go_wp2_with (at_builtin; refine wpList_app rfl (.tmp 17) (.tmp 19) 33 33 rfl _ _ rfl rfl _ HN.out ?_; intro v5 w5 hR; obtain ⟨a5, c5, r5, rfl⟩ := hR; have R5 : Hid _ := r5; clear r5)
      go_roundw
      case rel => exact ⟨k + 1, _, by congr 1, HKL.out, R5.out⟩
      case measure => simp only [intOf]; have := HKL.out; omega
    · obtain rfl : k = L := by omega
      have d1 : decide ((k : Int) < (k : Int)) = false := decide_eq_false (by omega)
      clear hkl hk
      go_wp2_with fail
      go_ret
      refine ⟨_, m, rfl, ?_, HC.out.lst, HC.out.kept⟩
      rw [HC.out.eq, EL.out, List.take_length]
end
end Go.Proofs.YtlldgibpajbabaaDoor
