/- What is proved: rise and sink make a heap again, lastOf tells which of an item and those below it comes last; in any program with these texts, the row lies in memory. -/
import Derived.Test.YtnfkjblhnpnaeaaVEl
import Derived.Test.YtnfkjblhnpnaeaaVPl
import Derived.Shelf.RegionOpenPlain
namespace Go.Proofs.Ytnfkjblhnpnaeaa
open Go.RowKit

/-- What the heap's functions ask of a program. -/
structure Ab (P : Program) (k : Nat) (enc : Nb → List Value) : Prop where
  mixed : P.follows .mixedOrders = true
  E : Ek enc k
  fR : P.funcs[34]? = some Try.f34
  fS : P.funcs[35]? = some Try.f35
  fL : P.funcs[41]? = some Try.f41
  eC : ∀ (args : Array Value) (w : World), Sem.run P (callFunc 27 args) w = .ok (.enter 27 args) w
  eL : ∀ (args : Array Value) (w : World), Sem.run P (callFunc 41 args) w = .ok (.enter 41 args) w
  cmp : ∀ (a b : Nb) (W : World), Calls P 27 #[.agg (enc a).toArray, .agg (enc b).toArray] W fun e w' => e = .returned (.int .i64 (compN a b)) ∧ Grw W w'
  t0 : P.underlying 0 = some (TypeDesc.tuple #[])
  t3 : P.underlying 3 = some (TypeDesc.int IntKind.i64)
  t4 : P.underlying 4 = some TypeDesc.bool
  t50 : P.underlying 50 = some (TypeDesc.slice 55)
  a0 : ∀ w, Sem.run P (isAgg 0) w = .ok false w
  a3 : ∀ w, Sem.run P (isAgg 3) w = .ok false w
  a4 : ∀ w, Sem.run P (isAgg 4) w = .ok false w
  a50 : ∀ w, Sem.run P (isAgg 50) w = .ok false w
  a55 : ∀ w, Sem.run P (isAgg 55) w = .ok true w
  z0 : ∀ w, Sem.run P (Go.sizeOf 0) w = .ok 1 w
  z3 : ∀ w, Sem.run P (Go.sizeOf 3) w = .ok 1 w
  z4 : ∀ w, Sem.run P (Go.sizeOf 4) w = .ok 1 w
  z50 : ∀ w, Sem.run P (Go.sizeOf 50) w = .ok 1 w
  z55 : ∀ w, Sem.run P (Go.sizeOf 55) w = .ok k w
theorem swp_eq {L : List Nb} {i j : Nat} {x y : Nb} (hx : L[i]? = some x) (hy : L[j]? = some y) : (L.set i y).set j x = swp L i j := by
  unfold swp
  rw [List.getD_eq_getElem?_getD, List.getD_eq_getElem?_getD, hx, hy]
  rfl
theorem getD_of {L : List Nb} {i : Nat} {x : Nb} (hx : L[i]? = some x) : L.getD i default = x := by rw [List.getD_eq_getElem?_getD, hx]; rfl
theorem Dis.ne {L : List Nb} (h : Dis L) {i j : Nat} {x y : Nb} (hij : i < j) (hx : L[i]? = some x) (hy : L[j]? = some y) : x.n ≠ y.n := by
  obtain ⟨h1, rfl⟩ := List.getElem?_eq_some_iff.1 hx
  obtain ⟨h2, rfl⟩ := List.getElem?_eq_some_iff.1 hy
  exact List.pairwise_iff_getElem.1 h i j h1 h2 hij
/-- A load of an element, in any world that has only grown. -/
theorem Own.loadg {enc : Nb → List Value} {k : Nat} (E : Ek enc k) {T : TypeId} {base : Nat} {w : World} {g m cap : Nat} {l : List Nb} (h : Own enc k T base w (.slice (some ⟨g, 0, none⟩) m cap) l) {i : Nat} {x : Nb} (hx : l[i]? = some x) (P : Program) (n : Nat) (os : Array Obj) :
    Sem.run P (loadCellsFrom ⟨g, i * k, none⟩ 0 k #[]) (Sort.grow (w.drewN n) os) = .ok (enc x).toArray (Sort.grow (w.drewN n) os) := by
  refine run_loadCellsFrom_list P _ _ _ k (E.len x) fun c v hv => ?_
  obtain ⟨b, o, e, hb, hc⟩ := h.at E i x hx
  cases e
  have := hc c v hv
  rw [Nat.zero_add] at this
  rw [Addr.add_lit]
  exact cell_grown (a := ⟨g, _, none⟩) hb this n os
/-- Two elements change places. -/
theorem Own.swap {enc : Nb → List Value} {k : Nat} (E : Ek enc k) {T : TypeId} {base : Nat} {w : World} {g m cap : Nat} {l : List Nb} (h : Own enc k T base w (.slice (some ⟨g, 0, none⟩) m cap) l) {i j : Nat} {x y : Nb} (hx : l[i]? = some x) (hy : l[j]? = some y) (P : Program) :
    (Sem.run P (loadCellsFrom ⟨g, i * k, none⟩ 0 k #[]) w.drew = .ok (enc x).toArray w.drew ∧ Sem.run P (loadCellsFrom ⟨g, j * k, none⟩ 0 k #[]) w.drew = .ok (enc y).toArray w.drew ∧
    Sem.run P (storeCells ⟨g, i * k, none⟩ (enc y) 0) w.drew = .ok () (w.drew.setCells g (i * k) (enc y)) ∧
    Sem.run P (storeCells ⟨g, j * k, none⟩ (enc x) 0) (w.drew.setCells g (i * k) (enc y)) = .ok () ((w.drew.setCells g (i * k) (enc y)).setCells g (j * k) (enc x))) ∧
    Own enc k T base ((w.drew.setCells g (i * k) (enc y)).setCells g (j * k) (enc x)) (.slice (some ⟨g, 0, none⟩) m cap) (swp l i j) ∧ Same (fun b => b = g) w ((w.drew.setCells g (i * k) (enc y)).setCells g (j * k) (enc x)) := by
  have k1 : Kept w w.drew := (Same.refl _ w).drew
  obtain ⟨p1, p2, p3⟩ := (h.on k1).put E (i := i) (List.getElem?_eq_some_iff.1 hx).1 y P
  obtain ⟨q1, q2, q3⟩ := p2.put E (i := j) (by rw [List.length_set]; exact (List.getElem?_eq_some_iff.1 hy).1) x P
  rw [swp_eq hx hy] at q2
  exact ⟨⟨h.load E hx P, h.load E hy P, p1, q1⟩, q2, ((k1.to _).trans' p3).trans' q3⟩
set_option maxRecDepth 100000 in
set_option maxHeartbeats 3200000 in
theorem rise_p {P : Program} {k : Nat} {enc : Nb → List Value} (A : Ab P k enc) {base : Nat} {w : World} {g n cap : Nat} {L : List Nb} (h : Own enc k 55 base w (.slice (some ⟨g, 0, none⟩) n cap) L) (hn : n ≤ 20000) (hu : Up gtN L (n - 1)) (hd : Dis L) :
    Calls P 34 #[.slice (some ⟨g, 0, none⟩) n cap] w fun e w' => e = .returned (.tuple #[]) ∧ ∃ L', Own enc k 55 base w' (.slice (some ⟨g, 0, none⟩) n cap) L' ∧ Hp gtN L' ∧ L'.Perm L ∧ Same (fun b => b = g) w w' := by
  obtain ⟨mixed, E, fR, fS, fL, eC, eL, cmp, t0, t3, t4, t50, a0, a3, a4, a50, a55, z0, z3, z4, z50, z55⟩ := A
  have u50 := run_underlying t50
  have EE : Hid (Ek enc k) := E
  have EN : Hid (n = L.length) := h.lt.2
  have h0 : 0 < n := by have := hu.inr; have e : n = L.length := h.lt.2; omega
  have HC : Hid (∀ a b W, _) := cmp
  have HD : Hid (Dis L) := hd
  clear E cmp fS fL eL hd
  go_enter fR, Try.ntmps34
  go_wp2_with fail
  go_loopw [2] (fun i wr => ∃ (q : Nat) (L' : List Nb), i = .int .i64 q ∧ Own enc k 55 base wr (.slice (some ⟨g, 0, none⟩) n cap) L' ∧ Up gtN L' q ∧ L'.Perm L ∧ Same (fun b => b = g) w wr) (fun i _ => (intOf i).toNat)
  case atStart => exact ⟨n - 1, L, by congr 1; omega, h, hu, List.Perm.refl _, Same.refl _ _⟩
  case round =>
    obtain ⟨q, L', rfl, ho, hq, hp, hs⟩ := hrel
    have hl' : L'.length = n := by rw [hp.length_eq]; exact EN.out.symm
    have hqn : q < n := by have := hq.inr; rwa [hl'] at this
    rename World => WL
    by_cases hq0 : 0 < q
    · have d0 : decide ((q : Int) > 0) = true := decide_eq_true (by omega)
      have d0' : (0 : Int) < (q : Int) := by omega
      obtain ⟨p, ep⟩ : ∃ p, p = (q - 1) / 2 := ⟨_, rfl⟩
      have hpq : p < q := by omega
      have hqd : Int.tdiv ((q : Int) - 1) 2 = (p : Int) := by
        rw [ep, Int.tdiv_eq_ediv_of_nonneg (by omega)]
        omega
      have d1 : (q : Int) < (n : Int) := by omega
      have d2 : (p : Int) < (n : Int) := by omega
      have d3 : (q : Int) ≤ 20000 := by omega
      obtain ⟨x, hx⟩ : ∃ x, L'[q]? = some x := ⟨_, List.getElem?_eq_getElem (by omega)⟩
      obtain ⟨y, hy⟩ : ∃ y, L'[p]? = some y := ⟨_, List.getElem?_eq_getElem (by omega)⟩
      have hne : x.n ≠ y.n := ((HD.out.perm hp.symm).ne hpq hy hx).symm
      have lx := ho.loadg EE.out hx P
      have ly := ho.loadg EE.out hy P
      have hcc := fun W => HC.out x y W
      have HST : Hid (ltN x y = true → Hp gtN L') := fun e => hq.done fun _ => by rw [getD_of hx, ← ep, getD_of hy]; exact ltN_swo.asym e
      have HUP : Hid (ltN x y = false → Up gtN (swp L' q p) p) := fun e => by
        have := hq.step gtN_swo hq0 (by rw [getD_of hx, ← ep, getD_of hy]; exact (ltN_tot hne).resolve_left (by rw [e]; decide))
        rwa [← ep] at this
      have HSW : Hid (∀ W, Grw WL W → _) := fun W (gw : Grw WL W) => (ho.on gw.kept).swap EE.out hx hy P
      have HPM : Hid ((swp L' q p).Perm L) := (swp_perm (by omega) (by omega)).trans hp
      have HO : Hid (∀ W, Grw WL W → Own enc k 55 base W (.slice (some ⟨g, 0, none⟩) n cap) L' ∧ Same (fun b => b = g) w W) := fun W gw => ⟨ho.on gw.kept, hs.trans' (gw.kept.to _)⟩
      have HP : Hid (L'.Perm L) := hp
      have HK1 : Hid ((enc x).length = k ∧ (enc y).length = k) := ⟨EE.out.len x, EE.out.len y⟩
      have hlt : ltN x y = decide (compN x y < 0) := rfl
      rw [hlt] at HST HUP
      generalize compN x y = cv at hcc HST HUP
      clear hlt ho hq hp hs hx hy hne hl' hu h ep
      obtain ⟨cx, ecx⟩ : ∃ c, c = enc x := ⟨_, rfl⟩
      obtain ⟨cy, ecy⟩ : ∃ c, c = enc y := ⟨_, rfl⟩
      rw [← ecx] at lx hcc HSW HK1
      rw [← ecy] at ly hcc HSW HK1
      clear ecx ecy
      by_cases hcv : cv < 0
      · have dc : decide (cv < 0) = true := decide_eq_true hcv
        go_wp2_with fail
        go_quiet_grown (first | (go_at_fn 27; refine Calls.grown_of (hcc _)))
        clear lx ly hcc
        have G : Hid (Grw WL (Sort.grow (WL.drewN nq) osq)) := ⟨nq, osq, rfl⟩
        go_wp2_with fail
        refine bodyPost_ret (results_none rfl _ _ _) rfl ?_
        exact ⟨rfl, L', (HO.out _ G.out).1, HST.out dc, HP.out, (HO.out _ G.out).2⟩
      · have dc : decide (cv < 0) = false := decide_eq_false hcv
        go_wp2_with fail
        go_quiet_grown (first | (go_at_fn 27; refine Calls.grown_of (hcc _)))
        clear lx ly hcc
        have G : Hid (Grw WL (Sort.grow (WL.drewN nq) osq)) := ⟨nq, osq, rfl⟩
        generalize Sort.grow (WL.drewN nq) osq = W2 at G ⊢
        obtain ⟨⟨l1, l2, s1, s2⟩, o3, k3⟩ := HSW.out W2 G.out
        have HO3 : Hid (Own enc k 55 base _ _ (swp L' q p)) := o3
        have HK3 : Hid (Same (fun b => b = g) w _) := (HO.out _ G.out).2.trans' k3
        obtain ⟨kx, ky⟩ := HK1.out
        clear o3 k3 HSW HO
        go_wp2_with fail
        go_big_region_o
        all_goals (go_wp2_with fail)
        go_roundw
        case rel => exact ⟨p, swp L' q p, rfl, HO3.out, HUP.out dc, HPM.out, HK3.out⟩
        case measure => simp only [intOf]; omega
    · obtain rfl : q = 0 := by omega
      have HF : Hid (Own enc k 55 base WL (.slice (some ⟨g, 0, none⟩) n cap) L' ∧ Hp gtN L' ∧ L'.Perm L ∧ Same (fun b => b = g) w WL) := ⟨ho, hq.done (fun h => absurd h (by omega)), hp, hs⟩
      clear ho hq hp hs hu h
      go_wp2_with fail
      go_end0
      exact ⟨rfl, L', HF.out⟩
/-- Which of an item and those below it comes last. -/
structure La (L : List Nb) (n a c : Nat) : Prop where
  lt : c < n
  up : c = a ∨ (0 < c ∧ (c - 1) / 2 = a ∧ gtN (L.getD c default) (L.getD a default) = true)
  all : ∀ j, 0 < j → j < n → (j - 1) / 2 = a → gtN (L.getD j default) (L.getD c default) = false
set_option maxRecDepth 100000 in
set_option maxHeartbeats 3200000 in
theorem lastOf_p {P : Program} {k : Nat} {enc : Nb → List Value} (A : Ab P k enc) {base : Nat} {w : World} {g n cap : Nat} {L : List Nb} (h : Own enc k 55 base w (.slice (some ⟨g, 0, none⟩) n cap) L) (hn : n ≤ 20000) {a : Nat} (ha : a < n) :
    Calls P 41 #[.slice (some ⟨g, 0, none⟩) n cap, .int .i64 a] w fun e w' => ∃ c : Nat, e = .returned (.int .i64 c) ∧ La L n a c ∧ Grw w w' := by
  obtain ⟨mixed, E, fR, fS, fL, eC, eL, cmp, t0, t3, t4, t50, a0, a3, a4, a50, a55, z0, z3, z4, z50, z55⟩ := A
  have u50 := run_underlying t50
  have EE : Hid (Ek enc k) := E
  have EN : Hid (n = L.length) := h.lt.2
  have HC : Hid (∀ a b W, _) := cmp
  have HO : Hid (Own enc k 55 base w (.slice (some ⟨g, 0, none⟩) n cap) L) := h
  clear E cmp fS fR eL h
  go_enter fL, Try.ntmps41
  go_wp2_with fail
  go_loopw [5, 6] (fun l b wr => ∃ (c m : Nat), l = .int .i64 c ∧ b = .int .i64 ((2 * a + 1 + m : Nat) : Int) ∧ m ≤ 2 ∧ c < n ∧ (c = a ∨ (0 < c ∧ (c - 1) / 2 = a ∧ gtN (L.getD c default) (L.getD a default) = true)) ∧ (∀ j, 0 < j → j < n → (j - 1) / 2 = a → j < 2 * a + 1 + m → gtN (L.getD j default) (L.getD c default) = false) ∧ Grw w wr) (fun _ b _ => (2 * (a : Int) + 3 - intOf b).toNat)
  case atStart => exact ⟨a, 0, rfl, by congr 1 <;> omega, by omega, ha, .inl rfl, fun j h1 h2 h3 h4 => by omega, Grw.refl _⟩
  case round =>
    obtain ⟨c, m, rfl, rfl, hm, hc, hup, hall, hg⟩ := hrel
    obtain ⟨b, eb⟩ : ∃ b, b = 2 * a + 1 + m := ⟨_, rfl⟩
    rw [← eb] at hall ⊢
    have e2 : (2 * (a : Int)) + 2 = ((2 * a + 2 : Nat) : Int) := by omega
    rename World => WL
    by_cases hgo : m < 2 ∧ b < n
    · have d1 : decide ((b : Int) ≤ 2 * (a : Int) + 2) = true := decide_eq_true (by omega)
      have d1' : (b : Int) ≤ 2 * (a : Int) + 2 := by omega
      have d2 : decide ((b : Int) < (n : Int)) = true := decide_eq_true (by omega)
      have d2' : (b : Int) < (n : Int) := by omega
      have d3 : (c : Int) < (n : Int) := by omega
      have d4 : (b : Int) ≤ 20000 := by omega
      have d5 : (a : Int) ≤ 20000 := by omega
      have hln : n = L.length := EN.out
      obtain ⟨x, hx⟩ : ∃ x, L[b]? = some x := ⟨_, List.getElem?_eq_getElem (by omega)⟩
      obtain ⟨y, hy⟩ : ∃ y, L[c]? = some y := ⟨_, List.getElem?_eq_getElem (by omega)⟩
      have lx := (HO.out.on hg.kept).loadg EE.out hx P
      have ly := (HO.out.on hg.kept).loadg EE.out hy P
      have hcc := fun W => HC.out x y W
      have HYES : Hid (decide (compN x y > 0) = true → (b = a ∨ (0 < b ∧ (b - 1) / 2 = a ∧ gtN (L.getD b default) (L.getD a default) = true)) ∧ (∀ j, 0 < j → j < n → (j - 1) / 2 = a → j < 2 * a + 1 + (m + 1) → gtN (L.getD j default) (L.getD b default) = false)) := fun e => by
        rw [compN_gt] at e
        have e' : gtN (L.getD b default) (L.getD c default) = true := by rw [getD_of hx, getD_of hy]; exact e
        refine ⟨.inr ⟨by omega, by omega, ?_⟩, fun j h1 h2 h3 h4 => ?_⟩
        · rcases hup with rfl | ⟨_, _, h5⟩
          · exact e'
          · exact gtN_swo.trans e' h5
        · by_cases hjb : j = b
          · subst hjb; exact gtN_swo.irr _
          · exact gtN_swo.ntr (hall j h1 h2 h3 (by omega)) (gtN_swo.asym e')
      have HNO : Hid (decide (compN x y > 0) = false → ∀ j, 0 < j → j < n → (j - 1) / 2 = a → j < 2 * a + 1 + (m + 1) → gtN (L.getD j default) (L.getD c default) = false) := fun e => by
        rw [compN_gt] at e
        intro j h1 h2 h3 h4
        by_cases hjb : j = b
        · subst hjb; rw [getD_of hx, getD_of hy]; exact e
        · exact hall j h1 h2 h3 (by omega)
      have HUP : Hid (c = a ∨ (0 < c ∧ (c - 1) / 2 = a ∧ gtN (L.getD c default) (L.getD a default) = true)) := hup
      have HG : Hid (Grw w WL) := hg
      have hm2 : m < 2 := hgo.1
      have hbn : b < n := hgo.2
      have EB : Hid (b = 2 * a + 1 + m) := eb
      clear hup hall hg hx hy hln hgo eb e2
      generalize compN x y = cv at hcc HYES HNO
      obtain ⟨cx, ecx⟩ : ∃ c, c = enc x := ⟨_, rfl⟩
      obtain ⟨cy, ecy⟩ : ∃ c, c = enc y := ⟨_, rfl⟩
      rw [← ecx] at lx hcc
      rw [← ecy] at ly hcc
      clear ecx ecy
      by_cases hcv : cv > 0
      · have dc : decide (cv > 0) = true := decide_eq_true hcv
        have dc' : 0 < cv := hcv
        go_wp2_with fail
        go_quiet_grown (first | (go_at_fn 27; refine Calls.grown_of (hcc _)))
        clear lx ly hcc
        have G : Hid (Grw WL (Sort.grow (WL.drewN nq) osq)) := ⟨nq, osq, rfl⟩
        go_wp2_with fail
        go_roundw
        case rel => exact ⟨b, m + 1, rfl, by have e := EB.out; first | (congr 1; omega) | skip, by omega, hbn, (HYES.out dc).1, (HYES.out dc).2, HG.out.trans G.out⟩
        case measure => have e : b = _ := EB.out; simp only [intOf]; omega
      · have dc : decide (cv > 0) = false := decide_eq_false hcv
        have dc' : ¬ 0 < cv := hcv
        go_wp2_with fail
        go_quiet_grown (first | (go_at_fn 27; refine Calls.grown_of (hcc _)))
        clear lx ly hcc
        have G : Hid (Grw WL (Sort.grow (WL.drewN nq) osq)) := ⟨nq, osq, rfl⟩
        go_wp2_with fail
        go_roundw
        case rel => exact ⟨c, m + 1, rfl, by have e := EB.out; first | (congr 1; omega) | skip, by omega, hc, HUP.out, HNO.out dc, HG.out.trans G.out⟩
        case measure => have e : b = _ := EB.out; simp only [intOf]; omega
    · have HF : Hid (La L n a c ∧ Grw w WL) := ⟨⟨hc, hup, fun j h1 h2 h3 => hall j h1 h2 h3 (by omega)⟩, hg⟩
      have d5 : (a : Int) ≤ 20000 := by omega
      have d4 : (b : Int) ≤ 50000 := by omega
      by_cases hb2 : m < 2
      · have d1 : decide ((b : Int) ≤ 2 * (a : Int) + 2) = true := decide_eq_true (by omega)
        have d1' : (b : Int) ≤ 2 * (a : Int) + 2 := by omega
        have d2 : decide ((b : Int) < (n : Int)) = false := decide_eq_false (by omega)
        have d2' : ¬ (b : Int) < (n : Int) := by omega
        clear hall hup hg eb e2
        go_wp2_with fail
        go_ret
        exact ⟨c, rfl, HF.out⟩
      · have d1 : decide ((b : Int) ≤ 2 * (a : Int) + 2) = false := decide_eq_false (by omega)
        have d1' : ¬ (b : Int) ≤ 2 * (a : Int) + 2 := by omega
        clear hall hup hg eb e2
        go_wp2_with fail
        go_ret
        exact ⟨c, rfl, HF.out⟩
set_option maxRecDepth 100000 in
set_option maxHeartbeats 3200000 in
theorem sink_p {P : Program} {k : Nat} {enc : Nb → List Value} (A : Ab P k enc) {base : Nat} {w : World} {g n cap : Nat} {L : List Nb} (h : Own enc k 55 base w (.slice (some ⟨g, 0, none⟩) n cap) L) (hn : n ≤ 20000) (h0 : 0 < n) (hu : Dn gtN L 0) :
    Calls P 35 #[.slice (some ⟨g, 0, none⟩) n cap] w fun e w' => e = .returned (.tuple #[]) ∧ ∃ L', Own enc k 55 base w' (.slice (some ⟨g, 0, none⟩) n cap) L' ∧ Hp gtN L' ∧ L'.Perm L ∧ Same (fun b => b = g) w w' := by
  have AA : Hid (Ab P k enc) := A
  obtain ⟨mixed, E, fR, fS, fL, eC, eL, cmp, t0, t3, t4, t50, a0, a3, a4, a50, a55, z0, z3, z4, z50, z55⟩ := A
  have u50 := run_underlying t50
  have EE : Hid (Ek enc k) := E
  have EN : Hid (n = L.length) := h.lt.2
  have HLA : Hid (∀ W L', Own enc k 55 base W (.slice (some ⟨g, 0, none⟩) n cap) L' → ∀ a : Nat, a < n → _) := fun W L' ho a ha => lastOf_p AA.out ho hn ha
  have HL0 : Hid _ := HLA.out w L h 0 h0
  have HH : Hid (Own enc k 55 base w (.slice (some ⟨g, 0, none⟩) n cap) L) := h
  have HU : Hid (Dn gtN L 0) := hu
  clear E cmp fL fR eC h hu
  go_enter fS, Try.ntmps35
  go_wp2_with fail
  refine Calls.mono HL0.out ?_
  rintro r w1 ⟨c0, rfl, la0, g0⟩
  have HLA0 : Hid (La L n 0 c0) := la0
  have HG0 : Hid (Grw w w1) := g0
  clear la0 g0 HL0
  go_wp2_with fail
  go_loopw [2, 3] (fun i j wr => ∃ (a c : Nat) (L' : List Nb), i = .int .i64 a ∧ j = .int .i64 c ∧ a < n ∧ Own enc k 55 base wr (.slice (some ⟨g, 0, none⟩) n cap) L' ∧ Dn gtN L' a ∧ La L' n a c ∧ L'.Perm L ∧ Same (fun b => b = g) w wr) (fun i _ _ => ((n : Int) - intOf i).toNat)
  case atStart => exact ⟨0, c0, L, rfl, rfl, h0, HH.out.on HG0.out.kept, HU.out, HLA0.out, List.Perm.refl _, HG0.out.kept.to _⟩
  case round =>
    obtain ⟨a, c, L', rfl, rfl, ha, ho, hdn, hla, hp, hs⟩ := hrel
    have hl' : L'.length = n := by rw [hp.length_eq]; exact EN.out.symm
    rename World => WL
    by_cases hac : a = c
    · subst hac
      have d1 : ((a : Int) != (a : Int)) = false := by simp
      have HF : Hid (Own enc k 55 base WL (.slice (some ⟨g, 0, none⟩) n cap) L' ∧ Hp gtN L' ∧ L'.Perm L ∧ Same (fun b => b = g) w WL) := ⟨ho, hdn.done (fun j h1 h2 h3 => hla.all j h1 (by omega) h3), hp, hs⟩
      clear ho hdn hla hp hs hl'
      go_wp2_with fail
      go_end0
      exact ⟨rfl, L', HF.out⟩
    · have d1 : ((a : Int) != (c : Int)) = true := by simp; omega
      have d1' : ¬ (a : Int) = (c : Int) := by omega
      obtain ⟨hc0, hca, hgt⟩ := hla.up.resolve_left (fun e => hac e.symm)
      have hcn := hla.lt
      have d2 : (a : Int) < (n : Int) := by omega
      have d3 : (c : Int) < (n : Int) := by omega
      obtain ⟨x, hx⟩ : ∃ x, L'[a]? = some x := ⟨_, List.getElem?_eq_getElem (by omega)⟩
      obtain ⟨y, hy⟩ : ∃ y, L'[c]? = some y := ⟨_, List.getElem?_eq_getElem (by omega)⟩
      have HDN : Hid (Dn gtN (swp L' a c) c) := hdn.step gtN_swo hc0 (by omega) hca hgt (fun j h1 h2 h3 => hla.all j h1 (by omega) h3)
      have HPM : Hid ((swp L' a c).Perm L) := (swp_perm (by omega) (by omega)).trans hp
      obtain ⟨⟨l1, l2, s1, s2⟩, o3, k3⟩ := ho.swap EE.out hx hy P
      have kx : (enc x).length = k := EE.out.len x
      have ky : (enc y).length = k := EE.out.len y
      have HO3 : Hid (Own enc k 55 base _ _ (swp L' a c)) := o3
      have HK3 : Hid (Same (fun b => b = g) w _) := hs.trans' k3
      have hlt : a < c := by omega
      clear ho hdn hla hp hs hl' hx hy hca hgt o3 k3
      generalize enc x = cx at *
      generalize enc y = cy at *
      go_wp2_with fail
      go_big_region_o
      all_goals (go_wp2_with fail)
      refine Calls.mono (HLA.out _ _ HO3.out c hcn) ?_
      rintro r w2 ⟨c2, rfl, la2, g2⟩
      have HG2 : Hid (Grw _ w2) := g2
      have HL2 : Hid (La _ n c c2) := la2
      clear la2 g2
      go_wp2_with fail
      go_roundw
      case rel => exact ⟨c, c2, swp L' a c, rfl, rfl, hcn, HO3.out.on HG2.out.kept, HDN.out, HL2.out, HPM.out, HK3.out.trans' (HG2.out.kept.to _)⟩
      case measure => simp only [intOf]; omega
end Go.Proofs.Ytnfkjblhnpnaeaa
