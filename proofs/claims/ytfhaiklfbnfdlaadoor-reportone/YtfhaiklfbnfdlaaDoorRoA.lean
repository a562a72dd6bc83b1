/- What is proved: the library's row of a sorted list; report's plain outcomes and texts, its small functions, the words of its kinds, its appending functions, that violations are right and sorted, what Valid asks at first; conditions: that the words and the powers lie as their texts lay them, lengths. -/
import Derived.Test.YtfhaiklfbnfdlaaDoorVrB
import Derived.Test.YtfhaiklfbnfdlaaDoorNoRr
import Derived.Test.YtfhaiklfbnfdlaaDoorNoCu
import Derived.Test.YtfhaiklfbnfdlaaDoorNoAo
namespace Go.Proofs.YtfhaiklfbnfdlaaDoor.Vi
open Go.RowKit

variable {α : Type} [Inhabited α]
omit [Inhabited α] in
theorem At.loadg {enc : α → List Value} {k : Nat} (E : Ek enc k) {w : World} {b o : Nat} {l : List α} (h : At enc k w (some ⟨b, o, none⟩) l) {i : Nat} {x : α} (hx : l[i]? = some x) (P : Program) (n : Nat) (os : Array Obj) :
    Sem.run P (loadCellsFrom ⟨b, o + i * k, none⟩ 0 k #[]) (Sort.grow (w.drewN n) os) = .ok (enc x).toArray (Sort.grow (w.drewN n) os) := by
  refine run_loadCellsFrom_list P _ _ _ k (E.len x) fun c v hv => ?_
  obtain ⟨b', o', e, hb, hc⟩ := h i x hx
  cases e
  rw [Addr.add_lit]
  exact cell_grown (a := ⟨b, _, none⟩) hb (hc c v hv) n os
/-- From a place down none is less than the one ahead of it. -/
def dn (l : List Vl) : Nat → Bool
  | 0 => true
  | i + 1 => !ltV (l.getD (i + 1) default) (l.getD i default) && dn l i
/-- A list that is sorted. -/
def srd (l : List Vl) : Bool := dn l (l.length - 1)
/-- What it asks of a program. -/
structure As (P : Program) (k : Nat) (enc : Vl → List Value) : Prop where
  mixed : P.follows .mixedOrders = true
  E : Ek enc k
  fI : P.funcs[44]? = some Tryd.f44
  eC : ∀ (args : Array Value) (w : World), Sem.run P (callFunc 45 args) w = .ok (.enter 45 args) w
  cmp : ∀ (a b : Vl) (W : World), Calls P 45 #[.agg (enc a).toArray, .agg (enc b).toArray] W fun e w' => e = .returned (.int .i64 (compV a b)) ∧ Grw W w'
  t3 : P.underlying 3 = some (TypeDesc.int IntKind.i64)
  t4 : P.underlying 4 = some TypeDesc.bool
  t23 : P.underlying 23 = some (TypeDesc.slice 41)
  a3 : ∀ w, Sem.run P (isAgg 3) w = .ok false w
  a4 : ∀ w, Sem.run P (isAgg 4) w = .ok false w
  a23 : ∀ w, Sem.run P (isAgg 23) w = .ok false w
  a41 : ∀ w, Sem.run P (isAgg 41) w = .ok true w
  aF : ∀ w, Sem.run P (isAgg 72) w = .ok false w
  z3 : ∀ w, Sem.run P (Go.sizeOf 3) w = .ok 1 w
  z4 : ∀ w, Sem.run P (Go.sizeOf 4) w = .ok 1 w
  z23 : ∀ w, Sem.run P (Go.sizeOf 23) w = .ok 1 w
  z41 : ∀ w, Sem.run P (Go.sizeOf 41) w = .ok k w
  zF : ∀ w, Sem.run P (Go.sizeOf 72) w = .ok 1 w
  hk : k ≤ 16777216
set_option maxRecDepth 100000 in
set_option maxHeartbeats 1600000 in
theorem isSorted_p {P : Program} {k : Nat} {enc : Vl → List Value} (AS : As P k enc) (w : World) (a : Option Addr) (cap : Nat) (l : List Vl) (h : At enc k w a l) (hl : l.length ≤ 1172812402961) :
    Calls P 44 #[.slice a l.length cap, .func (.func 45) #[] #[]] w fun e w' => e = .returned (.bool (srd l)) ∧ Grw w w' := by
  obtain ⟨mixed, E, fI, eC, cmp, t3, t4, t23, a3, a4, a23, a41, aF, z3, z4, z23, z41, zF, hkm⟩ := AS
  have u23 := run_underlying t23
  have EE : Hid (Ek enc k) := E
  have HCM : Hid (∀ a b W, _) := cmp
  have hk0 : ¬ k = 0 := by have := E.pos; omega
  have hkm' : ¬ 16777216 < k := by omega
  have HL : Hid (At enc k w a l) := h
  obtain ⟨n, en⟩ : ∃ n, n = l.length := ⟨_, rfl⟩
  have hs : srd l = dn l (n - 1) := by rw [en]; rfl
  rw [hs]
  rw [← en] at hl ⊢
  have EN : Hid (n = l.length) := en
  have hni : (n : Int) ≤ 1172812402961 := by omega
  clear cmp h en E hs hl
  go_enter fI, Tryd.ntmps44
  go_wp2_with fail
  go_loopw [5] (fun v wr => ∃ (iz : Int) (i : Nat), v = .int .i64 iz ∧ (0 < iz → iz = i ∧ i < n) ∧ (¬ 0 < iz → i = 0) ∧ dn l (n - 1) = dn l i ∧ Grw w wr) (fun v _ => (intOf v).toNat)
  case atStart => exact ⟨(n : Int) - 1, n - 1, rfl, fun h => ⟨by omega, by omega⟩, fun h => by omega, rfl, Grw.refl _⟩
  case round =>
    obtain ⟨iz, i, rfl, h1, h2, he, hk⟩ := hrel
    rename World => WL
    have KL : Hid (Grw w WL) := hk
    have HE : Hid _ := he
    clear he hk
    by_cases hlt : 0 < iz
    · obtain ⟨rfl, hin⟩ := h1 hlt
      obtain ⟨t, rfl⟩ : ∃ t, i = t + 1 := ⟨i - 1, by omega⟩
      clear h1 h2
      obtain ⟨x, hx⟩ : ∃ x, l[t + 1]? = some x := ⟨_, List.getElem?_eq_getElem (by rw [← show n = _ from EN.out]; exact hin)⟩
      obtain ⟨y, hy⟩ : ∃ y, l[t]? = some y := ⟨_, List.getElem?_eq_getElem (by rw [← show n = _ from EN.out]; omega)⟩
      obtain ⟨g, o, rfl, hg, -⟩ := HL.out (t + 1) x hx
      have hdn : dn l (t + 1) = (!decide (compV x y < 0) && dn l t) := by
        show (!ltV (l.getD (t + 1) default) (l.getD t default) && dn l t) = _
        rw [List.getD_eq_getElem?_getD, List.getD_eq_getElem?_getD, hx, hy]
        rfl
      have HDN : Hid _ := HE.out.trans hdn
      have lx := (HL.out.on (Grw.kept KL.out)).loadg EE.out hx P
      have ly := (HL.out.on (Grw.kept KL.out)).loadg EE.out hy P
      have hcc := fun W => HCM.out x y W
      obtain ⟨j, ej⟩ : ∃ j, j = t + 1 := ⟨_, rfl⟩
      rw [← ej] at lx hin hlt ⊢
      have e1 : (j : Int) - 1 = (t : Int) := by omega
      have hwi : IntKind.i64.wrap ((j : Int) - 1) = (t : Int) := by rw [IntKind.wrap_i64] <;> omega
      have hw64 : wrap64 ((j : Int) - 1) = (t : Int) := by unfold wrap64; omega
      have hwt : IntKind.i64.wrap (t : Int) = (t : Int) := by rw [IntKind.wrap_i64] <;> omega
      have f1 : (0 : Int) < (j : Int) := by omega
      have f2 : decide ((j : Int) > 0) = true := decide_eq_true f1
      have f3 : (j : Int) < (n : Int) := by omega
      have f4 : (t : Int) < (n : Int) := by omega
      have HTJ : Hid (t < n ∧ j = t + 1) := ⟨by omega, ej⟩
      obtain ⟨cx, ecx⟩ : ∃ cx, cx = enc x := ⟨_, rfl⟩
      obtain ⟨cy, ecy⟩ : ∃ cy, cy = enc y := ⟨_, rfl⟩
      rw [← ecx] at lx hcc
      rw [← ecy] at ly hcc
      clear hx hy hdn ecx ecy ej hg HE hlt hin
      generalize compV x y = cv at *
      by_cases hcv : cv < 0
      · have hcvb : decide (cv < 0) = true := decide_eq_true hcv
        go_wp2_with fail
        go_quiet_grown (first | (go_at_fn 45; refine Calls.grown_of (hcc _)))
        have G : Hid (Grw WL (Sort.grow (WL.drewN nq) osq)) := ⟨nq, osq, rfl⟩
        generalize Sort.grow (WL.drewN nq) osq = W5 at G ⊢
        go_wp2_with fail
        go_ret
        rw [HDN.out, hcvb]
        exact ⟨rfl, Grw.trans KL.out G.out⟩
      · have hcvb : decide (cv < 0) = false := decide_eq_false hcv
        go_wp2_with fail
        go_quiet_grown (first | (go_at_fn 45; refine Calls.grown_of (hcc _)))
        have G : Hid (Grw WL (Sort.grow (WL.drewN nq) osq)) := ⟨nq, osq, rfl⟩
        generalize Sort.grow (WL.drewN nq) osq = W5 at G ⊢
        clear lx ly hcc f3 f4
        go_wp2_with fail
        go_roundw
        case rel => exact ⟨(t : Int), t, by first | rfl | simp [e1], fun _ => ⟨rfl, HTJ.out.1⟩, fun h => by omega, HDN.out.trans (by rw [hcvb]; rfl), Grw.trans KL.out G.out⟩
        case measure => simp only [intOf]; have := HTJ.out; omega
    · obtain rfl := h2 hlt
      have c1 : decide (iz > 0) = false := decide_eq_false hlt
      clear h1 h2
      go_wp2_with fail
      go_ret
      rw [HE.out]
      exact ⟨rfl, KL.out⟩
theorem At.vl {w : World} {a : Option Addr} {l : List Vl} (h : At vl1 12 w a l) {j : Nat} {x : Vl} (hx : l[j]? = some x) : ∃ b o, a = some ⟨b, o, none⟩ ∧ b < w.heap.size ∧ w.cell? ⟨b, o + j * 12, none⟩ = some (.int .i64 x.kd) ∧ w.cell? ⟨b, o + j * 12 + 1, none⟩ = some (.int .i64 x.tm) ∧ w.cell? ⟨b, o + j * 12 + 2, none⟩ = some (.int .i64 x.tx) ∧ w.cell? ⟨b, o + j * 12 + 3, none⟩ = some (.int .i64 x.op) ∧ w.cell? ⟨b, o + j * 12 + 4, none⟩ = some (.int .i64 x.wi) ∧ w.cell? ⟨b, o + j * 12 + 5, none⟩ = some (.string x.key) ∧ w.cell? ⟨b, o + j * 12 + 6, none⟩ = some (.bool x.wa) ∧ w.cell? ⟨b, o + j * 12 + 7, none⟩ = some (.string x.ex) ∧ w.cell? ⟨b, o + j * 12 + 8, none⟩ = some (.bool x.go) ∧ w.cell? ⟨b, o + j * 12 + 9, none⟩ = some (.string x.ob) ∧ w.cell? ⟨b, o + j * 12 + 10, none⟩ = some (.int .i64 x.fr) ∧ w.cell? ⟨b, o + j * 12 + 11, none⟩ = some (.int .i64 x.tt) := by
  obtain ⟨b, o, e, hb, hc⟩ := h j x hx
  exact ⟨b, o, e, hb, hc 0 _ rfl, hc 1 _ rfl, hc 2 _ rfl, hc 3 _ rfl, hc 4 _ rfl, hc 5 _ rfl, hc 6 _ rfl, hc 7 _ rfl, hc 8 _ rfl, hc 9 _ rfl, hc 10 _ rfl, hc 11 _ rfl⟩
set_option maxRecDepth 100000 in
theorem as22 : As Tryd.prog 12 vl1 :=
  ⟨by kernel_rfl, ekV, Tryd.func44, Tryd.call45, compare18, Tryd.underlying3, Tryd.underlying4, Tryd.underlying23, Tryd.isAgg3, Tryd.isAgg4, Tryd.isAgg23, Tryd.isAgg41, Tryd.isAgg72, Tryd.sizeOf3, Tryd.sizeOf4, Tryd.sizeOf23, Tryd.sizeOf41, Tryd.sizeOf72, by decide⟩
end Go.Proofs.YtfhaiklfbnfdlaaDoor.Vi

namespace Go.Proofs.YtfhaiklfbnfdlaaDoor
open Go.RowKit

/-- An outcome. -/
structure OuM where
  kd : Int
  cd : Int
  of : Int
  tn : Int
  tt : Int
  ls : List Vi.Vl
def oWords : List (List UInt8) := [[99, 111, 110, 102, 105, 103], [109, 97, 108, 102, 111, 114, 109, 101, 100], [105, 111], [99, 114, 97, 115, 104], [110, 111, 115, 112, 97, 99, 101], [115, 116, 97, 116, 101], [99, 97, 110, 99, 101, 108, 108, 101, 100], [97, 99, 99, 101, 112, 116], [114, 101, 106, 101, 99, 116]]
def vWords : List (List UInt8) := [[105, 110, 118, 101, 114, 116, 101, 100], [99, 108, 105, 101, 110, 116], [101, 97, 114, 108, 121], [108, 97, 116, 101], [116, 119, 105, 110], [105, 110, 116, 101, 114, 110, 97, 108], [115, 110, 97, 112, 115, 104, 111, 116], [99, 111, 110, 102, 108, 105, 99, 116], [114, 101, 112, 101, 97, 116], [115, 101, 115, 115, 105, 111, 110]]
/-- The words of the kinds lie as they are laid. -/
def Wds (w : World) : Prop := (∀ i s, oWords[i]? = some s → w.cell? ⟨0, i, none⟩ = some (tx s)) ∧ ∀ i s, vWords[i]? = some s → w.cell? ⟨1, i, none⟩ = some (tx s)
theorem Wds.on {w w' : World} (h : Wds w) (k : Kept w w') : Wds w' :=
  ⟨fun i s hs => (k.cell (p := ⟨0, i, none⟩) (World.block_lt_of_cell? w _ (h.1 i s hs)) (fun e => e)).trans (h.1 i s hs), fun i s hs => (k.cell (p := ⟨1, i, none⟩) (World.block_lt_of_cell? w _ (h.2 i s hs)) (fun e => e)).trans (h.2 i s hs)⟩
/-- The word of an outcome's kind. -/
def oWord (k : Int) : List UInt8 := if Vi.wi k 1 9 = true then oWords.getD (k - 1).toNat [] else []
def vWord (k : Int) : List UInt8 := if Vi.wi k 1 10 = true then vWords.getD (k - 1).toNat [] else []
def hc (k : Int) : Bool := k == 1 || k == 2 || k == 3
def ho (k : Int) : Bool := k == 2
def ht (k : Int) : Bool := k == 8 || k == 9
def hl (k : Int) : Bool := k == 9
def fit (th : Bool) (n a b : Int) : Bool := if th = true then Vi.wi n a b else n == 0
theorem within22 (n a b : Int) (w : World) : Calls Tryd.prog 42 #[.int .i64 n, .int .i64 a, .int .i64 b] w fun e w' => e = .returned (.bool (Vi.wi n a b)) ∧ w' = w := by
  unfold Vi.wi
  by_cases h : n ≥ a
  · have d : decide (n ≥ a) = true := decide_eq_true h
    have d' : a ≤ n := h
    generalize hb : decide (n ≤ b) = c
    cases c with
    | true =>
      have d2 : n ≤ b := of_decide_eq_true hb
      go_enter Tryd.func42, Tryd.ntmps42
      go_wp2_with fail
      go_ret
      exact ⟨by simp [d'], rfl⟩
    | false =>
      have d2 : ¬ n ≤ b := of_decide_eq_false hb
      go_enter Tryd.func42, Tryd.ntmps42
      go_wp2_with fail
      go_ret
      exact ⟨by simp, rfl⟩
  · have d : decide (n ≥ a) = false := decide_eq_false h
    have d' : ¬ a ≤ n := h
    go_enter Tryd.func42, Tryd.ntmps42
    go_wp2_with fail
    go_ret
    exact ⟨by simp, rfl⟩
theorem isKind22 (k : Int) (w : World) : Calls Tryd.prog 24 #[.int .i64 k] w fun e w' => e = .returned (.bool (Vi.wi k 1 9)) ∧ w' = w := by
  have H : Hid (∀ W, _) := fun W => within22 k 1 9 W
  go_enter Tryd.func24, Tryd.ntmps24
  go_wp2_with fail
  refine Calls.mono (H.out _) ?_
  rintro e w1 ⟨rfl, e1⟩
  subst e1
  go_wp2_with fail
  go_ret
  exact ⟨rfl, rfl⟩
theorem fits22 (th : Bool) (n a b : Int) (w : World) : Calls Tryd.prog 25 #[.bool th, .int .i64 n, .int .i64 a, .int .i64 b] w fun e w' => e = .returned (.bool (fit th n a b)) ∧ w' = w := by
  have H : Hid (∀ W, _) := fun W => within22 n a b W
  cases th with
  | false =>
    have e : fit false n a b = (n == 0) := rfl
    rw [e]
    go_enter Tryd.func25, Tryd.ntmps25
    go_wp2_with fail
    go_ret
    exact ⟨rfl, rfl⟩
  | true =>
    have e : fit true n a b = Vi.wi n a b := rfl
    rw [e]
    go_enter Tryd.func25, Tryd.ntmps25
    go_wp2_with fail
    refine Calls.mono (H.out _) ?_
    rintro e w1 ⟨rfl, e1⟩
    subst e1
    go_wp2_with fail
    go_ret
    exact ⟨rfl, rfl⟩
theorem hasCode22 (k : Int) (w : World) : Calls Tryd.prog 26 #[.int .i64 k] w fun e w' => e = .returned (.bool (hc k)) ∧ w' = w := by
  unfold hc
  generalize h1 : (k == 1) = a
  generalize h2 : (k == 2) = b
  generalize h3 : (k == 3) = c
  cases a <;> cases b <;>
  · go_enter Tryd.func26, Tryd.ntmps26
    go_wp2_with fail
    go_ret
    exact ⟨rfl, rfl⟩
theorem hasOffset22 (k : Int) (w : World) : Calls Tryd.prog 27 #[.int .i64 k] w fun e w' => e = .returned (.bool (ho k)) ∧ w' = w := by
  unfold ho
  go_enter Tryd.func27, Tryd.ntmps27
  go_wp2_with fail
  go_ret
  exact ⟨rfl, rfl⟩
theorem hasTxns22 (k : Int) (w : World) : Calls Tryd.prog 28 #[.int .i64 k] w fun e w' => e = .returned (.bool (ht k)) ∧ w' = w := by
  unfold ht
  generalize h1 : (k == 8) = a
  generalize h2 : (k == 9) = b
  cases a <;>
  · go_enter Tryd.func28, Tryd.ntmps28
    go_wp2_with fail
    go_ret
    exact ⟨rfl, rfl⟩
theorem hasList22 (k : Int) (w : World) : Calls Tryd.prog 29 #[.int .i64 k] w fun e w' => e = .returned (.bool (hl k)) ∧ w' = w := by
  unfold hl
  go_enter Tryd.func29, Tryd.ntmps29
  go_wp2_with fail
  go_ret
  exact ⟨rfl, rfl⟩
theorem kind22 (k : Int) (w : World) (h : Wds w) : Calls Tryd.prog 22 #[.int .i64 k] w fun e w' => e = .returned (tx (oWord k)) ∧ w' = w := by
  have H : Hid (∀ W, _) := fun W => isKind22 k W
  by_cases hk : Vi.wi k 1 9 = true
  · obtain ⟨i, rfl⟩ : ∃ i : Nat, k = (i : Int) + 1 := ⟨(k - 1).toNat, by have := Vi.wi_iff.1 hk; omega⟩
    have hi : i < 9 := by have := Vi.wi_iff.1 hk; omega
    have hc := h.1 i (oWords[i]'(by show i < 9; exact hi)) (List.getElem?_eq_getElem _)
    have e : oWord ((i : Int) + 1) = oWords[i]'(by show i < 9; exact hi) := by
      unfold oWord
      rw [if_pos hk, show ((i : Int) + 1 - 1).toNat = i by omega, List.getD_eq_getElem?_getD, List.getElem?_eq_getElem (by show i < 9; exact hi)]
      rfl
    rw [e]
    generalize oWords[i]'(by show i < 9; exact hi) = s at *
    have hb : 0 < w.heap.size := World.block_lt_of_cell? w _ hc
    have hw : wrap64 ((i : Int) + 1 - 1) = (i : Int) := by unfold wrap64; omega
    clear e h
    go_enter Tryd.func22, Tryd.ntmps22
    go_wp2_with fail
    refine Calls.mono (H.out _) ?_
    rintro e w1 ⟨rfl, e1⟩
    subst e1
    rw [hk]
    go_wp2_with fail
    go_ret
    exact ⟨rfl, rfl⟩
  · have e : oWord k = [] := if_neg hk
    have hk' : Vi.wi k 1 9 = false := by simpa using hk
    rw [e]
    go_enter Tryd.func22, Tryd.ntmps22
    go_wp2_with fail
    refine Calls.mono (H.out _) ?_
    rintro e w1 ⟨rfl, e1⟩
    subst e1
    rw [hk']
    go_wp2_with fail
    go_ret
    exact ⟨rfl, rfl⟩
end Go.Proofs.YtfhaiklfbnfdlaaDoor

namespace Go.Proofs.YtfhaiklfbnfdlaaDoor
open Go.RowKit

def plcL (p : List UInt8) (n : Int) : List UInt8 := if n < 0 then p ++ [45] else numL p n
def vaL (p : List UInt8) (th : Bool) (s : List UInt8) : List UInt8 := p ++ (if th = true then wd s else [45])
/-- The bytes of a text. -/
def bt (s : ByteArray) : List UInt8 := s.data.toList
theorem tx_bt (s : ByteArray) : Value.string s = tx (bt s) := rfl
theorem bt_len (s : ByteArray) : (bt s).length = s.size := by show s.data.toList.length = s.size; rw [Array.length_toList]; rfl
theorem rappNum {w : World} {base : Nat} {v : Value} {xs : List Int} (p : List UInt8) (i : Int) (h0 : -9223372036854775808 ≤ i) (h1 : i ≤ 9223372036854775807) (hown : OwnB base w v xs) (hp : p.length ≤ 10) (hb : xs.length + 64 ≤ 140737488355328) (hbase : base ≤ w.heap.size) (ht : Tab base w) :
    Calls Tryd.prog 56 #[v, tx p, .int .i64 i] w fun e w' => ∃ v', e = .returned v' ∧ ApO base w (xs ++ nu (numL p i)) v' w' := by
  have HA : Hid _ := app_txO p hown (by omega) hbase
  have HI : Hid (∀ W v, OwnB base W v (xs ++ nu p) → Oth base w W → _) := fun W v o (k : Oth base w W) => appInt_any i h0 h1 o (by rw [List.length_append, nu_len]; omega) (Nat.le_trans hbase k.1.size) (ht.on (k.below hbase))
  clear hown ht
  go_enter Tryd.func56, Tryd.ntmps56
  go_wp2_with (at_builtin; refine wpList_app rfl (.tmp 7) (.tmp 8) 32 9 rfl v (tx p) rfl rfl _ HA.out ?_; rintro v2 w2 ⟨o2, k2⟩)
  refine Calls.mono (HI.out _ _ o2 k2) ?_
  rintro e w3 ⟨v3, rfl, o3, k3⟩
  have R : Hid (ApO base w (xs ++ nu (numL p i)) v3 w3) := ⟨by rw [numL, nu_app, ← List.append_assoc]; exact o3, k2.trans k3⟩
  clear o2 k2 o3 k3
  go_wp2_with fail
  go_ret
  exact ⟨_, rfl, R.out⟩
theorem itoa_len21 {i : Int} (h0 : -9223372036854775808 ≤ i) (h1 : i ≤ 9223372036854775807) : (Lib.itoa i).length ≤ 21 := Lib.itoa_length_le i h0 h1
theorem rappLine {w : World} {base : Nat} {v : Value} {xs : List Int} (p : List UInt8) (i : Int) (h0 : -9223372036854775808 ≤ i) (h1 : i ≤ 9223372036854775807) (hown : OwnB base w v xs) (hp : p.length ≤ 10) (hb : xs.length + 64 ≤ 140737488355328) (hbase : base ≤ w.heap.size) (ht : Tab base w) :
    Calls Tryd.prog 40 #[v, tx p, .int .i64 i] w fun e w' => ∃ v', e = .returned v' ∧ ApO base w (xs ++ nu (numL p i ++ [10])) v' w' := by
  have HN : Hid _ := rappNum p i h0 h1 hown hp hb hbase ht
  have hil := itoa_len21 h0 h1
  go_enter Tryd.func40, Tryd.ntmps40
  go_wp2_with fail
  refine Calls.mono HN.out ?_
  rintro e w2 ⟨v2, rfl, o2, k2⟩
  have HA : Hid _ := app_txO [10] o2 (by rw [List.length_append, nu_len, numL, List.length_append]; simp only [List.length_cons, List.length_nil]; omega) (Nat.le_trans hbase k2.1.size)
  have K2 : Hid (Oth base w w2) := k2
  clear o2 k2 HN
  go_wp2_with (at_builtin; refine wpList_app rfl (.tmp 10) (.const (.string ⟨#[10]⟩)) 32 9 rfl v2 (tx [10]) rfl rfl _ HA.out ?_; rintro v3 w3 ⟨o3, k3⟩)
  have R : Hid (ApO base w (xs ++ nu (numL p i ++ [10])) v3 w3) := ⟨by rw [nu_app, ← List.append_assoc]; exact o3, Oth.trans K2.out k3⟩
  clear o3 k3
  go_ret
  exact ⟨_, rfl, R.out⟩
theorem rappPlace {w : World} {base : Nat} {v : Value} {xs : List Int} (p : List UInt8) (i : Int) (h0 : -9223372036854775808 ≤ i) (h1 : i ≤ 9223372036854775807) (hown : OwnB base w v xs) (hp : p.length ≤ 10) (hb : xs.length + 64 ≤ 140737488355328) (hbase : base ≤ w.heap.size) (ht : Tab base w) :
    Calls Tryd.prog 57 #[v, tx p, .int .i64 i] w fun e w' => ∃ v', e = .returned v' ∧ ApO base w (xs ++ nu (plcL p i)) v' w' := by
  by_cases hi : i < 0
  · have c1 : decide (i < 0) = true := decide_eq_true hi
    have e : plcL p i = p ++ [45] := if_pos hi
    rw [e]
    have HA : Hid _ := app_txO p hown (by omega) hbase
    have HB : Hid (∀ W v, OwnB base W v (xs ++ nu p) → Oth base w W → _) := fun W v o (k : Oth base w W) => app_txO [45] o (by rw [List.length_append, nu_len]; simp only [List.length_cons, List.length_nil]; omega) (Nat.le_trans hbase k.1.size)
    clear hown ht
    go_enter Tryd.func57, Tryd.ntmps57
    go_wp2_with (at_builtin; refine wpList_app rfl (.tmp 9) (.tmp 10) 32 9 rfl v (tx p) rfl rfl _ HA.out ?_; rintro v2 w2 ⟨o2, k2⟩; have HC : Hid _ := HB.out w2 v2 o2 k2; have K2 : Hid (Oth base w w2) := k2; clear o2 k2; go_wp2_with (at_builtin; refine wpList_app rfl (.tmp 11) (.const (.string ⟨#[45]⟩)) 32 9 rfl v2 (tx [45]) rfl rfl _ HC.out ?_; rintro v3 w3 ⟨o3, k3⟩))
    have R : Hid (ApO base w (xs ++ nu (p ++ [45])) v3 w3) := ⟨by rw [nu_app, ← List.append_assoc]; exact o3, Oth.trans K2.out k3⟩
    clear o3 k3
    go_ret
    exact ⟨_, rfl, R.out⟩
  · have c1 : decide (i < 0) = false := decide_eq_false hi
    have e : plcL p i = numL p i := if_neg hi
    rw [e]
    have HN : Hid _ := rappNum p i h0 h1 hown hp hb hbase ht
    clear hown ht e
    go_enter Tryd.func57, Tryd.ntmps57
    go_wp2_with fail
    refine Calls.mono HN.out ?_
    rintro e w2 ⟨v2, rfl, a2⟩
    have A2 : Hid _ := a2
    clear a2
    go_wp2_with fail
    go_ret
    exact ⟨_, rfl, A2.out⟩
theorem rappValue {w : World} {base : Nat} {v : Value} {xs : List Int} (p : List UInt8) (th : Bool) (s : List UInt8) (hs : s.length ≤ 64) (hown : OwnB base w v xs) (hp : p.length ≤ 10) (hb : xs.length + 256 ≤ 140737488355328) (hbase : base ≤ w.heap.size) :
    Calls Tryd.prog 58 #[v, tx p, .bool th, tx s] w fun e w' => ∃ v', e = .returned v' ∧ ApO base w (xs ++ nu (vaL p th s)) v' w' := by
  have HA : Hid _ := app_txO p hown (by omega) hbase
  have hwl := wd_len s
  have HB : Hid (∀ W v (q : List UInt8), q.length ≤ 129 → OwnB base W v (xs ++ nu p) → Oth base w W → _) := fun W v (q : List UInt8) hq o (k : Oth base w W) => app_txO q o (by rw [List.length_append, nu_len]; omega) (Nat.le_trans hbase k.1.size)
  have HW : Hid (∀ w, _) := fun w => word_any s w (by omega)
  clear hown
  cases th with
  | false =>
    have e : vaL p false s = p ++ [45] := rfl
    rw [e]
    go_enter Tryd.func58, Tryd.ntmps58
    go_wp2_with (at_builtin; refine wpList_app rfl (.tmp 9) (.tmp 10) 32 9 rfl v (tx p) rfl rfl _ HA.out ?_; rintro v2 w2 ⟨o2, k2⟩; have HC : Hid _ := HB.out w2 v2 [45] (by decide) o2 k2; have K2 : Hid (Oth base w w2) := k2; clear o2 k2; go_wp2_with (at_builtin; refine wpList_app rfl (.tmp 14) (.const (.string ⟨#[45]⟩)) 32 9 rfl v2 (tx [45]) rfl rfl _ HC.out ?_; rintro v3 w3 ⟨o3, k3⟩))
    have R : Hid (ApO base w (xs ++ nu (p ++ [45])) v3 w3) := ⟨by rw [nu_app, ← List.append_assoc]; exact o3, Oth.trans K2.out k3⟩
    clear o3 k3
    go_ret
    exact ⟨_, rfl, R.out⟩
  | true =>
    have e : vaL p true s = p ++ wd s := rfl
    rw [e]
    go_enter Tryd.func58, Tryd.ntmps58
    go_wp2_with (at_builtin; refine wpList_app rfl (.tmp 9) (.tmp 10) 32 9 rfl v (tx p) rfl rfl _ HA.out ?_; rintro v2 w2 ⟨o2, k2⟩)
    have O2 : Hid (OwnB base w2 v2 (xs ++ nu p)) := o2
    have K2 : Hid (Oth base w w2) := k2
    clear o2 k2
    refine Calls.mono (HW.out _) ?_
    rintro e w4 ⟨rfl, k4⟩
    have K4 : Hid (Oth base w w4) := Oth.trans K2.out (Oth.kept k4)
    have HC : Hid _ := HB.out w4 v2 (wd s) (by omega) (O2.out.kept k4 (fun _ _ h => h)) K4.out
    clear k4 O2 K2
    go_wp2_with (at_builtin; refine wpList_app rfl (.tmp 16) (.tmp 18) 32 9 rfl v2 (tx (wd s)) rfl rfl _ HC.out ?_; rintro v3 w3 ⟨o3, k3⟩)
    have R : Hid (ApO base w (xs ++ nu (p ++ wd s)) v3 w3) := ⟨by rw [nu_app, ← List.append_assoc]; exact o3, Oth.trans K4.out k3⟩
    clear o3 k3
    go_ret
    exact ⟨_, rfl, R.out⟩
end Go.Proofs.YtfhaiklfbnfdlaaDoor

namespace Go.Proofs.YtfhaiklfbnfdlaaDoor
open Go.RowKit

/-- All are right. -/
def allV (l : List Vi.Vl) : Bool := l.all Vi.okV
set_option maxRecDepth 100000 in
set_option maxHeartbeats 1600000 in
theorem validViols22 (w : World) (a : Option Addr) (cap : Nat) (l : List Vi.Vl) (h : Vi.At Vi.vl1 12 w a l) (hl : l.length ≤ 1172812402961) :
    Calls Tryd.prog 30 #[.slice a l.length cap] w fun e w' => e = .returned (.bool (allV l && Vi.srd l)) ∧ Vi.Grw w w' := by
  have HL : Hid (Vi.At Vi.vl1 12 w a l) := h
  have HS : Hid (∀ W, Kept w W → _) := fun W (k : Kept w W) => Vi.isSorted_p Vi.as22 W a cap l (h.on k) hl
  have HV : Hid (∀ (x : Vi.Vl) W, _) := Vi.valid18
  obtain ⟨n, en⟩ : ∃ n, n = l.length := ⟨_, rfl⟩
  rw [← en] at HS ⊢
  have EN : Hid (n = l.length) := en
  have hni : (n : Int) ≤ 1172812402961 := by omega
  clear h hl en
  go_enter Tryd.func30, Tryd.ntmps30
  go_wp2_with fail
  go_loopw [7] (fun v wr => ∃ j : Nat, v = .int .i64 (j : Int) ∧ j ≤ n ∧ (l.take j).all Vi.okV = true ∧ Vi.Grw w wr) (fun v _ => n - (intOf v).toNat)
  case atStart => exact ⟨0, rfl, Nat.zero_le _, rfl, Vi.Grw.refl _⟩
  case round =>
    obtain ⟨j, rfl, hj, hall, hk⟩ := hrel
    rename World => WL
    have KL : Hid (Vi.Grw w WL) := hk
    have HA : Hid _ := hall
    have hsz := (Vi.Grw.kept hk).size
    clear hk hall
    by_cases hjn : j < n
    · have c1 : (j : Int) < (n : Int) := by omega
      obtain ⟨x, hx⟩ : ∃ x, l[j]? = some x := ⟨_, List.getElem?_eq_getElem (by rw [← show n = _ from EN.out]; exact hjn)⟩
      obtain ⟨b, o, rfl, hb, x0, x1, x2, x3, x4, x5, x6, x7, x8, x9, x10, x11⟩ := Vi.At.vl (HL.out.on (Vi.Grw.kept KL.out)) hx
      have HX : Hid (l[j]? = some x) := hx
      have HJ : Hid (j < n) := hjn
      have HVX : Hid (∀ W, _) := HV.out x
      clear hx hjn hj
      go_wp2_with fail
      refine Calls.mono (HVX.out _) ?_
      rintro e w1 ⟨rfl, e1⟩
      have K1 : Hid (Vi.Grw w w1) := by rw [e1]; exact (KL.out.alloc _).alloc _
      clear e1 x0 x1 x2 x3 x4 x5 x6 x7 x8 x9 x10 x11 hb
      cases hv : Vi.okV x with
      | false =>
        have EF : Hid ((allV l && Vi.srd l) = false) := by
          have : allV l = false := by
            unfold allV
            rw [Bool.eq_false_iff]
            intro e
            have := List.all_eq_true.1 e x (List.mem_of_getElem? HX.out)
            rw [hv] at this
            cases this
          show _ = _
          rw [this]
          rfl
        go_wp2_with fail
        go_ret
        rw [EF.out]
        exact ⟨rfl, K1.out⟩
      | true =>
        have HN : Hid ((l.take (j + 1)).all Vi.okV = true) := by
          show _ = _
          rw [List.take_add_one, HX.out, List.all_append, HA.out]
          simp [hv]
        go_wp2_with fail
        go_roundw
        case rel => exact ⟨j + 1, by simp, HJ.out, HN.out, K1.out⟩
        case measure => simp only [intOf]; have := HJ.out; omega
    · obtain rfl : j = n := by omega
      have c1 : ¬ (j : Int) < (j : Int) := by omega
      have hA : allV l = true := by
        have := HA.out
        rw [List.take_of_length_le (by rw [← show j = _ from EN.out]; exact Nat.le_refl _)] at this
        exact this
      have HAA : Hid (allV l = true) := hA
      have HSW : Hid _ := HS.out WL (Vi.Grw.kept KL.out)
      clear hj hjn hA
      go_wp2_with fail
      refine Calls.mono HSW.out ?_
      rintro e w1 ⟨rfl, k1⟩
      have K1 : Hid (Vi.Grw w w1) := KL.out.trans k1
      clear k1
      go_wp2_with fail
      go_ret
      rw [HAA.out]
      exact ⟨by simp, K1.out⟩
end Go.Proofs.YtfhaiklfbnfdlaaDoor

namespace Go.Proofs.YtfhaiklfbnfdlaaDoor
open Go.RowKit

/-- An outcome as a value. -/
def ouV (o : OuM) (v : Value) : Value := .agg #[.int .i64 o.kd, .int .i64 o.cd, .int .i64 o.of, .int .i64 o.tn, .int .i64 o.tt, v]
/-- An outcome is right. -/
def okO (o : OuM) : Bool := Vi.wi o.kd 1 9 && fit (hc o.kd) o.cd 1 999 && fit (ho o.kd) o.of 0 4194304 && fit (ht o.kd) o.tn 0 4096 && fit (hl o.kd) o.tt 1 1099511627776 && decide ((o.ls.length : Int) ≤ min o.tt 10000) && (allV o.ls && Vi.srd o.ls)
theorem grw_of {w : World} {f : FuncId} {args : Array Value} {v : Value} (h : Calls Tryd.prog f args w fun e w' => e = .returned v ∧ w' = w) : Calls Tryd.prog f args w fun e w' => e = .returned v ∧ Vi.Grw w w' := h.mono fun e w' ⟨h1, h2⟩ => ⟨h1, by rw [h2]; exact Vi.Grw.refl _⟩
abbrev ouO (v0 v1 v2 v3 v4 v5 : Value) : Obj := .cells #[v0, v1, v2, v3, v4, v5] 25 (0, 0)
theorem ou_obj {w : World} {b : Nat} {v0 v1 v2 v3 v4 v5 : Value} (h : w.heap[b]? = some (ouO v0 v1 v2 v3 v4 v5)) :
    w.cell? ⟨b, 0, none⟩ = some v0 ∧ w.cell? ⟨b, 1, none⟩ = some v1 ∧ w.cell? ⟨b, 2, none⟩ = some v2 ∧ w.cell? ⟨b, 3, none⟩ = some v3 ∧ w.cell? ⟨b, 4, none⟩ = some v4 ∧ w.cell? ⟨b, 5, none⟩ = some v5 :=
  ⟨(cell_of h 0).trans rfl, (cell_of h 1).trans rfl, (cell_of h 2).trans rfl, (cell_of h 3).trans rfl, (cell_of h 4).trans rfl, (cell_of h 5).trans rfl⟩
set_option maxRecDepth 100000 in
set_option maxHeartbeats 3200000 in
theorem valid22_0 (w : World) (kd cd off tn tt : Int) (ls : List Vi.Vl) (a : Option Addr) (cap : Nat) (h : Vi.At Vi.vl1 12 w a ls) (hlen : ls.length ≤ 1172812402961) (t0 : Vi.wi kd 1 9 = false) :
    Calls Tryd.prog 13 #[.agg #[.int .i64 kd, .int .i64 cd, .int .i64 off, .int .i64 tn, .int .i64 tt, .slice a ls.length cap]] w fun e w' => e = .returned (.bool false) ∧ Vi.Grw w w' := by
  have HK : Hid (∀ W, _) := fun W => grw_of (isKind22 kd W)
  have HC : Hid (∀ W, _) := fun W => grw_of (hasCode22 kd W)
  have HO : Hid (∀ W, _) := fun W => grw_of (hasOffset22 kd W)
  have HT : Hid (∀ W, _) := fun W => grw_of (hasTxns22 kd W)
  have HLI : Hid (∀ W, _) := fun W => grw_of (hasList22 kd W)
  have HF : Hid (∀ th n a b W, _) := fun th n a b W => grw_of (fits22 th n a b W)
  have HV : Hid (∀ W, Kept w W → _) := fun W (k : Kept w W) => validViols22 W a cap ls (h.on k) hlen
  obtain ⟨n, en⟩ : ∃ n, n = ls.length := ⟨_, rfl⟩
  rw [← en] at HV ⊢
  have hni : (n : Int) ≤ 1172812402961 := by omega
  obtain ⟨W0, e0⟩ : ∃ W0, W0 = w.alloc (ouO (.int .i64 kd) (.int .i64 cd) (.int .i64 off) (.int .i64 tn) (.int .i64 tt) (.slice a n cap)) := ⟨_, rfl⟩
  have B0 : Hid (W0.heap[w.heap.size]? = some (ouO (.int .i64 kd) (.int .i64 cd) (.int .i64 off) (.int .i64 tn) (.int .i64 tt) (.slice a n cap))) := by rw [e0]; exact heap_new w _
  have G0 : Hid (Vi.Grw w W0) := by rw [e0]; exact (Vi.Grw.refl w).alloc _
  have HVW : Hid (∀ q os, _) := fun q os => HV.out (Sort.grow (W0.drewN q) os) (Vi.Grw.kept (G0.out.grow q os))
  clear en h hlen HV
  rw [t0] at HK
  generalize hc kd = b1 at *
  generalize ho kd = b2 at *
  generalize ht kd = b3 at *
  generalize hl kd = b4 at *
  generalize (allV ls && Vi.srd ls) = bv at *
  obtain ⟨c0, c1, c2, c3, c4, c5⟩ := ou_obj B0.out
  have l0 := lt_of_heap B0.out
  have mixed : Tryd.prog.follows .mixedOrders = true := by kernel_rfl
  have q0 : ∀ n os, _ := fun n os => cell_grown (a := ⟨w.heap.size, 0, none⟩) l0 c0 n os
  have q1 : ∀ n os, _ := fun n os => cell_grown (a := ⟨w.heap.size, 1, none⟩) l0 c1 n os
  have q2 : ∀ n os, _ := fun n os => cell_grown (a := ⟨w.heap.size, 2, none⟩) l0 c2 n os
  have q3 : ∀ n os, _ := fun n os => cell_grown (a := ⟨w.heap.size, 3, none⟩) l0 c3 n os
  have q4 : ∀ n os, _ := fun n os => cell_grown (a := ⟨w.heap.size, 4, none⟩) l0 c4 n os
  have q5 : ∀ n os, _ := fun n os => cell_grown (a := ⟨w.heap.size, 5, none⟩) l0 c5 n os
  clear c0 c1 c2 c3 c4 c5
  go_enter Tryd.func13, Tryd.ntmps13
  go_upto_region 1 with fail
  rw [← e0]
  clear e0 HC HO HT HLI HF HVW
  go_quiet_grown (first | (go_at_call 24; refine Calls.grown_of (HK.out _)))
  have G : Hid (Vi.Grw W0 (Sort.grow (W0.drewN nq) osq)) := ⟨nq, osq, rfl⟩
  generalize Sort.grow (W0.drewN nq) osq = W5 at G ⊢
  go_wp2_with fail
  go_ret
  exact ⟨rfl, Vi.Grw.trans G0.out G.out⟩
set_option maxRecDepth 100000 in
set_option maxHeartbeats 3200000 in
theorem valid22_1 (w : World) (kd cd off tn tt : Int) (ls : List Vi.Vl) (a : Option Addr) (cap : Nat) (h : Vi.At Vi.vl1 12 w a ls) (hlen : ls.length ≤ 1172812402961) (t0 : Vi.wi kd 1 9 = true) (t1 : fit (hc kd) cd 1 999 = false) :
    Calls Tryd.prog 13 #[.agg #[.int .i64 kd, .int .i64 cd, .int .i64 off, .int .i64 tn, .int .i64 tt, .slice a ls.length cap]] w fun e w' => e = .returned (.bool false) ∧ Vi.Grw w w' := by
  have HK : Hid (∀ W, _) := fun W => grw_of (isKind22 kd W)
  have HC : Hid (∀ W, _) := fun W => grw_of (hasCode22 kd W)
  have HO : Hid (∀ W, _) := fun W => grw_of (hasOffset22 kd W)
  have HT : Hid (∀ W, _) := fun W => grw_of (hasTxns22 kd W)
  have HLI : Hid (∀ W, _) := fun W => grw_of (hasList22 kd W)
  have HF : Hid (∀ th n a b W, _) := fun th n a b W => grw_of (fits22 th n a b W)
  have HV : Hid (∀ W, Kept w W → _) := fun W (k : Kept w W) => validViols22 W a cap ls (h.on k) hlen
  obtain ⟨n, en⟩ : ∃ n, n = ls.length := ⟨_, rfl⟩
  rw [← en] at HV ⊢
  have hni : (n : Int) ≤ 1172812402961 := by omega
  obtain ⟨W0, e0⟩ : ∃ W0, W0 = w.alloc (ouO (.int .i64 kd) (.int .i64 cd) (.int .i64 off) (.int .i64 tn) (.int .i64 tt) (.slice a n cap)) := ⟨_, rfl⟩
  have B0 : Hid (W0.heap[w.heap.size]? = some (ouO (.int .i64 kd) (.int .i64 cd) (.int .i64 off) (.int .i64 tn) (.int .i64 tt) (.slice a n cap))) := by rw [e0]; exact heap_new w _
  have G0 : Hid (Vi.Grw w W0) := by rw [e0]; exact (Vi.Grw.refl w).alloc _
  have HVW : Hid (∀ q os, _) := fun q os => HV.out (Sort.grow (W0.drewN q) os) (Vi.Grw.kept (G0.out.grow q os))
  clear en h hlen HV
  rw [t0] at HK
  generalize hc kd = b1 at *
  generalize ho kd = b2 at *
  generalize ht kd = b3 at *
  generalize hl kd = b4 at *
  generalize (allV ls && Vi.srd ls) = bv at *
  obtain ⟨c0, c1, c2, c3, c4, c5⟩ := ou_obj B0.out
  have l0 := lt_of_heap B0.out
  have mixed : Tryd.prog.follows .mixedOrders = true := by kernel_rfl
  have q0 : ∀ n os, _ := fun n os => cell_grown (a := ⟨w.heap.size, 0, none⟩) l0 c0 n os
  have q1 : ∀ n os, _ := fun n os => cell_grown (a := ⟨w.heap.size, 1, none⟩) l0 c1 n os
  have q2 : ∀ n os, _ := fun n os => cell_grown (a := ⟨w.heap.size, 2, none⟩) l0 c2 n os
  have q3 : ∀ n os, _ := fun n os => cell_grown (a := ⟨w.heap.size, 3, none⟩) l0 c3 n os
  have q4 : ∀ n os, _ := fun n os => cell_grown (a := ⟨w.heap.size, 4, none⟩) l0 c4 n os
  have q5 : ∀ n os, _ := fun n os => cell_grown (a := ⟨w.heap.size, 5, none⟩) l0 c5 n os
  clear c0 c1 c2 c3 c4 c5
  go_enter Tryd.func13, Tryd.ntmps13
  go_upto_region 1 with fail
  rw [← e0]
  clear e0 HO HT HLI HVW
  go_quiet_grown (first | (go_at_call 24; refine Calls.grown_of (HK.out _)) | (go_at_call 26; refine Calls.grown_of (HC.out _)) | (go_at_call 25; refine Calls.grown_of (HF.out _ _ _ _ _)))
  have G : Hid (Vi.Grw W0 (Sort.grow (W0.drewN nq) osq)) := ⟨nq, osq, rfl⟩
  generalize Sort.grow (W0.drewN nq) osq = W5 at G ⊢
  go_wp2_with fail
  go_ret
  exact ⟨rfl, Vi.Grw.trans G0.out G.out⟩
end Go.Proofs.YtfhaiklfbnfdlaaDoor
