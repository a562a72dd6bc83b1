/- What is proved: the law on every script over one store answers true; the script lies in memory. -/
import Derived.Test.YtnjpbagfbklofaaCStpD
namespace Go.Proofs.Ytnjpbagfbklofaa
open Go.RowKit

/-- What a script leaves. -/
def sts (A : List En) (l : List OpC) : List En := l.foldl stp A
theorem sts_take {l : List OpC} {j : Nat} {o : OpC} (h : l[j]? = some o) (A : List En) : sts A (l.take (j + 1)) = stp (sts A (l.take j)) o := by
  unfold sts
  rw [List.take_add_one, h, List.foldl_append]
  rfl
theorem sts_length (l : List OpC) (A : List En) : (sts A l).length ≤ A.length + l.length := by
  induction l generalizing A with
  | nil => exact Nat.le_refl _
  | cons o r ih =>
    have h1 := ih (stp A o)
    have h2 := stp_length A o
    show (sts (stp A o) r).length ≤ A.length + (r.length + 1)
    omega
theorem sts_keys (l : List OpC) {A : List En} (h : ∀ e ∈ A, rightK e.key = true) : ∀ e ∈ sts A l, rightK e.key = true := by
  induction l generalizing A with
  | nil => exact h
  | cons o r ih =>
    refine ih ?_
    unfold stp
    split
    · exact inst_keys h _ _
    · split
      · exact fun e he => h e (List.mem_filter.1 he).1
      · exact h
/-- A new store of the program's, and a new one of the document's. -/
theorem Duo.new {w w1 : World} {sb : Nat} {A : List En} {F : Nat → Prop} (h1 : St F w1 sb A) (hF : ∀ x, F x → w.heap.size ≤ x) (k1 : Kept w w1) :
    Duo w (w1.alloc (.cells #[.slice none 0 0] 29 (0, 0))) sb w1.heap.size A [] F (fun b => b = w1.heap.size) :=
  ⟨h1.on ((Same.refl _ w1).alloc _), ⟨⟨_, heap_new w1 _, OwnE.nil _ _, fun k hk => by simp [Value.ownBlock] at hk⟩, rfl, fun k hk => by rw [World.size_alloc]; omega⟩, fun x hx hg => by have := h1.lt x hx; omega, hF, fun x hx => by rw [hx]; exact k1.size, k1.alloc _⟩
set_option maxRecDepth 100000 in
set_option maxHeartbeats 3200000 in
theorem plays_law (w : World) (a : Option Addr) (cap : Nat) (s : List OpC) (hl : OpsAt w a s) (hs : Small s) (hn : s.length ≤ 1954687338268) :
    Calls Try.prog 3 #[.slice a s.length cap] w fun e w' => e = .returned (.bool true) ∧ Kept w w' := by
  have HAN : Hid _ := anchor13_any w
  have HL : Hid _ := hl
  have HS : Hid (Small s) := hs
  obtain ⟨n, en⟩ : ∃ n, n = s.length := ⟨_, rfl⟩
  rw [← en] at hn
  rw [← en]
  have EN : Hid _ := en
  clear hl hs en
  go_enter Try.func3, Try.ntmps3
  go_wp2_with fail
  refine Calls.mono HAN.out ?_
  rintro e w1 ⟨rfl, k1⟩
  have K1 : Hid (Kept w w1) := k1
  have HN : Hid _ := new13 w1
  clear k1 HAN
  go_wp2_with fail
  refine Calls.mono HN.out ?_
  rintro e w2 ⟨rfl, st2, k2⟩
  have D2 : Hid _ := Duo.new st2 (fun x hx => hx.1) k2
  clear st2 k2 HN
  generalize w1.heap.size + 2 = sb at *
  go_wp2_with fail
  generalize w2.alloc (.cells #[.slice none 0 0] 29 (0, 0)) = Y at *
  generalize w2.heap.size = rb at *
  go_loopw [18] (fun i wr => ∃ (j : Nat) (F G : Nat → Prop), j ≤ n ∧ i = .int .i64 j ∧ Duo w1 wr sb rb (sts [] (s.take j)) (sts [] (s.take j)) F G) (fun i _ => n - (intOf i).toNat)
  case atStart => exact ⟨0, _, _, Nat.zero_le _, rfl, D2.out⟩
  case round =>
    obtain ⟨j, F, G, hj, rfl, dd⟩ := hrel
    have DD : Hid (Duo w1 wr sb rb (sts [] (s.take j)) (sts [] (s.take j)) F G) := dd
    have hsl : (sts [] (s.take j)).length ≤ n := by
      have := sts_length (s.take j) []
      simp only [List.length_nil, List.length_take] at this
      omega
    clear dd
    by_cases hlt : j < n
    · have c1 : decide ((j : Int) < (n : Int)) = true := by simp only [decide_eq_true_eq]; omega
      have hlt2 : (j : Int) < (n : Int) := by omega
      have hlt3 : (0 : Int) ≤ (j : Int) := by omega
      obtain ⟨o, ho⟩ : ∃ o, s[j]? = some o := ⟨_, List.getElem?_eq_getElem (by rw [← show n = s.length from EN.out]; exact hlt)⟩
      obtain ⟨b, off, rfl, hb, q0, q1, q2, q3, q4, q5, q6⟩ := (OpsAt.on HL.out (Same.trans' K1.out (Duo.kept DD.out))) j o ho
      have HT : Hid _ := sts_take ho []
      have hsm := HS.out o (List.mem_of_getElem? ho)
      have HST : Hid _ := step13_any (Duo.on DD.out ((Same.refl _ wr).alloc (.cells #[.int .i64 o.kind, .int .i64 o.time, .string o.key, .int .i64 o.x.c, .int .i64 o.x.w, .bool o.x.f, .string o.x.v] 33 (0, 0)))) o hsm (by omega)
      clear ho
      unfold Stp opA at HST
      go_wp2_with fail
      refine Calls.mono HST.out ?_
      rintro e w3 ⟨rfl, F3, G3, d3⟩
      have D3 : Hid _ := d3
      clear d3 HST
      go_wp2_with fail
      go_roundw
      case rel => exact ⟨j + 1, F3, G3, by omega, by simp, by rw [show sts [] (s.take (j + 1)) = _ from HT.out]; exact D3.out⟩
      case measure => simp only [intOf]; omega
    · have c1 : decide ((j : Int) < (n : Int)) = false := by simp only [decide_eq_false_iff_not]; omega
      have HRK : Hid (∀ e ∈ sts [] (s.take j), rightK e.key = true) := sts_keys _ (fun e he => by simp at he)
      generalize sts [] (s.take j) = A at *
      have HK : Hid _ := rkeys13 (Duo.b DD.out) (by omega)
      go_wp2_with fail
      refine Calls.mono HK.out ?_
      rintro e w3 ⟨v3, l, rfl, kk3, o3, k3⟩
      obtain ⟨a3, p3, rfl, sa3, -⟩ := OwnS.strs o3
      have D3 : Hid (Duo w1 w3 sb rb A A F G) := Duo.on DD.out k3
      have SA : Hid (StrsAt w3 a3 l) := sa3
      have HKO : Hid (KeysOf A l) := kk3
      obtain ⟨L, eL⟩ : ∃ L, L = l.length := ⟨_, rfl⟩
      have hLA : L ≤ A.length := by rw [eL]; exact keys_len kk3
      rw [← eL]
      have EL : Hid (L = l.length) := eL
      clear eL o3 k3 sa3 kk3 HK
      go_wp2_with fail
      go_loopw [31] (fun i wx => ∃ (q : Nat), q ≤ L ∧ i = .int .i64 q ∧ Kept w3 wx) (fun i _ => L - (intOf i).toNat)
      case atStart => exact ⟨0, Nat.zero_le _, rfl, Same.refl _ _⟩
      case round =>
        obtain ⟨q, hq, rfl, kk⟩ := hrel
        have KK : Hid (Kept w3 wr) := kk
        clear kk
        by_cases hlq : q < L
        · have c2 : decide ((q : Int) < (L : Int)) = true := by simp only [decide_eq_true_eq]; omega
          have hlq2 : (q : Int) < (L : Int) := by omega
          have hlq3 : (0 : Int) ≤ (q : Int) := by omega
          obtain ⟨x, hx⟩ : ∃ x, l[q]? = some x := ⟨_, List.getElem?_eq_getElem (by rw [← show L = l.length from EL.out]; exact hlq)⟩
          obtain ⟨bk, offk, rfl, hbk, ck⟩ := (StrsAt.on SA.out KK.out) q x hx
          obtain ⟨hks, -⟩ := key_told HRK.out HKO.out hx
          generalize (⟨x.toArray⟩ : ByteArray) = k at *
          clear hx
          have HC : Hid _ := chain_alike (Duo.on D3.out KK.out) 0 k hks v0 (by omega)
          simp only [v0] at HC
          go_wp2_with fail
          refine Calls.mono HC.out ?_
          rintro e w4 ⟨rfl, k4⟩
          have K4 : Hid _ := k4
          clear k4 HC
          go_wp2_with fail
          go_roundw
          case rel => exact ⟨q + 1, by omega, by simp, Same.trans' KK.out K4.out⟩
          case measure => simp only [intOf]; omega
        · have c2 : decide ((q : Int) < (L : Int)) = false := by simp only [decide_eq_false_iff_not]; omega
          have HC : Hid _ := step_keys (Duo.on D3.out KK.out) 0 ⟨#[]⟩ v0 (by omega)
          unfold Stp opA at HC
          simp only [v0] at HC
          go_wp2_with fail
          refine Calls.mono HC.out ?_
          rintro e w4 ⟨rfl, F4, G4, d4⟩
          have D4 : Hid _ := d4
          clear d4 HC
          go_wp2_with fail
          go_ret
          exact ⟨rfl, Same.trans' K1.out (Duo.kept D4.out)⟩
end Go.Proofs.Ytnjpbagfbklofaa
