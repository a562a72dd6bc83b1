/- What is proved: free finds the first node that does not stand and whose neighbours all stand; the table and the set lie in memory. -/
import Derived.Test.YtbhihmkgimdjpaaDoorGhE
import Derived.Deep.LoopGhost
namespace Go.Proofs.YtbhihmkgimdjpaaDoor
open Go.RowKit

/-- Free: it does not stand, and its neighbours all stand. -/
def Fre (A : Nat → Nat → Bool) (S : Nat → Bool) (a : Nat) : Prop := S a = false ∧ ∀ b, A a b = true → S b = true
/-- What free may answer. -/
def FrR (n : Nat) (A : Nat → Nat → Bool) (S : Nat → Bool) : Option Nat → Prop
  | some a => a < n ∧ Fre A S a ∧ ∀ c, c < a → ¬ Fre A S c
  | none => ∀ a, a < n → ¬ Fre A S a
def frV : Option Nat → Value
  | some a => .tuple #[.int .i64 (a : Int), .bool true]
  | none => .tuple #[.int .i64 0, .bool false]
theorem results_tt {fn : Func} {a b : Nat} {P : Program} {w : World} {tmps : Array Value} (h : fn.results = #[.tmp a, .tmp b]) : (results fn tmps).run P w = .ok (.tuple #[tmps.getD a undef, tmps.getD b undef]) w := by simp [results, h]
set_option maxRecDepth 100000 in
set_option maxHeartbeats 6400000 in
theorem free19 {w : World} {n g bs gs bs2 : Nat} {l sl : List Nat} {A : Nat → Nat → Bool} {S : Nat → Bool} (hn : n ≤ 1024) (ho : OwnW bs w (.slice (some ⟨g, 0, none⟩) (n * wN n) (n * wN n)) l) (hl : l.length = n * wN n) (ht : Tbl (wN n) l A) (hA : ∀ a b, A a b = true → b < n) (os : OwnW bs2 w (.slice (some ⟨gs, 0, none⟩) (wN n) (wN n)) sl) (hsl : sl.length = wN n) (hw : Wds sl S) :
    Calls Tryd.prog 41 #[tbV n g (n * wN n) (n * wN n), .slice (some ⟨gs, 0, none⟩) (wN n) (wN n)] w fun e w' => ∃ r, e = .returned (frV r) ∧ FrR n A S r ∧ Grw w w' := by
  have HO : Hid (OwnW bs w (.slice (some ⟨g, 0, none⟩) (n * wN n) (n * wN n)) l ∧ l.length = n * wN n ∧ Tbl (wN n) l A) := ⟨ho, hl, ht⟩
  have HS : Hid (OwnW bs2 w (.slice (some ⟨gs, 0, none⟩) (wN n) (wN n)) sl ∧ sl.length = wN n ∧ Wds sl S) := ⟨os, hsl, hw⟩
  have HA : Hid (∀ a b, A a b = true → b < n) := hA
  have HB : Hid (n ≤ 1024) := hn
  obtain ⟨H, eH⟩ : ∃ H, H = w.heap.size := ⟨_, rfl⟩
  have HH : Hid (H = w.heap.size) := eH
  have z0 : (w.alloc (tbO n g (n * wN n) (n * wN n))).heap[H]? = some (tbO n g (n * wN n) (n * wN n)) := by rw [eH]; exact heap_new w _
  have HCX : Hid (∀ W, Grw (w.alloc (tbO n g (n * wN n) (n * wN n))) W → Grw w W ∧ W.cell? ⟨H, 0, none⟩ = some (.int .i64 n) ∧ W.cell? ⟨H, 1, none⟩ = some (.slice (some ⟨g, 0, none⟩) (n * wN n) (n * wN n)) ∧ OwnW bs W (.slice (some ⟨g, 0, none⟩) (n * wN n) (n * wN n)) l ∧ OwnW bs2 W (.slice (some ⟨gs, 0, none⟩) (wN n) (wN n)) sl) := fun W kw => by
    have k0 : Grw w W := Grw.trans (Grw.alloc (Grw.refl _) _) kw
    have z1 := (kw.kept.block H (lt_of_heap z0) (fun e => e)).trans z0
    exact ⟨k0, (cell_of z1 0).trans rfl, (cell_of z1 1).trans rfl, HO.out.1.on k0.kept, HS.out.1.on k0.kept⟩
  clear ho hl ht hA os hsl hw z0
  go_enter Tryd.func41, Tryd.ntmps41
  go_upto_region 1 with fail
  rw [← eH]
  clear eH
  generalize w.alloc (tbO n g (n * wN n) (n * wN n)) = W0 at HCX ⊢
  obtain ⟨-, t0, -⟩ := HCX.out W0 (Grw.refl _)
  go_step3
  go_wp2_with fail
  go_step3
  go_wp2_with fail
  clear t0
  go_loopg [11] n (fun g11 i wr => ∃ j : Nat, i = .int .i64 (j : Int) ∧ j + g11 = n ∧ Grw W0 wr ∧ ∀ c, c < j → ¬ Fre A S c)
  case atStart => exact ⟨0, rfl, Nat.zero_add _, Grw.refl _, fun c hc => by omega⟩
  case round =>
    obtain ⟨j, rfl, hj, kg, hno⟩ := hrel
    rename World => WL
    have HGK : Hid (j + gk = n) := hj
    have HNO : Hid (∀ c, c < j → ¬ Fre A S c) := hno
    have KG : Hid (Grw W0 WL) := kg
    by_cases hlt : j < n
    · have c1 : (j : Int) < (n : Int) := by omega
      have c2 : (j : Int) ≤ 1024 := by have := HB.out; omega
      obtain ⟨x, hx⟩ : ∃ x, sl[j / 64]? = some x := ⟨_, List.getElem?_eq_getElem (by rw [HS.out.2.1]; exact wN_lt hlt)⟩
      obtain ⟨hx1, hx2⟩ := HS.out.2.2 _ _ hx
      have hsj : x.testBit (j % 64) = S j := by rw [hx2 _ (Nat.mod_lt _ (by decide)), show 64 * (j / 64) + j % 64 = j by omega]
      have HHA : Hid (∀ W, Grw W0 W → _) := fun W kw => has19 W gs 0 (wN n) (wN n) x j (by omega) (wN_lt hlt) hx1 (by rw [Nat.zero_add]; exact ((HCX.out W kw).2.2.2.2.cell1 ekU hx rfl).1)
      have HJ : Hid (j < n) := hlt
      rw [hsj] at HHA
      clear hx hx1 hx2 hsj hno
      cases hs : S j with
      | true =>
        have HNF : Hid (¬ Fre A S j) := fun h => by rw [h.1] at hs; cases hs
        rw [hs] at HHA
        clear hs hlt
        go_wp2_with (go_at_call 39; refine Calls.mono (HHA.out _ (by (repeat (first | exact Grw.refl _ | assumption | (refine Grw.trans ?_ (by assumption)) | apply Grw.alloc | apply Grw.drew | apply Grw.drewN)); done)) ?_; rintro r w3 ⟨rfl, rfl⟩)
        go_roundg (gk - 1)
        case measure => have := HGK.out; have := HJ.out; omega
        case rel => exact ⟨j + 1, rfl, by have := HGK.out; have := HJ.out; omega, KG.out, fun c hc => by
          by_cases e : c = j
          · rw [e]; exact HNF.out
          · exact HNO.out c (by omega)⟩
      | false =>
        have HSJ : Hid (S j = false) := hs
        have HRC : Hid (∀ W, _) := fun W => row19 n j g HB.out hlt W
        rw [hs] at HHA
        obtain ⟨-, d0, d1, -⟩ := HCX.out WL kg
        clear hs hlt
        go_wp2_with (first | (go_at_call 39; refine Calls.mono (HHA.out _ (by (repeat (first | exact Grw.refl _ | assumption | (refine Grw.trans ?_ (by assumption)) | apply Grw.alloc | apply Grw.drew | apply Grw.drewN)); done)) ?_; rintro r w3 ⟨rfl, rfl⟩) | (go_at_call 51; refine Calls.mono (HRC.out _) ?_; rintro r w4 ⟨⟨cap, rfl⟩, g4⟩))
        have hW16 : wN n ≤ 16 := wN_le HB.out
        have HK4 : Hid (Grw W0 w4) := (by (repeat (first | exact Grw.refl _ | assumption | (refine Grw.trans ?_ (by assumption)) | apply Grw.alloc | apply Grw.drew | apply Grw.drewN)); done)
        obtain ⟨G0, eG0⟩ : ∃ G0, G0 = gk := ⟨_, rfl⟩
        clear g4 kg d0 d1 HHA HRC
        go_loopg [21] (wN n) (fun g21 i wr => ∃ k : Nat, i = .int .i64 (k : Int) ∧ k + g21 = wN n ∧ Grw W0 wr ∧ ∀ b, b < 64 * k → A j b = true → S b = true)
        case atStart => exact ⟨0, rfl, Nat.zero_add _, HK4.out, fun b hb => by omega⟩
        case round =>
          obtain ⟨k, rfl, hk, kg2, hno2⟩ := hrel
          rename World => WL2
          have HG0 : Hid (j + G0 = n) := by rw [eG0]; exact HGK.out
          have KG2 : Hid (Grw W0 WL2) := kg2
          have HNO2 : Hid (∀ b, b < 64 * k → A j b = true → S b = true) := hno2
          have HKG : Hid (k + gk = wN n) := hk
          by_cases hkW : k < wN n
          · have hxr := row_le HJ.out
            obtain ⟨wd, hwd⟩ : ∃ wd, l[j * wN n + k]? = some wd := ⟨_, List.getElem?_eq_getElem (by rw [HO.out.2.1]; omega)⟩
            obtain ⟨sw, hsw⟩ : ∃ sw, sl[k]? = some sw := ⟨_, List.getElem?_eq_getElem (by rw [HS.out.2.1]; exact hkW)⟩
            obtain ⟨hwlt, hwb⟩ := HO.out.2.2.row hkW hwd
            obtain ⟨hslt, hsb⟩ := HS.out.2.2 _ _ hsw
            obtain ⟨-, -, -, o1, o2⟩ := HCX.out WL2 kg2
            have a1 := (o1.cell1 ekU hwd rfl).1
            have a2 := (o2.cell1 ekU hsw rfl).1
            have hi1 : (k : Int) < ((wN n : Nat) : Int) := by omega
            have hi2 : (k : Int) ≤ 16 := by omega
            have hand := andn_bits wd sw
            have HWD : Hid ((∀ b, b < 64 → (andn wd sw).testBit b = (A j (64 * k + b) && !S (64 * k + b))) ∧ k < wN n) := ⟨fun b hb => by rw [andn_bit hb, hwb b hb, hsb b hb], hkW⟩
            obtain ⟨z, ez⟩ : ∃ z, z = andn wd sw := ⟨_, rfl⟩
            have hz64 : z < 18446744073709551616 := by rw [ez]; exact andn_lt _ _
            have HZ64 : Hid (z < 18446744073709551616) := hz64
            rw [← ez] at hand HWD
            clear o1 o2 hwd hsw hwlt hwb hslt hsb hxr hno2 hk eG0 ez hz64 hkW
            by_cases hz : z = 0
            · subst hz
              have hz1 : (((0 : Nat) : Int) != 0) = false := by decide
              go_wp2_with fail
              go_roundg (gk - 1)
              case measure => have := HKG.out; have := HWD.out.2; omega
              case rel => exact ⟨k + 1, rfl, by have := HKG.out; have := HWD.out.2; omega, KG2.out, fun b hb ha => by
                by_cases e : b < 64 * k
                · exact HNO2.out b e ha
                · have h1 := HWD.out.1 (b - 64 * k) (by omega)
                  rw [Nat.zero_testBit, show 64 * k + (b - 64 * k) = b by omega, ha, Bool.true_and] at h1
                  cases h2 : S b
                  · rw [h2] at h1; cases h1
                  · rfl⟩
            · have hz1 : ((z : Int) != 0) = true := by simp; omega
              have HNF : Hid (¬ Fre A S j) := fun hf => by
                apply hz
                apply no_bits HZ64.out
                intro b hb
                rw [HWD.out.1 b hb]
                cases h1 : A j (64 * k + b)
                · rfl
                · rw [hf.2 _ h1]; rfl
              clear hz
              go_wp2_with fail
              go_roundg (G0 - 1)
              case measure => have := HG0.out; have := HJ.out; have := HGK.out; omega
              case rel => exact ⟨j + 1, rfl, by have := HG0.out; have := HJ.out; omega, KG2.out, fun c hc => by
                by_cases e : c = j
                · rw [e]; exact HNF.out
                · exact HNO.out c (by omega)⟩
          · have hke : k = wN n := by omega
            have hi1 : ¬ (k : Int) < ((wN n : Nat) : Int) := by omega
            have HFR : Hid (Fre A S j) := ⟨HSJ.out, fun b hb => hno2 b (by have := HA.out j b hb; unfold wN at hke; omega) hb⟩
            clear hno2 hk eG0 hke kg2 hkW
            go_wp2_with fail
            try rw [Exit.noGoto_ret]
            refine bodyPost_ret (results_tt rfl) rfl ?_
            exact ⟨some j, rfl, ⟨HJ.out, HFR.out, HNO.out⟩, (HCX.out _ KG2.out).1⟩
    · obtain rfl : n = j := by omega
      have c1 : ¬ (n : Int) < (n : Int) := by omega
      clear kg hno
      go_wp2_with fail
      try rw [Exit.noGoto_ret]
      refine bodyPost_ret (results_tt rfl) rfl ?_
      exact ⟨none, rfl, HNO.out, (HCX.out _ KG.out).1⟩
end Go.Proofs.YtbhihmkgimdjpaaDoor
