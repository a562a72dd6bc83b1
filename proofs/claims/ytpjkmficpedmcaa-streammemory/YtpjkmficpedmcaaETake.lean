/- What is proved: Take and Alloc of a space that lies in memory. -/
import Derived.Test.YtpjkmficpedmcaaECut
namespace Go.Proofs.Ytpjkmficpedmcaa
open Go.RowKit
set_option maxRecDepth 100000

theorem Upd.around {w W w1 w2 : World} {p N hb b0 : Nat} {L : List Ex} (hp : p < w.heap.size) (hh : hb < w.heap.size) (k : Kept w W) (h : Upd W p N hb L w1) (hb1 : w.heap.size ≤ b0) (hb2 : b0 < W.heap.size) (ks : Same (fun k => k = b0) w1 w2) : Upd w p N hb L w2 := by
  obtain ⟨a', hb', c', h1, h2, h3⟩ := h
  have := k.size
  refine ⟨a', hb', c', h1.kept ks (by show ¬ p = b0; omega) (by show ¬ hb' = b0; omega), h2.imp id (by omega), ?_⟩
  exact ((k.to _).trans' h3).trans ks (fun i hi e => by omega)
theorem Upd.pre {w W w1 : World} {p N hb : Nat} {L : List Ex} (k : Kept w W) (h : Upd W p N hb L w1) : Upd w p N hb L w1 := by
  obtain ⟨a', hb', c', h1, h2, h3⟩ := h
  have := k.size
  exact ⟨a', hb', c', h1, h2.imp id (by omega), (k.to _).trans' h3⟩

theorem Found.ret {p : Ex → Bool} {L : List Ex} {r : Ending} (h : Found p L r) : ∃ z : Int, r = .returned (.int .i64 z) := by
  rcases h with ⟨i, e, h, _⟩ | ⟨h, _⟩
  · exact ⟨i, h⟩
  · exact ⟨-1, h⟩
/-- What Take answers. -/
def TakeP (w : World) (p N hb : Nat) (L : List Ex) (x : Ex) (r : Ending) (w' : World) : Prop :=
  (¬ (1 ≤ x.c ∧ 0 ≤ x.f ∧ x.c ≤ N - x.f) ∧ r = .returned (.int .i64 43) ∧ Kept w w') ∨
  ((1 ≤ x.c ∧ 0 ≤ x.f ∧ x.c ≤ N - x.f) ∧ ¬ AllF x L ∧ r = .returned (.int .i64 45) ∧ Kept w w') ∨
  ((1 ≤ x.c ∧ 0 ≤ x.f ∧ x.c ≤ N - x.f) ∧ AllF x L ∧ r = .returned (.int .i64 0) ∧ ∃ L', Upd w p N hb L' w' ∧ ∀ b, Mm b L' ↔ Mm b L ∧ ¬ (x.f ≤ b ∧ b < x.f + x.c))

/-- What Alloc answers. -/
def AllocP (w : World) (p N hb : Nat) (L : List Ex) (count : Int) (r : Ending) (w' : World) : Prop :=
  (count < 1 ∧ r = .returned (.tuple #[exV ⟨0, 0⟩, .int .i64 41]) ∧ Kept w w') ∨
  (1 ≤ count ∧ (∀ e ∈ L, e.c < count) ∧ r = .returned (.tuple #[exV ⟨0, 0⟩, .int .i64 42]) ∧ Kept w w') ∨
  (1 ≤ count ∧ ∃ (i : Nat) (h : Ex) (L' : List Ex), L[i]? = some h ∧ (∀ e ∈ L.take i, e.c < count) ∧ count ≤ h.c ∧ r = .returned (.tuple #[exV ⟨h.f, count⟩, .int .i64 0]) ∧ Upd w p N hb L' w' ∧ ∀ b, Mm b L' ↔ Mm b L ∧ ¬ (h.f ≤ b ∧ b < h.f + count))

theorem less_take {L : List Ex} {j : Nat} {e : Ex} {n : Int} (he : L[j]? = some e) (h : ∀ x ∈ L.take j, x.c < n) (hp : e.c < n) : ∀ x ∈ L.take (j + 1), x.c < n := by
  intro x hx
  rw [List.take_add_one, he] at hx
  rcases List.mem_append.1 hx with hx | hx
  · exact h x hx
  · simp at hx
    subst hx
    exact hp

set_option maxRecDepth 100000 in
set_option maxHeartbeats 1600000 in
theorem alloc_any {w : World} {p N : Nat} {L : List Ex} {a : Option Addr} {hb c : Nat} (hS : Sp w p N L a hb c) (count : Int) :
    Calls Try.prog 29 #[.pointer (some ⟨p, 0, none⟩), .int .i64 count] w fun r w' => AllocP w p N hb L count r w' := by
  have HS : Hid _ := hS
  have hpl := hS.lt
  have hbl := hS.ltb
  have c1 : w.cell? ⟨p, 1, none⟩ = some (.slice a L.length c) := (cell_of hS.obj 1).trans rfl
  have hn := hS.wf.len hS.small
  clear hS
  have G0 : Hid _ := heap_new w (exO ⟨0, 0⟩)
  by_cases hc : count < 1
  · have hc' : decide (count < 1) = true := decide_eq_true hc
    go_enter Try.func29, Try.ntmps29
    go_wp2_with fail
    refine bodyPost_ret (eresults_ct (a := 4) (t := 65) (u := 5) rfl rfl (loadVar_ext (x := ⟨0, 0⟩) ?_)) rfl (.inl ⟨hc, rfl, ?_⟩)
    · exact heap_new _ _
    · exact (Same.refl _ w).alloc _
  · have hc' : decide (count < 1) = false := decide_eq_false hc
    have hc1 : 1 ≤ count := by omega
    obtain ⟨n, en⟩ : ∃ n, n = L.length := ⟨_, rfl⟩
    rw [← en] at c1 hn
    have EN : Hid _ := en
    clear en
    have HC : Hid (∀ W, Kept w W → ∀ (i : Nat) (h : Ex), L[i]? = some h → count ≤ h.c → Calls Try.prog 33 #[.pointer (some ⟨p, 0, none⟩), .int .i64 (i : Int), .agg #[.int .i64 h.f, .int .i64 count]] W fun r w' => r = .returned (.tuple #[]) ∧ Upd W p N hb (L.take i ++ rest h ⟨h.f, count⟩ ++ L.drop (i + 1)) w') := fun W k i h q1 q2 => by
      have hm := HS.out.wf.mem (List.mem_of_getElem? q1)
      have hN := HS.out.small
      exact cut_any (x := ⟨h.f, count⟩) (HS.out.kept0 k) q1 ⟨hm.1, by show 0 ≤ count; omega, by show h.f + count ≤ 4096; omega⟩ hc1 (by simp only [inb, Bool.and_eq_true, decide_eq_true_eq]; omega)
    have HC1 : Hid _ := hc1
    have HCN : Hid _ := hc
    clear hc1
    go_enter Try.func29, Try.ntmps29
    go_wp2_with fail
    go_loopw [17] (fun i wr => ∃ j : Nat, j ≤ n ∧ i = .int .i64 j ∧ (∀ e ∈ L.take j, e.c < count) ∧ wr.heap[w.heap.size]? = some (exO ⟨0, 0⟩) ∧ Kept w wr) (fun i _ => n - (intOf i).toNat)
    case atStart => exact ⟨0, Nat.zero_le _, rfl, by simp, G0.out, (Same.refl _ _).alloc _⟩
    case round =>
      obtain ⟨j, hj, rfl, hno, g0, kk⟩ := hrel
      have HNO : Hid _ := hno
      have KK : Hid _ := kk
      have GG : Hid _ := g0
      have l0 := lt_of_heap g0
      have z0 : ∀ o, wr.frozen? ⟨w.heap.size, o, none⟩ = false := fun o => frozen_of g0 o
      have a0 : wr.cell? ⟨w.heap.size, 0, none⟩ = some (.int .i64 0) := (cell_of g0 0).trans rfl
      have a1 : wr.cell? ⟨w.heap.size, 1, none⟩ = some (.int .i64 0) := (cell_of g0 1).trans rfl
      clear hno g0
      by_cases hlt : j < n
      · have c1' : decide ((j : Int) < (n : Int)) = true := by simp only [decide_eq_true_eq]; omega
        have hlt2 : (j : Int) < (n : Int) := by omega
        obtain ⟨e, he⟩ : ∃ e, L[j]? = some e := ⟨_, List.getElem?_eq_getElem (by rw [← EN.out]; exact hlt)⟩
        obtain ⟨b, off, rfl, hb', q0, q1⟩ := (HS.out.exts.kept kk (fun _ _ h => h)) j e he
        have HE : Hid _ := he
        clear kk he
        by_cases hk : count ≤ e.c
        · have hk' : decide (count ≤ e.c) = true := decide_eq_true hk
          have HKC : Hid _ := hk
          have k2 : Kept wr ((wr.alloc (exO e)).alloc (exO ⟨e.f, count⟩)) := ((Same.refl _ _).alloc _).alloc _
          have HC' : Hid _ := HC.out _ (KK.out.trans' k2) j e HE.out hk
          have hg1 : ((wr.alloc (exO e)).alloc (exO ⟨e.f, count⟩)).heap[wr.heap.size + 1]? = some (exO ⟨e.f, count⟩) := by
            have := heap_new (wr.alloc (exO e)) (exO ⟨e.f, count⟩)
            rw [World.size_alloc] at this
            exact this
          have hg0 : ((wr.alloc (exO e)).alloc (exO ⟨e.f, count⟩)).heap[w.heap.size]? = some (exO ⟨0, 0⟩) := (k2.block _ l0 (fun h => h)).trans GG.out
          have HG0 : Hid _ := hg0
          have HG1 : Hid _ := hg1
          have K2 : Hid _ := k2
          have hsz : Hid (((wr.alloc (exO e)).alloc (exO ⟨e.f, count⟩)).heap.size = wr.heap.size + 2) := (by simp : ((wr.alloc (exO e)).alloc (exO ⟨e.f, count⟩)).heap.size = wr.heap.size + 2)
          clear hg0 hg1 k2
          unfold exO at *
          go_wp2_with fail
          refine Calls.mono HC'.out ?_
          rintro r w3 ⟨rfl, hu⟩
          obtain ⟨a', hbb, c', hsp, hor, ksm⟩ := hu
          have y1 : w3.heap[wr.heap.size + 1]? = some (exO ⟨e.f, count⟩) := (ksm.block _ (by rw [hsz.out]; omega) (by show ¬ (_ = _ ∨ _ = _); have := KK.out.size; omega)).trans HG1.out
          have y0 : w3.heap[w.heap.size]? = some (exO ⟨0, 0⟩) := (ksm.block _ (by rw [hsz.out]; omega) (by show ¬ (_ = _ ∨ _ = _); omega)).trans HG0.out
          have HU : Hid (Upd _ p N hb _ w3) := ⟨a', hbb, c', hsp, hor, ksm⟩
          have b0 : w3.cell? ⟨wr.heap.size + 1, 0, none⟩ = some (.int .i64 e.f) := (cell_of y1 0).trans rfl
          have b1 : w3.cell? ⟨wr.heap.size + 1, 1, none⟩ = some (.int .i64 count) := (cell_of y1 1).trans rfl
          have d0 : w3.cell? ⟨w.heap.size, 0, none⟩ = some (.int .i64 0) := (cell_of y0 0).trans rfl
          have d1 : w3.cell? ⟨w.heap.size, 1, none⟩ = some (.int .i64 0) := (cell_of y0 1).trans rfl
          have zf : ∀ o, w3.frozen? ⟨w.heap.size, o, none⟩ = false := fun o => frozen_of y0 o
          have hl3 := lt_of_heap y0
          have hl4 := lt_of_heap y1
          have Y0 : Hid _ := y0
          clear hsp hor ksm y0 y1
          go_wp2_with fail
          refine bodyPost_ret (eresults_ct (a := 4) (t := 65) (u := 5) rfl rfl (loadVar_ext (x := ⟨e.f, count⟩) (put2_at Y0.out ⟨e.f, count⟩))) rfl (.inr (.inr ⟨HC1.out, j, e, _, HE.out, HNO.out, HKC.out, rfl, Upd.around hpl hbl (KK.out.trans' K2.out) HU.out (Nat.le_refl _) (by rw [hsz.out]; omega) (put2_same w3 w.heap.size ⟨e.f, count⟩), fun b => ?_⟩))
          have hw0 := HS.out.wf
          rw [split_at HE.out] at hw0
          have hin : inb ⟨e.f, count⟩ e = true := by
            have := HKC.out
            simp only [inb, Bool.and_eq_true, decide_eq_true_eq]; omega
          rw [(cut_wf hw0 hin HC1.out).2 b, ← split_at HE.out]
        · have hk' : decide (count ≤ e.c) = false := decide_eq_false hk
          have HLT : Hid (e.c < count) := (by omega : e.c < count)
          go_wp2_with fail
          go_roundw
          case rel => exact ⟨j + 1, by omega, by simp, less_take HE.out HNO.out HLT.out, (heap_old _ _ l0).trans GG.out, KK.out.alloc _⟩
          case measure => simp only [intOf]; omega
      · have c1' : decide ((j : Int) < (n : Int)) = false := by simp only [decide_eq_false_iff_not]; omega
        obtain rfl : j = n := by omega
        clear kk
        go_wp2_with fail
        refine bodyPost_ret (eresults_ct (a := 4) (t := 65) (u := 5) rfl rfl (loadVar_ext (x := ⟨0, 0⟩) ?_)) rfl (.inr (.inl ⟨HC1.out, ?_, rfl, ?_⟩))
        · exact put2_at GG.out ⟨0, 0⟩
        · have := HNO.out
          rw [EN.out, List.take_length] at this
          exact this
        · exact KK.out.trans (put2_same wr w.heap.size ⟨0, 0⟩) (fun i hi e => by omega)
end Go.Proofs.Ytpjkmficpedmcaa
