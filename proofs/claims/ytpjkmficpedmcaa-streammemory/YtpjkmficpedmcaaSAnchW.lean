/- What is proved: anchor answers true: twenty bytes are written and read; no condition. -/
import Derived.Test.YtpjkmficpedmcaaSOpenW
namespace Go.Proofs.Ytpjkmficpedmcaa
open Go.RowKit

def dA : M := M.made 16 3 [] [] []
def lA : List Int := List.replicate 19 0 ++ [7]
def sA : WrS := ⟨dA, List.replicate 3 false, [], [], 0, 0⟩
def sB : WrS := (wr lA sA).2
theorem sA_wr : wr lA sA = (0, sB) := by
  have : (wr lA sA).1 = 0 := by decide
  rw [← this]
  rfl
theorem sB_bg : sB.bg ≠ [] := by decide
theorem sB_fill : sB.fill.1 = 0 := by decide
theorem sB_bl : sB.fill.2.bl = [0, 1] := by decide
theorem sB_sz : sB.sz = 20 := by decide
def dC : M := sB.fill.2.m
theorem dC_B : dC.B = 16 ∧ dC.S = 3 ∧ dC.k ≤ 10 ∧ sB.m.k ≤ 10 ∧ dA.k = 0 := by decide
theorem rdC : (rd (.file [0, 1]) 20 ⟨dC, 0, []⟩).1 = 0 ∧ (rd (.file [0, 1]) 20 ⟨dC, 0, []⟩).2.1 = lA := by decide
end Go.Proofs.Ytpjkmficpedmcaa

namespace Go.Proofs.Ytpjkmficpedmcaa
open Go.RowKit

/-- The tags of a device that has just been made. -/
def tagD (p : Pl) : Nat → Nat := fun k => if k = p.db ∨ k = p.sb ∨ k = p.mb then 1 else 0
theorem tagD_dv {w : World} {m : M} {p : Pl} (h : Dv w m p) : DvT (tagD p) w m p :=
  ⟨h, fun k hk => if_pos hk, fun k hk => if_neg fun e => by
    obtain ⟨h1, h2, h3⟩ := h.api k hk
    rcases e with e | e | e
    · exact h2 e
    · exact h1 e
    · exact h3 e, fun k hk => if_neg fun e => by
    obtain ⟨h1, h2, h3⟩ := h.apf k hk
    rcases e with e | e | e
    · exact h2 e
    · exact h1 e
    · exact h3 e⟩
theorem tagD_old {p : Pl} {m : M} {n k : Nat} (hf : ∀ k, Foot m p k → n ≤ k) (hk : k < n) : tagD p k = 0 := if_neg fun e => by
  have := hf k (.inl e)
  omega
theorem kept_of {S : Nat → Prop} {o o' : Nat → Nat} {w0 w w' : World} (k : Kept w0 w) (hs : Step S o w o' w') (h : ∀ k, k < w0.heap.size → ¬ S (o k)) : Kept w0 w' :=
  k.trans hs.same fun i hi e => h i hi e
/-- A device, a space and a writer that have just been made. -/
theorem start8 {w w1 w2 w3 : World} {m : M} {p : Pl} {N sp wb : Nat} (h1 : Dv w1 m p) (hf : ∀ k, Foot m p k → w.heap.size ≤ k) (k1 : Kept w w1) (h2 : SpT (tagN w1 2 (tagD p)) w2 sp (List.replicate N false)) (k2 : Kept w1 w2) (h3 : WtrAt (tagN w2 3 (tagN w1 2 (tagD p))) 3 w3 p sp wb [] [] 0 false 0 (.slice none 0 0) (.slice none 0 0)) (k3 : Kept w2 w3) :
    WrT (tagN w2 3 (tagN w1 2 (tagD p))) 3 w3 p sp wb ⟨m, List.replicate N false, [], [], 0, 0⟩ false (.slice none 0 0) (.slice none 0 0) ∧ Kept w w3 ∧ ∀ k, k < w.heap.size → tagN w2 3 (tagN w1 2 (tagD p)) k = 0 := by
  have s2 : Step (fun _ => False) (tagD p) w1 (tagN w1 2 (tagD p)) w2 := ⟨k2, fun k hk => tagN_old hk⟩
  have s3 : Step (fun _ => False) (tagN w1 2 (tagD p)) w2 (tagN w2 3 (tagN w1 2 (tagD p))) w3 := ⟨k3, fun k hk => tagN_old hk⟩
  refine ⟨⟨((tagD_dv h1).on s2 (fun h => h) (fun h => h)).on s3 (fun h => h) (fun h => h), h2.on s3 (fun h => h), h3⟩, (k1.trans' k2).trans' k3, fun k hk => ?_⟩
  have a1 := k1.size
  have a2 := k2.size
  rw [tagN_old (by omega), tagN_old (by omega)]
  exact tagD_old hf hk
/-- A row of bytes that has just been made, beside a writer. -/
theorem src_new {o : Nat → Nat} {w w' : World} {g : Nat} {l : List Int} (hg : w'.heap[g]? = some (rowObj l)) (hn : w.heap.size ≤ g) : Src8 (tagN w 0 o) 3 w' (some ⟨g, 0, none⟩) l.length l :=
  ⟨bytes_row hg, fun k' hk => by
    obtain ⟨_, off, e⟩ := hk
    cases e
    rw [tagN_new hn]
    rintro (e | e | e) <;> omega, Nat.le_refl _, (fun e => by cases e), (fun ad e => by cases e; rfl)⟩

set_option maxRecDepth 100000 in
set_option maxHeartbeats 3200000 in
theorem anchor_any8 (w : World) : Calls Try.prog 4 #[] w fun e w' => e = .returned (.bool true) ∧ Kept w w' := by
  have HN : Hid _ := new_yes 16 3 none none none 0 0 0 [] [] [] w (BytesAt.nil _ _) (BytesAt.nil _ _) (FaultsAt.nil _ _) (fun _ => ⟨rfl, rfl⟩) (fun _ => ⟨rfl, rfl⟩) (by decide)
  go_enter Try.func4, Try.ntmps4
  go_wp2_with fail
  refine Calls.mono HN.out ?_
  rintro x w1 ⟨p, rfl, h1, hf, k1⟩
  have HS : Hid _ := nw_any (tagD p) 3 (by omega) w1
  have H1 : Hid _ := And.intro h1 (And.intro hf k1)
  clear h1 hf k1 HN
  go_wp2_with fail
  refine Calls.mono HS.out ?_
  rintro x w2 ⟨sp, rfl, h2, k2, -⟩
  have HC : Hid _ := create_any (tagN w1 2 (tagD p)) 3 w2 p sp
  have H2 : Hid _ := And.intro h2 k2
  clear h2 k2 HS
  go_wp2_with fail
  refine Calls.mono HC.out ?_
  rintro x w3 ⟨wb, rfl, h3, k3, -⟩
  obtain ⟨w4, ew4⟩ : ∃ w4, w4 = w3.alloc (rowObj (List.replicate 20 0)) := ⟨_, rfl⟩
  have hmk : (Instr.makeSlice 22 (.int .i64 20) (.int .i64 20)).run Try.prog w3 = .ok (.slice (some ⟨w3.heap.size, 0, none⟩) 20 20) w4 := by rw [ew4]; exact make_bytes w3 20 (by omega)
  have hrow : w4.heap[w3.heap.size]? = some (rowObj (List.replicate 20 0)) := by rw [ew4]; exact heap_new w3 _
  have k4 : Kept w3 w4 := by rw [ew4]; exact (Same.refl _ w3).alloc _
  obtain ⟨g, eg⟩ : ∃ g, g = w3.heap.size := ⟨_, rfl⟩
  rw [← eg] at hmk hrow
  have c19 : w4.cell? ⟨g, 19, none⟩ = some (.int .u8 0) := (cell_of hrow 19).trans rfl
  have f19 := frozen_of hrow 19
  have hlr := lt_of_heap hrow
  -- the writer, and the bytes beside it
  have hst := start8 H1.out.1 H1.out.2.1 H1.out.2.2 H2.out.1 H2.out.2 h3 k3
  obtain ⟨hW, kW, hz⟩ := hst
  have k5 : Kept w3 (w4.setCell ⟨g, 19, none⟩ (.int .u8 7)) := Same.setCell k4 _ (.inl (by rw [eg]; exact Nat.le_refl _)) _
  have hr5 : (w4.setCell ⟨g, 19, none⟩ (.int .u8 7)).heap[g]? = some (rowObj lA) := (setCell_at hrow 19 _).trans rfl
  have st5 : Step (fun _ => False) (tagN w2 3 (tagN w1 2 (tagD p))) w3 (tagN w3 0 (tagN w2 3 (tagN w1 2 (tagD p)))) (w4.setCell ⟨g, 19, none⟩ (.int .u8 7)) := ⟨k5, fun k hk => tagN_old hk⟩
  have hW5 := hW.on st5 (fun h => h) (fun h => h) (fun h => h) (fun h => h)
  have src5 : Src8 (tagN w3 0 (tagN w2 3 (tagN w1 2 (tagD p)))) 3 (w4.setCell ⟨g, 19, none⟩ (.int .u8 7)) (some ⟨g, 0, none⟩) 20 lA := src_new hr5 (by rw [eg]; exact Nat.le_refl _)
  have ht : Tg 3 := ⟨by decide, by decide, by decide⟩
  have hiA : WI sA := ⟨by decide, fun e => absurd rfl e, by decide, (by intro b hb; cases hb), rfl, by decide⟩
  have HWR : Hid _ := write_ok8 (s := sA) hW5 ht hiA (some ⟨g, 0, none⟩) 20 lA src5 (by decide) (by decide)
  have hz5 : ∀ k, k < w.heap.size → tagN w3 0 (tagN w2 3 (tagN w1 2 (tagD p))) k = 0 := fun k hk => by
    have := kW.size
    rw [tagN_old (by omega)]
    exact hz k hk
  have kW5 : Kept w (w4.setCell ⟨g, 19, none⟩ (.int .u8 7)) := kW.trans' k5
  have hg5 : tagN w3 0 (tagN w2 3 (tagN w1 2 (tagD p))) g = 0 := tagN_new (by rw [eg]; exact Nat.le_refl _)
  obtain ⟨o5, eo5⟩ : ∃ o5, o5 = tagN w3 0 (tagN w2 3 (tagN w1 2 (tagD p))) := ⟨_, rfl⟩
  rw [← eo5] at HWR src5 hz5 hg5
  have H5 : Hid _ := And.intro src5 (And.intro hz5 (And.intro kW5 (And.intro ht hg5)))
  clear h3 k3 HC hW kW hz k5 hr5 st5 hW5 src5 hz5 hg5 kW5 eo5 H1 H2 hiA hrow k4 ew4 eg
  go_wp2_with fail
  refine Calls.mono HWR.out ?_
  rintro x w6 ⟨rfl, hlv, hwi⟩
  rw [sA_wr] at hlv hwi ⊢
  obtain ⟨hw2, -, -, -⟩ := hwi rfl
  clear hwi
  obtain ⟨o6, bv6, gv6, st6, h6⟩ := hlv
  obtain ⟨src5, hz5, kW5, ht, hg5⟩ := H5.out
  have kW6 : Kept w w6 := kept_of kW5 st6 fun k hk => by rw [hz5 k hk]; rintro (e | e | e) <;> omega
  have hz6 : ∀ k, k < w.heap.size → o6 k = 0 := fun k hk => (st6.tag k (Nat.lt_of_lt_of_le hk kW5.size)).trans (hz5 k hk)
  have src6 := src5.on st6
  have hg6 : o6 g = 0 := (st6.tag g (src5.by_.lt ⟨by decide, 0, rfl⟩)).trans hg5
  have HCL : Hid _ := close_some h6 ht hw2 sB_bg (by have := dC_B.2.2.2.1; show sB.m.k + 10 < _; omega) (by rw [show (show WrS from sB).sz = 20 from sB_sz]; omega)
  have H6 : Hid _ := And.intro src6 (And.intro hz6 (And.intro kW6 (And.intro ht hg6)))
  clear src5 hz5 kW5 hg5 hg6 ht kW6 hz6 src6 h6 st6 hw2 H5 HWR c19 f19 hlr hmk
  go_wp2_with fail
  refine Calls.mono HCL.out ?_
  rintro x w7 (⟨hne, -⟩ | ⟨-, o7, fa, fc, rfl, st7, hown, hbk, h7⟩)
  · exact absurd sB_fill hne
  rw [sB_bl, sB_sz] at *
  obtain ⟨src6, hz6, kW6, ht, hg6⟩ := H6.out
  have kW7 : Kept w w7 := kept_of kW6 st7 fun k hk => by rw [hz6 k hk]; rintro (e | e | e) <;> omega
  have hz7 : ∀ k, k < w.heap.size → o7 k = 0 := fun k hk => (st7.tag k (Nat.lt_of_lt_of_le hk kW6.size)).trans (hz6 k hk)
  have src7 := src6.on st7
  have hg7 : o7 g = 0 := (st7.tag g (src6.by_.lt ⟨by decide, 0, rfl⟩)).trans hg6
  obtain ⟨fa', fc', efa, hnm, hcap, hnl, -⟩ := OwnI.nums hown
  simp only [Value.slice.injEq, true_and] at efa
  obtain ⟨rfl, rfl⟩ := efa
  obtain ⟨w8, ew8⟩ : ∃ w8, w8 = w7.alloc (.cells #[.slice fa 2 fc, .int .i64 20] 39) := ⟨_, rfl⟩
  have k8 : Kept w7 w8 := by rw [ew8]; exact (Same.refl _ w7).alloc _
  have hd8 : DvT o7 w8 dC p := h7.dv.on (S := fun _ => False) ⟨k8, fun _ _ => rfl⟩ (fun h => h) (fun h => h)
  have HOP : Hid (Calls Try.prog 11 #[.pointer (some ⟨p.db, 0, none⟩), .agg #[.slice fa 2 fc, .int .i64 20]] w8 (OpenP o7 4 w8 dC p [0, 1] 20)) :=
    open_yes 4 hd8.dv [0, 1] fa fc 20 (by omega) (by rw [dC_B.1]; rfl) (by rw [dC_B.2.1]; intro b hb; simp at hb; rcases hb with rfl | rfl <;> decide) (hnm.kept k8 (fun _ _ h => h)) hnl (by decide)
  have hbx : w8.heap[w7.heap.size]? = some (.cells #[.slice fa 2 fc, .int .i64 20] 39 (0, 0)) := by rw [ew8]; exact heap_new w7 _
  have src8 := src7.on (Step.kept k8)
  have H8 : Hid _ := And.intro src8 (And.intro hz7 (And.intro (kW7.trans' k8) (And.intro hd8 hg7)))
  obtain ⟨fb, efb⟩ : ∃ fb, fb = w7.heap.size := ⟨_, rfl⟩
  rw [← efb] at hbx
  have e0 : w8.cell? ⟨fb, 0, none⟩ = some (.slice fa 2 fc) := (cell_of hbx 0).trans rfl
  have e1 : w8.cell? ⟨fb, 1, none⟩ = some (.int .i64 20) := (cell_of hbx 1).trans rfl
  have hl8 := lt_of_heap hbx
  have HAL : Hid _ := And.intro ew8 efb
  clear src6 hz6 kW6 ht hg6 hg7 kW7 hz7 src7 hown hbk h7 st7 hnm hcap hnl k8 hd8 src8 hbx H6 HCL ew8 efb
  unfold fileV
  go_upto_region 13 with fail
  rw [← HAL.out.1, ← HAL.out.2]
  go_wp2_with fail
  refine Calls.mono HOP.out ?_
  rintro x w9 ⟨rb, o9, rfl, hrb, st9, hr9, hi9⟩
  obtain ⟨src8, hz7, kW8, hd8, hg8⟩ := H8.out
  have hd9 := hd8.on st9 (fun h => h) (fun h => h)
  have HRD : Hid _ := read_ok8 hd9 hr9 ⟨by decide, by decide⟩ hi9 (by have := dC_B.2.2.1; omega) 30 (by omega)
  have hz9 : ∀ k, k < w.heap.size → o9 k = 0 := fun k hk => (st9.tag k (Nat.lt_of_lt_of_le hk kW8.size)).trans (hz7 k hk)
  have kW9 : Kept w w9 := kept_of kW8 st9 fun k hk h => h
  have by9 : BytesAt w9 (some ⟨g, 0, none⟩) lA := src8.by_.kept st9.same fun k hk h => h
  have tg9 : o9 g = 0 := (st9.tag g (src8.by_.lt ⟨by decide, 0, rfl⟩)).trans hg8
  have H9 : Hid _ := And.intro hz9 (And.intro kW9 (And.intro by9 tg9))
  clear hrb st9 hr9 hi9 src8 hz7 kW8 hd8 hg8 hd9 hz9 kW9 by9 tg9 H8 HOP e0 e1 hl8 HAL
  go_wp2_with fail
  refine Calls.mono HRD.out ?_
  rintro x w10 ⟨o10, st10, hd10, hc⟩
  rw [show min 30 20 = 20 from rfl] at hc hd10
  obtain ⟨hr1, hr2⟩ := rdC
  rcases hc with ⟨-, v, rfl, hv, -, -, -, -⟩ | ⟨hne, -⟩
  · obtain ⟨va, vc, rfl, bv, -⟩ := BytesAt.of_row hv
    rw [hr2] at bv ⊢
    obtain ⟨hz9, kW9, by9, tg9⟩ := H9.out
    have by10 : BytesAt w10 (some ⟨g, 0, none⟩) lA := by9.kept st10.same fun k hk h => by
      obtain ⟨_, off, e⟩ := hk
      cases e
      rw [tg9] at h
      rcases h with h | h <;> omega
    have kW10 : Kept w w10 := kept_of kW9 st10 fun k hk => by rw [hz9 k hk]; rintro (e | e) <;> omega
    have HSM : Hid _ := same_true w10 (some ⟨g, 0, none⟩) va 20 vc lA by10 bv (by decide)
    have KW : Hid _ := kW10
    have hlA : lA.length = 20 := rfl
    rw [hlA] at HSM ⊢
    clear hz9 kW9 by9 tg9 by10 kW10 hlA hv bv hd10 st10 H9 HRD hr1 hr2
    go_wp2_with fail
    refine Calls.mono HSM.out ?_
    rintro x w11 ⟨rfl, rfl⟩
    go_wp2_with fail
    go_ret
    exact ⟨rfl, KW.out⟩
  · exact absurd hr1 hne
end Go.Proofs.Ytpjkmficpedmcaa
