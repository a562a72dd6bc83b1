/- What is proved: 'end' of a live stop lays its cause, closes its channel and turns nothing else; of a stopped one it turns nothing that was there; the stop's block and its channel's are asked for. -/
import Derived.Test.YtkkkndbfokjikabMem
namespace Go.Proofs.Ytkkkndbfokjikab
open Go.Conc Go.RowKit Go.MuLone

theorem shut_at (w : World) (ch : Nat) (h : ch < w.heap.size) : (shut w ch).heap[ch]? = some (.chan 0 #[] true 0 0 false) := by
  simp [shut, h]
theorem shut_other (w : World) (ch k : Nat) (h : k ≠ ch) : (shut w ch).heap[k]? = w.heap[k]? := by
  simp [shut, Array.getElem?_setIfInBounds_ne (Ne.symm h)]
theorem shut_size (w : World) (ch : Nat) : (shut w ch).heap.size = w.heap.size := by simp [shut]
theorem size_setCell (w : World) (a : Addr) (u : Value) : (w.setCell a u).heap.size = w.heap.size := by simp [World.setCell]

theorem endW_other (w : World) (b ch k : Nat) (c : Int) (h1 : k ≠ b) (h2 : k ≠ ch) : (endW w b ch c).heap[k]? = w.heap[k]? := by
  unfold endW
  rw [Below.heap_setCell _ _ _ _ h1, Below.heap_setCell _ _ _ _ h1]
  show (shut _ ch).heap[k]? = _
  rw [shut_other _ _ _ h2, Below.heap_setCell _ _ _ _ h1, Below.heap_setCell _ _ _ _ h1]
theorem endW_size (w : World) (b ch : Nat) (c : Int) : (endW w b ch c).heap.size = w.heap.size := by
  unfold endW
  rw [size_setCell, size_setCell]
  show (shut _ ch).heap.size = _
  rw [shut_size, size_setCell, size_setCell]
theorem endW_ch (w : World) (b ch : Nat) (c : Int) (h : ch ≠ b) (hl : ch < w.heap.size) : (endW w b ch c).heap[ch]? = some (.chan 0 #[] true 0 0 false) := by
  unfold endW
  rw [Below.heap_setCell _ _ _ _ h, Below.heap_setCell _ _ _ _ h]
  show (shut _ ch).heap[ch]? = _
  exact shut_at _ _ (by rw [size_setCell, size_setCell]; exact hl)
theorem endW_b (w : World) (b ch tb : Nat) (pp : Option Nat) (l c : Int) (h : b ≠ ch) (hc : c ≠ 0) (hb : w.heap[b]? = some (stopObj tb pp l 0 ch)) : (endW w b ch c).heap[b]? = some (stopObj tb pp l c ch) := by
  have h1 := setCell_at hb 6 (.int .i32 1)
  have h2 := setCell_at h1 3 (.int .i64 c)
  have h3 : (shut ((w.setCell ⟨b, 6, none⟩ (.int .i32 1)).setCell ⟨b, 3, none⟩ (.int .i64 c)) ch).drew.heap[b]? = _ := (shut_other _ _ _ h).trans h2
  have h4 := setCell_at h3 5 (.int .u32 1)
  have h5 := setCell_at h4 6 (.int .i32 0)
  refine h5.trans ?_
  simp [stopObj, hc]

theorem Same.shut {S : Nat → Prop} {w w' : World} (h : Same S w w') (ch : Nat) (hp : w.heap.size ≤ ch ∨ S ch) : Same S w (Ytkkkndbfokjikab.shut w' ch) :=
  ⟨h.os, h.tape, h.output, by rw [shut_size]; exact h.size, fun k hk hn => by
    rw [shut_other _ _ _ (fun e => by subst e; rcases hp with hp | hp; · omega
                                      · exact hn hp)]
    exact h.block k hk hn⟩
theorem same_endW (w : World) (b ch : Nat) (c : Int) : Same (fun k => k = b ∨ k = ch) w (endW w b ch c) := by
  unfold endW
  exact (((((((Same.refl _ w).setCell _ (.inr (.inl rfl)) _).setCell _ (.inr (.inl rfl)) _).shut ch (.inr (.inr rfl))).drew).setCell _ (.inr (.inl rfl)) _).setCell _ (.inr (.inl rfl)) _)

set_option maxRecDepth 100000 in
set_option maxHeartbeats 400000 in
theorem end_first (tb b ch : Nat) (pp : Option Nat) (l c : Int) (w : World) (hc : c ≠ 0) (hb : w.heap[b]? = some (stopObj tb pp l 0 ch)) (hch : w.heap[ch]? = some (chanObj 0)) :
    Calls Try.prog 26 #[.pointer (some ⟨b, 0, none⟩), .int .i64 c] w fun e w' => e = .returned (.tuple #[]) ∧ w'.heap[b]? = some (stopObj tb pp l c ch) ∧ w'.heap[ch]? = some (chanObj c) ∧ Same (fun k => k = b ∨ k = ch) w w' := by
  have hbl := lt_of_heap hb
  have hcl := lt_of_heap hch
  have hne : b ≠ ch := fun e => by subst e; rw [hb] at hch; simp [stopObj, chanObj] at hch
  have hmf : ∀ (fn : Fn) (first cap : Array Value) (w : World), (Instr.makeFunc fn first cap).run Try.prog w = .ok (.func fn first cap) w := fun _ _ _ _ => rfl
  let W := (w.alloc (.cells #[.pointer (some ⟨b, 0, none⟩)] 24)).alloc (.cells #[.int .i64 c] 3)
  have hW : Same (fun k => k = b ∨ k = ch) w W := ((Same.refl _ w).alloc _).alloc _
  have hWb : W.heap[b]? = some (stopObj tb pp l 0 ch) := by
    show ((w.alloc _).alloc _).heap[b]? = _
    rw [Below.heap_alloc _ _ _ (by simp; omega), Below.heap_alloc _ _ _ hbl]; exact hb
  have hWc : W.heap[ch]? = some (chanObj 0) := by
    show ((w.alloc _).alloc _).heap[ch]? = _
    rw [Below.heap_alloc _ _ _ (by simp; omega), Below.heap_alloc _ _ _ hcl]; exact hch
  have hd := do_first b ch c (.int .i64 0) ⟨w.heap.size + 1, 0, none⟩ ⟨w.heap.size, 0, none⟩ W (by simp; omega) (by simp; omega) (by simp [W]) (by simp [W])
    (by rw [cell_of hWb]; rfl) (by rw [cell_of hWb]; rfl) (by rw [cell_of hWb]; rfl) (by rw [cell_of hWb]; rfl) (frozen_of hWb _) (frozen_of hWb _) (frozen_of hWb _) hWc
  have Hd : Hid _ := hd
  clear hd
  go_enter Try.func26, Try.ntmps26
  go_wp2_with (go_at_call 30; refine Calls.mono Hd.out ?_; rintro e w' ⟨rfl, rfl⟩)
  go_end0
  refine ⟨rfl, endW_b W b ch tb pp l c hne hc hWb, ?_, hW.trans' (same_endW W b ch c)⟩
  rw [endW_ch W b ch c (Ne.symm hne) (lt_of_heap hWc)]
  simp [chanObj, hc]

set_option maxRecDepth 100000 in
set_option maxHeartbeats 400000 in
theorem end_done (tb b ch : Nat) (pp : Option Nat) (l c c' : Int) (w : World) (hc : c ≠ 0) (hb : w.heap[b]? = some (stopObj tb pp l c ch)) (S : Nat → Prop) :
    Calls Try.prog 26 #[.pointer (some ⟨b, 0, none⟩), .int .i64 c'] w fun e w' => e = .returned (.tuple #[]) ∧ Same S w w' := by
  have hbl := lt_of_heap hb
  have hmf : ∀ (fn : Fn) (first cap : Array Value) (w : World), (Instr.makeFunc fn first cap).run Try.prog w = .ok (.func fn first cap) w := fun _ _ _ _ => rfl
  have hWb : ((w.alloc (.cells #[.pointer (some ⟨b, 0, none⟩)] 24)).alloc (.cells #[.int .i64 c'] 3)).heap[b]? = some (stopObj tb pp l c ch) := by
    rw [Below.heap_alloc _ _ _ (by simp; omega), Below.heap_alloc _ _ _ hbl]; exact hb
  have hd := fun fv => do_done ⟨b, 5, none⟩ fv _ ((cell_of hWb 5).trans (by simp [hc]))
  have Hd : Hid _ := hd
  clear hd hWb
  go_enter Try.func26, Try.ntmps26
  go_wp2_with (go_at_call 30; refine Calls.mono (Hd.out _) ?_; rintro e w' ⟨rfl, rfl⟩)
  go_end0
  exact ⟨rfl, ((Same.refl _ w).alloc _).alloc _⟩
end Go.Proofs.Ytkkkndbfokjikab
