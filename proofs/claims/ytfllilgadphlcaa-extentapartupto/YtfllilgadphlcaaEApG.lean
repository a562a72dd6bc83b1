/- What is proved: the space, the list of owners and the list of what is held, beside one another in memory: what a call, a mark, an append and a store leave of them. -/
import Derived.Test.YtfllilgadphlcaaEApM
namespace Go.Proofs.Ytfllilgadphlcaa
open Go.RowKit

theorem Try.infoInt : (Try.prog.info? 3).map (fun i => (i.zero, i.size, i.bytes)) = some (some (.int .i64 0), 1, 8) := by kernel_rfl
/-- What the calls on the space leave alone. -/
abbrev XA (w0 : World) (go : Nat) (hv : Value) : Nat → Prop := fun k => k < w0.heap.size ∨ k = go ∨ hv.ownBlock = some k
structure ApG (w0 w : World) (p go N : Nat) (hv : Value) (L : List Ex) (F : Nat → Int) (H : List Ex) : Prop where
  sp : SpX (XA w0 go hv) w p N L
  ow : w.rowIs go 3 N (fun b => .int .i64 (F b))
  hd : w.ownsRow w0.heap.size 40 2 hv H.length (ecs H)
  ne : hv.ownBlock ≠ some go
  le : w0.heap.size ≤ go
  kp : Kept w0 w
theorem own_on {w w' : World} {v : Value} {n : Nat} {xs : List Value} {base : Nat} {e : TypeId} {size : Nat} (h : w.ownsRow base e size v n xs) (hg : ∀ k, v.ownBlock = some k → w'.heap[k]? = w.heap[k]?) : w'.ownsRow base e size v n xs := by
  refine ⟨h.1, ?_⟩
  rcases h.2 with h2 | ⟨g, cap, cur, rfl, h1, h3, h4⟩
  · exact .inl h2
  · exact .inr ⟨g, cap, cur, rfl, h1, (hg g rfl).trans h3, h4⟩
theorem ApG.lt {w0 w : World} {p go N : Nat} {hv : Value} {L : List Ex} {F : Nat → Int} {H : List Ex} (h : ApG w0 w p go N hv L F H) : ∀ k, XA w0 go hv k → k < w.heap.size := fun k hk => by
  rcases hk with hk | hk | hk
  · exact Nat.lt_of_lt_of_le hk h.kp.size
  · rw [hk]; exact h.ow.lt
  · exact (World.ownsRow.lt h.hd k hk).2
theorem ApG.space {w0 w w' : World} {p go N : Nat} {hv : Value} {L L' : List Ex} {F : Nat → Int} {H : List Ex} (h : ApG w0 w p go N hv L F H) (hs : SpX (XA w0 go hv) w' p N L') (k : Same (fun k => ¬ XA w0 go hv k) w w') : ApG w0 w' p go N hv L' F H :=
  ⟨hs, h.ow.of_block (k.block _ h.ow.lt (fun e => e (.inr (.inl rfl)))), own_on h.hd (fun b hb => k.block _ (World.ownsRow.lt h.hd b hb).2 (fun e => e (.inr (.inr hb)))), h.ne, h.le, h.kp.trans k fun _ hi e => e (.inl hi)⟩
theorem ApG.on {w0 w w' : World} {p go N : Nat} {hv : Value} {L : List Ex} {F : Nat → Int} {H : List Ex} (h : ApG w0 w p go N hv L F H) (k : Kept w w') : ApG w0 w' p go N hv L F H :=
  h.space (h.sp.on k) (Kept.to k _)
theorem ApG.congr {w0 w : World} {p go N : Nat} {hv : Value} {L : List Ex} {F G : Nat → Int} {H : List Ex} (h : ApG w0 w p go N hv L F H) (e : ∀ b, b < N → F b = G b) : ApG w0 w p go N hv L G H :=
  ⟨h.sp, h.ow.congr fun b hb => by rw [e b hb], h.hd, h.ne, h.le, h.kp⟩
theorem ApG.mark {w0 w : World} {p go N : Nat} {hv : Value} {L : List Ex} {F : Nat → Int} {H : List Ex} (h : ApG w0 w p go N hv L F H) (j : Nat) (v : Int) : ApG w0 (w.setCell ⟨go, j, none⟩ (.int .i64 v)) p go N hv L (fun b => if b = j then v else F b) H := by
  have k : Same (fun k => k = go) w (w.setCell ⟨go, j, none⟩ (.int .i64 v)) := (Same.refl (fun k => k = go) w).setCell _ (.inr rfl) _
  refine ⟨h.sp.stay k fun k _ e => .inr (.inl e), (h.ow.set j (.int .i64 v)).congr fun b _ => by split <;> rfl, own_on h.hd (fun b hb => k.block _ (World.ownsRow.lt h.hd b hb).2 (fun e => h.ne (by rw [hb, e]))), h.ne, h.le, h.kp.setCell _ (.inl h.le) _⟩
theorem ApG.app {w0 w : World} {p go N : Nat} {hv : Value} {L : List Ex} {F : Nat → Int} {H : List Ex} (h : ApG w0 w p go N hv L F H) (x : Ex) (hn : H.length ≤ 1048576) (ty : TypeId) :
    ∃ v' w', (Builtin.append_ #[37, 37] ty #[hv, .slice (some ⟨w.heap.size, 0, none⟩) 1 1]).run Try.prog (w.alloc (.cells #[.int .i64 x.f, .int .i64 x.c] 40 (0, 0))) = .ok v' w' ∧ ApG w0 w' p go N v' L F (H ++ [x]) := by
  obtain ⟨i0, hi0, hz0, hz1, hz2⟩ := info_parts Try.infoExt
  have hW := h.on ((Same.refl (fun _ => False) w).alloc (.cells #[.int .i64 x.f, .int .i64 x.c] 40 (0, 0)))
  have hc := exts_new w x.f x.c 40
  generalize w.alloc (.cells #[.int .i64 x.f, .int .i64 x.c] 40 (0, 0)) = W at hW hc
  obtain ⟨v', w', hr, r1, r2, _, r3⟩ := run_append_own_at (P := Try.prog) (w := W) w0.heap.size 37 ty 40 i0 _ 2 16 Try.underlying37 hi0 hz0 hz1 hz2 rfl (by decide) hv H.length _ hW.hd ⟨w.heap.size, 0, none⟩ 1 1 (ecs [x]) (length_ecs _)
    (fun j u hu => by rw [Addr.add_lit]; exact hc.cells hu) (ecs_one _) (by simp only [maxLen]; omega) (by omega) hW.kp.size
  have k : Same (fun k => hv.ownBlock = some k) W w' := Same.of_grown r2 fun k hk => hk
  have hgo : hv.ownBlock ≠ some go := h.ne
  refine ⟨v', w', hr, ?_, ?_, ?_, ?_, h.le, ?_⟩
  · have s1 : SpX (fun k => XA w0 go hv k ∨ XA w0 go v' k) W p N L := hW.sp.mono fun b hb e => by
      rcases e with e | e | e | e
      · exact e
      · exact .inl e
      · exact .inr (.inl e)
      · rcases r3 with q | q
        · exact .inr (.inr (q ▸ e))
        · rw [q] at e; cases e; omega
    exact (s1.stay k fun b _ e => .inl (.inr (.inr e))).mono fun b _ e => .inr e
  · exact hW.ow.of_block (k.block _ hW.ow.lt hgo)
  · rw [List.length_append, List.length_singleton, ecs_append]; exact r1
  · intro e
    rcases r3 with q | q
    · exact hgo (q ▸ e)
    · rw [q] at e
      cases e
      have := hW.ow.lt
      omega
  · exact hW.kp.trans k fun i hi e => by have := (World.ownsRow.lt hW.hd i e).1; omega
theorem ApG.store {w0 w : World} {p go N g cap : Nat} {L : List Ex} {F : Nat → Int} {H : List Ex} (h : ApG w0 w p go N (.slice (some ⟨g, 0, none⟩) H.length cap) L F H) (k : Nat) (hk : k < H.length) (x : Ex) :
    ApG w0 ((w.setCell ⟨g, k * 2, none⟩ (.int .i64 x.f)).setCell ⟨g, k * 2 + 1, none⟩ (.int .i64 x.c)) p go N (.slice (some ⟨g, 0, none⟩) H.length cap) L F (H.set k x) := by
  obtain ⟨g', cap', e, hb, hc, hr⟩ := row_of_own h.hd (by omega)
  cases e
  have ks : Same (fun k => k = g) w ((w.setCell ⟨g, k * 2, none⟩ (.int .i64 x.f)).setCell ⟨g, k * 2 + 1, none⟩ (.int .i64 x.c)) := ((Same.refl (fun k => k = g) w).setCell _ (.inr rfl) _).setCell _ (.inr rfl) _
  have hgo : go ≠ g := fun e => h.ne (by rw [e]; rfl)
  refine ⟨h.sp.stay ks fun b _ e => .inr (.inr (by rw [e]; rfl)), h.ow.of_block (ks.block _ h.ow.lt hgo), ?_, h.ne, h.le, h.kp.trans ks fun i hi e => by omega⟩
  have := own_of_row hb hc (hr.set hk x)
  rw [List.length_set] at this ⊢
  exact this
end Go.Proofs.Ytfllilgadphlcaa
