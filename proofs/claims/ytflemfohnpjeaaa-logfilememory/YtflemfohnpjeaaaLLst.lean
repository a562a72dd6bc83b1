/- What is proved: a transaction more behind a list of one's own; lists of transactions whose operations lie apart of them; the bounds that a machine's memory sets. -/
import Derived.Test.YtflemfohnpjeaaaLTxs
namespace Go.Proofs.Ytflemfohnpjeaaa
open Go.RowKit

theorem Try.infoTxn : (Try.prog.info? 40).map (fun i => (i.zero, i.size, i.bytes)) = some (some (.agg txz), 8, 80) := by kernel_rfl
def TxR.obj (r : TxR) : Obj := .cells #[.int .i64 r.t.f0, .int .i64 r.t.f1, .int .i64 r.t.f2, .int .i64 r.t.f3, .int .i64 r.t.f4, .int .i64 r.t.f5, .int .i64 r.t.f6, .slice r.a r.t.ops.length r.c] 40 (0, 0)
/-- The operations of a transaction, as a value. -/
def TxR.sl (r : TxR) : Value := .slice r.a r.t.ops.length r.c
/-- One transaction more behind a row of one's own. -/
theorem app_tx_one {w : World} {base : Nat} {v : Value} {xs : List TxR} (r : TxR) (hown : OwnT base w v xs) (hb : xs.length ≤ 5000) (hbase : base ≤ w.heap.size) (ty : TypeId) :
    ∃ v' w', (Builtin.append_ #[22, 22] ty #[v, .slice (some ⟨w.heap.size, 0, none⟩) 1 1]).run Try.prog (w.alloc r.obj) = .ok v' w' ∧ OwnT base w' v' (xs ++ [r]) ∧ Same (fun k => v.ownBlock = some k) w w' ∧ ∀ k, v'.ownBlock = some k → v.ownBlock = some k ∨ w.heap.size ≤ k := by
  obtain ⟨i0, hi0, hz0, hz1, hz2⟩ := info_parts Try.infoTxn
  have k0 : Kept w (w.alloc r.obj) := (Same.refl _ w).alloc _
  have ho := OwnT.on hown k0
  obtain ⟨v', w', hr, r1, r2, _, r3⟩ := run_append_own_at (P := Try.prog) (w := w.alloc r.obj) base 22 ty 40 i0 _ 8 80 Try.underlying22 hi0 hz0 hz1 hz2 rfl (by decide) v xs.length _ ho ⟨w.heap.size, 0, none⟩ 1 1 (txc [r]) (length_txc [r])
    (fun j u hu => txs_new w r _ j u hu) (txc_one _) (by unfold maxLen; omega) (by omega) (by simp [World.size_alloc]; omega)
  rw [← txc_append] at r1
  refine ⟨v', w', hr, by rw [OwnT, List.length_append]; exact r1, (Kept.to k0 _).trans' (Same.of_grown r2 (fun k e => e)), fun k hk => ?_⟩
  rcases r3 with e | e
  · exact .inl (e ▸ hk)
  · rw [e] at hk
    cases hk
    rw [World.size_alloc]
    exact .inr (by omega)
/-- The blocks of a list of transactions. -/
def InL (v : Value) (l : List TxR) (k : Nat) : Prop := v.ownBlock = some k ∨ ∃ r ∈ l, r.sl.ownBlock = some k
/-- A list of transactions of one's own, the operations apart of it. -/
structure Lst (base : Nat) (w : World) (v : Value) (l : List TxR) : Prop where
  row : OwnT base w v l
  ops : ∀ r ∈ l, OwnO base w r.sl r.t.ops
  ne : ∀ r ∈ l, ∀ k, r.sl.ownBlock = some k → v.ownBlock ≠ some k
  ap : l.Pairwise fun r r' => ∀ k, r.sl.ownBlock = some k → r'.sl.ownBlock ≠ some k
section
variable {base : Nat} {w w' : World} {v : Value} {l : List TxR}
theorem Lst.nil (base : Nat) (w : World) : Lst base w (.slice none 0 0) [] := ⟨OwnT.nil _ _, fun r h => (by cases h), fun r h => (by cases h), .nil⟩
theorem Lst.block (h : Lst base w v l) {k : Nat} (hk : InL v l k) : base ≤ k ∧ k < w.heap.size := by
  rcases hk with hk | ⟨r, hr, hk⟩
  · exact h.row.block hk
  · exact (h.ops r hr).block hk
theorem Lst.kept {S : Nat → Prop} (h : Lst base w v l) (hs : Same S w w') (hn : ∀ k, InL v l k → ¬ S k) : Lst base w' v l :=
  ⟨h.row.kept hs fun k hk => hn k (.inl hk), fun r hr => (h.ops r hr).kept hs fun k hk => hn k (.inr ⟨r, hr, hk⟩), h.ne, h.ap⟩
theorem Lst.on (h : Lst base w v l) (hs : Kept w w') : Lst base w' v l := h.kept hs fun _ _ h => h
theorem Lst.lower {base' : Nat} (h : Lst base w v l) (hb : base' ≤ base) : Lst base' w v l := ⟨h.row.lower hb, fun r hr => (h.ops r hr).lower hb, h.ne, h.ap⟩
theorem Lst.deep (h : Lst base w v l) : Deep w l := fun r hr => by
  obtain ⟨a, c, e, o, -⟩ := OwnO.ops (h.ops r hr)
  simp only [TxR.sl, Value.slice.injEq, true_and] at e
  rw [e.1]
  exact o
/-- One more, of operations of its own. -/
theorem Lst.app {W : World} {r : TxR} {v' : Value} (h : Lst base w v l) (k1 : Kept w W) (ho : OwnO w.heap.size W r.sl r.t.ops) (hb : base ≤ w.heap.size) (hr : OwnT base w' v' (l ++ [r])) (hs : Same (fun k => v.ownBlock = some k) W w') (hv : ∀ k, v'.ownBlock = some k → v.ownBlock = some k ∨ W.heap.size ≤ k) :
    Lst base w' v' (l ++ [r]) ∧ ∀ k, InL v' (l ++ [r]) k → InL v l k ∨ w.heap.size ≤ k := by
  have hne : ∀ x ∈ l ++ [r], ∀ k, x.sl.ownBlock = some k → v.ownBlock ≠ some k ∧ k < W.heap.size ∧ (k < w.heap.size → InL v l k) := fun x hx k hk => by
    rcases List.mem_append.1 hx with hx | hx
    · have := ((h.ops x hx).block hk).2
      exact ⟨h.ne x hx k hk, Nat.lt_of_lt_of_le this k1.size, fun _ => .inr ⟨x, hx, hk⟩⟩
    · obtain rfl : x = r := by simpa using hx
      have := ho.block hk
      refine ⟨fun e => ?_, this.2, fun c => absurd c (Nat.not_lt.2 this.1)⟩
      have := (h.row.block e).2
      omega
  refine ⟨⟨hr, fun x hx => ?_, fun x hx k hk e => ?_, List.pairwise_append.2 ⟨h.ap, List.pairwise_singleton _ _, fun x hx y hy k hk e => ?_⟩⟩, fun k hk => ?_⟩
  · rcases List.mem_append.1 hx with hx' | hx'
    · exact ((h.ops x hx').on k1).kept hs fun k hk => (hne x hx k hk).1
    · obtain rfl : x = r := by simpa using hx'
      exact (ho.kept hs fun k hk => (hne x hx k hk).1).lower hb
  · obtain ⟨n1, n2, -⟩ := hne x hx k hk
    rcases hv k e with e | e
    · exact n1 e
    · omega
  · obtain rfl : y = r := by simpa using hy
    have := ((h.ops x hx).block hk).2
    have := (ho.block e).1
    omega
  · rcases hk with hk | ⟨x, hx, hk⟩
    · rcases hv k hk with e | e
      · exact .inl (.inl e)
      · exact .inr (Nat.le_trans k1.size e)
    · by_cases c : k < w.heap.size
      · exact .inl ((hne x hx k hk).2.2 c)
      · exact .inr (Nat.not_lt.1 c)
end
end Go.Proofs.Ytflemfohnpjeaaa
