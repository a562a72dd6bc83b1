/- What is proved: the document's forest in memory: its list of spans with keys, how two of them stand to one another, how a span is given its key; no condition. -/
import Derived.Test.YtaiaahcblohknaaYRel
import Derived.Test.YtaiaahcblohknaaYSto
import Derived.Test.YtaiaahcblohknaaYSoon
namespace Go.Proofs.Ytaiaahcblohknaa
open Go.RowKit

abbrev ksV (e : Ks) : Value := .agg #[.string e.key, .int .i64 e.s.f, .int .i64 e.s.t, .int .i64 e.s.i]
abbrev ksO (e : Ks) : Obj := .cells #[.string e.key, .int .i64 e.s.f, .int .i64 e.s.t, .int .i64 e.s.i] 58 (0, 0)
/-- The spans with keys l lie in w from address a on. -/
def KsAt (w : World) (a : Option Addr) (l : List Ks) : Prop :=
  ∀ i e, l[i]? = some e → ∃ b off, a = some ⟨b, off, none⟩ ∧ b < w.heap.size ∧ w.cell? ⟨b, off + i * 4, none⟩ = some (.string e.key) ∧ w.cell? ⟨b, off + i * 4 + 1, none⟩ = some (.int .i64 e.s.f) ∧ w.cell? ⟨b, off + i * 4 + 2, none⟩ = some (.int .i64 e.s.t) ∧ w.cell? ⟨b, off + i * 4 + 3, none⟩ = some (.int .i64 e.s.i)
theorem KsAt.nil (w : World) (a : Option Addr) : KsAt w a [] := fun i r h => by simp at h
theorem KsAt.on {w w' : World} {a : Option Addr} {l : List Ks} (h : KsAt w a l) (k : Kept w w') : KsAt w' a l := fun i r hr => by
  obtain ⟨b, off, rfl, hb, c0, c1, c2, c3⟩ := h i r hr
  have t : ∀ o, w'.cell? ⟨b, o, none⟩ = w.cell? ⟨b, o, none⟩ := fun o => k.cell (p := ⟨b, o, none⟩) hb (fun e => e)
  exact ⟨b, off, rfl, Nat.lt_of_lt_of_le hb k.size, (t _).trans c0, (t _).trans c1, (t _).trans c2, (t _).trans c3⟩
theorem Try.infoRSpan : (Try.prog.info? 58).map (fun i => (i.zero, i.size, i.bytes)) = some (some (.agg #[.string .empty, .int .i64 0, .int .i64 0, .int .i64 0]), 4, 40) := by kernel_rfl
def kc1 (e : Ks) : List Value := [.string e.key, .int .i64 e.s.f, .int .i64 e.s.t, .int .i64 e.s.i]
def kcs (l : List Ks) : List Value := l.flatMap kc1
theorem length_kcs (l : List Ks) : (kcs l).length = l.length * 4 := by
  induction l with
  | nil => rfl
  | cons a r ih => simp only [kcs, List.flatMap_cons, List.length_append, List.length_cons, kc1, List.length_nil] at *; omega
theorem kcs_cons (x : Ks) (l : List Ks) : kcs (x :: l) = kc1 x ++ kcs l := rfl
theorem kcs_append (a b : List Ks) : kcs (a ++ b) = kcs a ++ kcs b := by simp [kcs]
theorem kcs_get {l : List Ks} {i : Nat} {x : Ks} (h : l[i]? = some x) (j : Nat) (hj : j < 4) : (kcs l)[i * 4 + j]? = (kc1 x)[j]? := by
  induction l generalizing i with
  | nil => simp at h
  | cons a l ih =>
    cases i with
    | zero =>
      simp only [List.getElem?_cons_zero, Option.some.injEq] at h
      subst h
      rw [kcs_cons, Nat.zero_mul, Nat.zero_add, List.getElem?_append_left (by exact hj)]
    | succ i =>
      simp only [List.getElem?_cons_succ] at h
      rw [kcs_cons, List.getElem?_append_right (by show 4 ≤ _; omega), ← ih h]
      congr 1
      show (i + 1) * 4 + j - 4 = _
      omega
theorem kcs_one (l : List Ks) : ∀ v ∈ kcs l, v.oneCell' = true := by
  intro v hv
  obtain ⟨r, _, hf⟩ := List.mem_flatMap.1 hv
  simp only [kc1, List.mem_cons, List.not_mem_nil, or_false] at hf
  rcases hf with rfl | rfl | rfl | rfl <;> rfl
abbrev OwnK (base : Nat) (w : World) (v : Value) (l : List Ks) : Prop := w.ownsRow base 58 4 v l.length (kcs l)
theorem OwnK.nil (base : Nat) (w : World) : OwnK base w (.slice none 0 0) [] := World.ownsRow_nil w base 58 4
theorem OwnK.kept {S : Nat → Prop} {base : Nat} {w w' : World} {v : Value} {l : List Ks} (h : OwnK base w v l) (hs : Same S w w') (hn : ∀ k, v.ownBlock = some k → ¬ S k) : OwnK base w' v l := by
  refine ⟨h.1, ?_⟩
  rcases h.2 with h2 | ⟨g, cap, cur, rfl, hb, hg, h1, h2, h3, h4⟩
  · exact .inl h2
  · exact .inr ⟨g, cap, cur, rfl, hb, (hs.block g (lt_of_heap hg) (hn g (by simp [Value.ownBlock]))).trans hg, h1, h2, h3, h4⟩
theorem OwnK.on {base : Nat} {w w' : World} {v : Value} {l : List Ks} (h : OwnK base w v l) (k : Kept w w') : OwnK base w' v l := OwnK.kept h k fun _ _ e => e
theorem OwnK.low {base base' : Nat} {w : World} {v : Value} {l : List Ks} (h : OwnK base w v l) (hb : base' ≤ base) : OwnK base' w v l := by
  refine ⟨h.1, ?_⟩
  rcases h.2 with h2 | ⟨g, cap, cur, rfl, h0, hg, h1, h2, h3, h4⟩
  · exact .inl h2
  · exact .inr ⟨g, cap, cur, rfl, Nat.le_trans hb h0, hg, h1, h2, h3, h4⟩
theorem OwnK.block {base : Nat} {w : World} {v : Value} {l : List Ks} (h : OwnK base w v l) {k : Nat} (hk : v.ownBlock = some k) : base ≤ k ∧ ∃ cur, w.heap[k]? = some (.cells cur 58 (0, 0)) := by
  rcases h.2 with ⟨rfl, _⟩ | ⟨g, cap, cur, rfl, hb, hg, h1, h2, h3, h4⟩
  · simp [Value.ownBlock] at hk
  · simp [Value.ownBlock] at hk
    subst hk
    exact ⟨hb, cur, hg⟩
theorem OwnK.at {base : Nat} {w : World} {v : Value} {l : List Ks} (h : OwnK base w v l) : ∃ a cap, v = .slice a l.length cap ∧ KsAt w a l ∧ l.length ≤ cap := by
  rcases h.2 with ⟨rfl, hn⟩ | ⟨g, cap, cur, rfl, hb, hg, h1, h2, h3, h4⟩
  · have : l = [] := List.eq_nil_of_length_eq_zero (by omega)
    subst this
    exact ⟨none, 0, rfl, KsAt.nil _ _, Nat.le_refl _⟩
  · refine ⟨_, cap, rfl, fun i r hr => ⟨g, 0, rfl, lt_of_heap hg, ?_⟩, h1⟩
    have hi := (List.getElem?_eq_some_iff.1 hr).1
    have hget : ∀ j, j < 4 → w.cell? ⟨g, 0 + i * 4 + j, none⟩ = (kc1 r)[j]? := fun j hj => by
      rw [cell_of hg, Nat.zero_add, ← kcs_get hr j hj, ← h4, List.getElem?_take_of_lt (by omega)]
      simp
    exact ⟨hget 0 (by decide), hget 1 (by decide), hget 2 (by decide), hget 3 (by decide)⟩
/-- One more behind a list of one's own. -/
theorem app_ks {w : World} {base g : Nat} {v : Value} {xs : List Ks} (e : Ks) (hown : OwnK base w v xs) (hg : w.heap[g]? = some (ksO e)) (hb : xs.length + 1 ≤ 5000000000000) (hbase : base ≤ w.heap.size) (ty : TypeId) :
    ∃ v' w', (Builtin.append_ #[27, 27] ty #[v, .slice (some ⟨g, 0, none⟩) 1 1]).run Try.prog w = .ok v' w' ∧ OwnK base w' v' (xs ++ [e]) ∧ Same (fun k => v.ownBlock = some k) w w' ∧ ∀ k, v'.ownBlock = some k → v.ownBlock = some k ∨ w.heap.size ≤ k := by
  obtain ⟨v', w', hr, r1, r2, r3, -⟩ := app_wide (P := Try.prog) (t := 27) (ty := ty) (c := 1) (m := 1) (a := ⟨g, 0, none⟩) Try.underlying27 Try.infoRSpan rfl (by decide) hown (length_kcs [e])
    (fun j u hu => by
      rw [Addr.add_lit, Nat.zero_add, cell_of hg]
      rw [show kcs [e] = kc1 e from List.append_nil _] at hu
      simpa [kc1] using hu) (kcs_one _) (by unfold maxLen; omega) (by omega) hbase
  rw [← kcs_append] at r1
  exact ⟨v', w', hr, by rw [OwnK, List.length_append]; exact r1, r2, r3⟩
/-- One more behind a list that was made since w. -/
theorem app_since {w wr : World} {v : Value} {xs : List Ks} (e : Ks) (hown : OwnK w.heap.size wr v xs) (kk : Kept w wr) (hb : xs.length + 1 ≤ 5000000000000) (W : World) (kw : Kept wr W) {g : Nat} (hg : W.heap[g]? = some (ksO e)) (ty : TypeId) :
    ∃ v' w', (Builtin.append_ #[27, 27] ty #[v, .slice (some ⟨g, 0, none⟩) 1 1]).run Try.prog W = .ok v' w' ∧ (OwnK w.heap.size w' v' (xs ++ [e]) ∧ (∃ a' n' c', v' = .slice a' n' c') ∧ Kept w w' ∧ Same (fun k => v.ownBlock = some k) W w') := by
  obtain ⟨v', w', hr, r1, r2, -⟩ := app_ks e (hown.on kw) hg hb (Same.trans' kk kw).size ty
  obtain ⟨a', c', rfl, -⟩ := OwnK.at r1
  exact ⟨_, w', hr, r1, ⟨a', _, c', rfl⟩, Same.trans (Same.trans' kk kw) r2 (fun q hq hq' => by have := (OwnK.block hown hq').1; omega), r2⟩
/-- The document's forest in memory: G: its blocks. -/
structure RFo (G : Nat → Prop) (w : World) (rb : Nat) (A : List Ks) : Prop where
  ex : ∃ v, w.heap[rb]? = some (.cells #[v] 29 (0, 0)) ∧ OwnK 0 w v A ∧ ∀ k, v.ownBlock = some k → G k
  g : G rb
  lt : ∀ k, G k → k < w.heap.size
theorem RFo.off {G : Nat → Prop} {w w' : World} {rb : Nat} {A : List Ks} (h : RFo G w rb A) {S : Nat → Prop} (hs : Same S w w') (hd : ∀ b, G b → ¬ S b) : RFo G w' rb A := by
  obtain ⟨v, h1, h2, h3⟩ := h.ex
  exact ⟨⟨v, (hs.block _ (lt_of_heap h1) (hd _ h.g)).trans h1, OwnK.kept h2 hs (fun k hk => hd _ (h3 k hk)), h3⟩, h.g, fun k hk => Nat.lt_of_lt_of_le (h.lt k hk) hs.size⟩
theorem RFo.on {G : Nat → Prop} {w w' : World} {rb : Nat} {A : List Ks} (h : RFo G w rb A) (hs : Kept w w') : RFo G w' rb A := h.off hs fun _ _ e => e
/-- What a step on it leaves. -/
def RStp (G : Nat → Prop) (w : World) (rb : Nat) (A' : List Ks) (w' : World) : Prop := ∃ G', RFo G' w' rb A' ∧ (∀ b, G' b → G b ∨ w.heap.size ≤ b) ∧ Same G w w'
theorem RStp.stays {G : Nat → Prop} {w w' : World} {rb : Nat} {A : List Ks} (h : RFo G w rb A) (k : Kept w w') : RStp G w rb A w' := ⟨G, h.on k, fun _ hb => .inl hb, k.to G⟩
/-- A list made since is laid in the old one's place. -/
theorem RFo.lay {G : Nat → Prop} {w wr : World} {rb : Nat} {A B : List Ks} (h : RFo G w rb A) (kk : Kept w wr) {v : Value} (ho : OwnK w.heap.size wr v B) : (∃ u, wr.cell? ⟨rb, 0, none⟩ = some u) ∧ wr.frozen? ⟨rb, 0, none⟩ = false ∧ rb < wr.heap.size ∧ RStp G w rb B (wr.setCell ⟨rb, 0, none⟩ v) := by
  obtain ⟨u, h1, h2, h3⟩ := (h.on kk).ex
  refine ⟨⟨u, (cell_of h1 0).trans rfl⟩, frozen_of h1 0, lt_of_heap h1, fun k => G k ∨ v.ownBlock = some k, ⟨⟨v, by simpa using setCell_at h1 0 v, ?_, fun k hk => .inr hk⟩, .inl h.g, fun k hk => ?_⟩, fun k hk => ?_, ?_⟩
  · refine OwnK.kept (ho.low (Nat.zero_le _)) (Same.setCell (S := fun q => q = rb) (Same.refl _ wr) ⟨rb, 0, none⟩ (.inr rfl) v) (fun q hq e9 => ?_)
    obtain ⟨_, cur, hc⟩ := OwnK.block ho hq
    rw [e9, h1] at hc
    cases hc
  · rw [show (wr.setCell ⟨rb, 0, none⟩ v).heap.size = wr.heap.size by simp [World.setCell]]
    rcases hk with hk | hk
    · exact (h.on kk).lt k hk
    · obtain ⟨_, cur, hc⟩ := OwnK.block ho hk
      exact lt_of_heap hc
  · rcases hk with hk | hk
    · exact .inl hk
    · exact .inr (OwnK.block ho hk).1
  · exact Same.setCell (Kept.to kk G) ⟨rb, 0, none⟩ (.inr h.g) v
theorem ks_obj {w : World} {b : Nat} {p q r s : Value} {ty : TypeId} (h : w.heap[b]? = some (.cells #[p, q, r, s] ty (0, 0))) :
    w.cell? ⟨b, 0, none⟩ = some p ∧ w.cell? ⟨b, 1, none⟩ = some q ∧ w.cell? ⟨b, 2, none⟩ = some r ∧ w.cell? ⟨b, 3, none⟩ = some s :=
  ⟨(cell_of h 0).trans rfl, (cell_of h 1).trans rfl, (cell_of h 2).trans rfl, (cell_of h 3).trans rfl⟩
theorem loadVar_ks {w : World} {b : Nat} {e : Ks} (h : w.heap[b]? = some (ksO e)) : (loadVar 58 ⟨b, 0, none⟩).run Try.prog w = .ok (ksV e) w := by
  obtain ⟨c0, c1, c2, c3⟩ := ks_obj h
  clear h
  unfold ksV
  go_simp
set_option maxRecDepth 100000 in
set_option maxHeartbeats 800000 in
theorem ahead14 (a b : Ks) (w : World) : Calls Try.prog 35 #[ksV a, ksV b] w fun e w' => e = .returned (.bool (sl a.s b.s)) ∧ Kept w w' := by
  have HR : Hid (∀ z : Bool, (z = true ↔ (a.s.f < b.s.f ∨ (a.s.f = b.s.f ∧ (a.s.t < b.s.t ∨ (a.s.t = b.s.t ∧ a.s.i < b.s.i))))) → sl a.s b.s = z) := fun z hz => by
    unfold sl
    cases z
    · exact decide_eq_false fun h => by have := hz.2 h; cases this
    · exact decide_eq_true (hz.1 rfl)
  obtain ⟨ak, af, at_, ai⟩ := a
  obtain ⟨bk, bf, bt, bi⟩ := b
  unfold ksV
  simp only at HR ⊢
  generalize sl _ _ = r at HR ⊢
  go_enter Try.func35, Try.ntmps35
  go_wp2_with fail
  all_goals (go_ret; refine ⟨?_, ((Same.refl _ w).alloc _).alloc _⟩; refine congrArg (fun z => Ending.returned (Value.bool z)) (HR.out _ ?_).symm)
  all_goals (try simp only [decide_eq_true_eq])
  all_goals (simp only [bne_iff_ne, ne_eq, bne_eq_false_iff_eq] at *; omega)
set_option maxRecDepth 100000 in
theorem with14 (k : ByteArray) (x : Sp) (w : World) : Calls Try.prog 19 #[.string k, spV x] w fun e w' => e = .returned (ksV ⟨k, x⟩) ∧ Kept w w' := by
  obtain ⟨xf, xt, xi⟩ := x
  unfold spV ksV
  simp only
  go_enter Try.func19, Try.ntmps19
  go_wp2_with fail
  have h2 := heap_new (w.alloc (spO ⟨xf, xt, xi⟩)) (ksO ⟨k, ⟨xf, xt, xi⟩⟩)
  rw [World.size_alloc] at h2
  refine bodyPost_ret (results_c (a := 4) (t := 58) rfl rfl (loadVar_ks (e := ⟨k, ⟨xf, xt, xi⟩⟩) h2)) rfl ?_
  exact ⟨rfl, ((Same.refl _ w).alloc _).alloc _⟩
end Go.Proofs.Ytaiaahcblohknaa
