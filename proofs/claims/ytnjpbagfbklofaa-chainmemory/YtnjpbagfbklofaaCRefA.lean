/- What is proved: the document's store in memory; how its versions stand to one another, and how a version is given its key and held against another; no condition. -/
import Derived.Test.YtnjpbagfbklofaaCAnch
import Derived.Test.YtnjpbagfbklofaaCTwo
namespace Go.Proofs.Ytnjpbagfbklofaa
open Go.RowKit

abbrev enV (e : En) : Value := .agg #[.string e.key, .int .i64 e.x.c, .int .i64 e.x.w, .bool e.x.f, .string e.x.v]
/-- The versions with keys A lie in w from address a on. -/
def EnsAt (w : World) (a : Option Addr) (l : List En) : Prop :=
  ∀ i e, l[i]? = some e → ∃ b off, a = some ⟨b, off, none⟩ ∧ b < w.heap.size ∧ w.cell? ⟨b, off + i * 5, none⟩ = some (.string e.key) ∧ w.cell? ⟨b, off + i * 5 + 1, none⟩ = some (.int .i64 e.x.c) ∧ w.cell? ⟨b, off + i * 5 + 2, none⟩ = some (.int .i64 e.x.w) ∧ w.cell? ⟨b, off + i * 5 + 3, none⟩ = some (.bool e.x.f) ∧ w.cell? ⟨b, off + i * 5 + 4, none⟩ = some (.string e.x.v)
theorem EnsAt.nil (w : World) (a : Option Addr) : EnsAt w a [] := fun i r h => by simp at h
theorem EnsAt.kept {S : Nat → Prop} {w w' : World} {a : Option Addr} {l : List En} (h : EnsAt w a l) (k : Same S w w') (hd : ∀ b, InB a l.length b → ¬ S b) : EnsAt w' a l := fun i r hr => by
  obtain ⟨b, off, rfl, hb, c0, c1, c2, c3, c4⟩ := h i r hr
  have t : ∀ o, w'.cell? ⟨b, o, none⟩ = w.cell? ⟨b, o, none⟩ := fun o => k.cell (p := ⟨b, o, none⟩) hb (hd b ⟨pos_of_get hr, off, rfl⟩)
  exact ⟨b, off, rfl, Nat.lt_of_lt_of_le hb k.size, (t _).trans c0, (t _).trans c1, (t _).trans c2, (t _).trans c3, (t _).trans c4⟩
theorem EnsAt.on {w w' : World} {a : Option Addr} {l : List En} (h : EnsAt w a l) (k : Kept w w') : EnsAt w' a l := h.kept k fun _ _ e => e
theorem Try.infoRVer : (Try.prog.info? 52).map (fun i => (i.zero, i.size, i.bytes)) = some (some (.agg #[.string .empty, .int .i64 0, .int .i64 0, .bool false, .string .empty]), 5, 56) := by kernel_rfl
def ec1 (e : En) : List Value := [.string e.key, .int .i64 e.x.c, .int .i64 e.x.w, .bool e.x.f, .string e.x.v]
def ecs (l : List En) : List Value := l.flatMap ec1
theorem length_ecs (l : List En) : (ecs l).length = l.length * 5 := by
  induction l with
  | nil => rfl
  | cons a r ih => simp only [ecs, List.flatMap_cons, List.length_append, List.length_cons, ec1, List.length_nil] at *; omega
theorem ecs_cons (x : En) (l : List En) : ecs (x :: l) = ec1 x ++ ecs l := rfl
theorem ecs_append (a b : List En) : ecs (a ++ b) = ecs a ++ ecs b := by simp [ecs]
theorem ecs_get {l : List En} {i : Nat} {x : En} (h : l[i]? = some x) (j : Nat) (hj : j < 5) : (ecs l)[i * 5 + j]? = (ec1 x)[j]? := by
  induction l generalizing i with
  | nil => simp at h
  | cons a l ih =>
    cases i with
    | zero =>
      simp only [List.getElem?_cons_zero, Option.some.injEq] at h
      subst h
      rw [ecs_cons, Nat.zero_mul, Nat.zero_add, List.getElem?_append_left (by exact hj)]
    | succ i =>
      simp only [List.getElem?_cons_succ] at h
      rw [ecs_cons, List.getElem?_append_right (by show 5 ≤ _; omega), ← ih h]
      congr 1
      show (i + 1) * 5 + j - 5 = _
      omega
theorem ecs_one (l : List En) : ∀ v ∈ ecs l, v.oneCell' = true := by
  intro v hv
  obtain ⟨r, _, hf⟩ := List.mem_flatMap.1 hv
  simp only [ec1, List.mem_cons, List.not_mem_nil, or_false] at hf
  rcases hf with rfl | rfl | rfl | rfl | rfl <;> rfl
abbrev OwnE (base : Nat) (w : World) (v : Value) (l : List En) : Prop := w.ownsRow base 52 5 v l.length (ecs l)
theorem OwnE.nil (base : Nat) (w : World) : OwnE base w (.slice none 0 0) [] := World.ownsRow_nil w base 52 5
theorem OwnE.kept {S : Nat → Prop} {base : Nat} {w w' : World} {v : Value} {l : List En} (h : OwnE base w v l) (hs : Same S w w') (hn : ∀ k, v.ownBlock = some k → ¬ S k) : OwnE base w' v l := by
  refine ⟨h.1, ?_⟩
  rcases h.2 with h2 | ⟨g, cap, cur, rfl, hb, hg, h1, h2, h3, h4⟩
  · exact .inl h2
  · exact .inr ⟨g, cap, cur, rfl, hb, (hs.block g (lt_of_heap hg) (hn g (by simp [Value.ownBlock]))).trans hg, h1, h2, h3, h4⟩
theorem OwnE.on {base : Nat} {w w' : World} {v : Value} {l : List En} (h : OwnE base w v l) (k : Kept w w') : OwnE base w' v l := OwnE.kept h k fun _ _ e => e
theorem OwnE.block {base : Nat} {w : World} {v : Value} {l : List En} (h : OwnE base w v l) {k : Nat} (hk : v.ownBlock = some k) : base ≤ k ∧ ∃ cur, w.heap[k]? = some (.cells cur 52 (0, 0)) := by
  rcases h.2 with ⟨rfl, _⟩ | ⟨g, cap, cur, rfl, hb, hg, h1, h2, h3, h4⟩
  · simp [Value.ownBlock] at hk
  · simp [Value.ownBlock] at hk
    subst hk
    exact ⟨hb, cur, hg⟩
theorem OwnE.ens {base : Nat} {w : World} {v : Value} {l : List En} (h : OwnE base w v l) : ∃ a cap, v = .slice a l.length cap ∧ EnsAt w a l ∧ l.length ≤ cap := by
  rcases h.2 with ⟨rfl, hn⟩ | ⟨g, cap, cur, rfl, hb, hg, h1, h2, h3, h4⟩
  · have : l = [] := List.eq_nil_of_length_eq_zero (by omega)
    subst this
    exact ⟨none, 0, rfl, EnsAt.nil _ _, Nat.le_refl _⟩
  · refine ⟨_, cap, rfl, fun i r hr => ⟨g, 0, rfl, lt_of_heap hg, ?_⟩, h1⟩
    have hi := (List.getElem?_eq_some_iff.1 hr).1
    have hget : ∀ j, j < 5 → w.cell? ⟨g, 0 + i * 5 + j, none⟩ = (ec1 r)[j]? := fun j hj => by
      rw [cell_of hg, Nat.zero_add, ← ecs_get hr j hj, ← h4, List.getElem?_take_of_lt (by omega)]
      simp
    exact ⟨hget 0 (by decide), hget 1 (by decide), hget 2 (by decide), hget 3 (by decide), hget 4 (by decide)⟩
/-- One more behind a list of one's own. -/
theorem app_en_at {w : World} {base g : Nat} {v : Value} {xs : List En} (e : En) (hown : OwnE base w v xs) (hg : w.heap[g]? = some (.cells #[.string e.key, .int .i64 e.x.c, .int .i64 e.x.w, .bool e.x.f, .string e.x.v] 52 (0, 0))) (hb : xs.length + 1 ≤ 3909374676537) (hbase : base ≤ w.heap.size) (ty : TypeId) :
    ∃ v' w', (Builtin.append_ #[27, 27] ty #[v, .slice (some ⟨g, 0, none⟩) 1 1]).run Try.prog w = .ok v' w' ∧ OwnE base w' v' (xs ++ [e]) ∧ Same (fun k => v.ownBlock = some k) w w' ∧ ∀ k, v'.ownBlock = some k → v.ownBlock = some k ∨ w.heap.size ≤ k := by
  obtain ⟨v', w', hr, r1, r2, r3, -⟩ := app_wide (P := Try.prog) (t := 27) (ty := ty) (c := 1) (m := 1) (a := ⟨g, 0, none⟩) Try.underlying27 Try.infoRVer rfl (by decide) hown (length_ecs [e])
    (fun j u hu => by
      rw [Addr.add_lit, Nat.zero_add, cell_of hg]
      rw [show ecs [e] = ec1 e from List.append_nil _] at hu
      simpa [ec1] using hu) (ecs_one _) (by unfold maxLen; omega) (by omega) hbase
  rw [← ecs_append] at r1
  exact ⟨v', w', hr, by rw [OwnE, List.length_append]; exact r1, r2, r3⟩
/-- The document's store in memory: G: its blocks. -/
structure RSt (G : Nat → Prop) (w : World) (rb : Nat) (A : List En) : Prop where
  ex : ∃ v, w.heap[rb]? = some (.cells #[v] 29 (0, 0)) ∧ OwnE 0 w v A ∧ ∀ k, v.ownBlock = some k → G k
  g : G rb
  lt : ∀ k, G k → k < w.heap.size
theorem RSt.off {G : Nat → Prop} {w w' : World} {rb : Nat} {A : List En} (h : RSt G w rb A) {S : Nat → Prop} (hs : Same S w w') (hd : ∀ b, G b → ¬ S b) : RSt G w' rb A := by
  obtain ⟨v, h1, h2, h3⟩ := h.ex
  exact ⟨⟨v, (hs.block _ (lt_of_heap h1) (hd _ h.g)).trans h1, OwnE.kept h2 hs (fun k hk => hd _ (h3 k hk)), h3⟩, h.g, fun k hk => Nat.lt_of_lt_of_le (h.lt k hk) hs.size⟩
theorem RSt.on {G : Nat → Prop} {w w' : World} {rb : Nat} {A : List En} (h : RSt G w rb A) (hs : Kept w w') : RSt G w' rb A := h.off hs fun _ _ e => e
theorem en_obj {w : World} {b : Nat} {p q r s t : Value} {ty : TypeId} (h : w.heap[b]? = some (.cells #[p, q, r, s, t] ty (0, 0))) :
    (w.cell? ⟨b, 0, none⟩ = some p ∧ w.cell? ⟨b, 1, none⟩ = some q ∧ w.cell? ⟨b, 2, none⟩ = some r ∧ w.cell? ⟨b, 3, none⟩ = some s ∧ w.cell? ⟨b, 4, none⟩ = some t) ∧ w.frozen? ⟨b, 0, none⟩ = false ∧ w.frozen? ⟨b, 1, none⟩ = false ∧ w.frozen? ⟨b, 2, none⟩ = false ∧ w.frozen? ⟨b, 3, none⟩ = false ∧ w.frozen? ⟨b, 4, none⟩ = false :=
  ⟨⟨(cell_of h 0).trans rfl, (cell_of h 1).trans rfl, (cell_of h 2).trans rfl, (cell_of h 3).trans rfl, (cell_of h 4).trans rfl⟩, frozen_of h 0, frozen_of h 1, frozen_of h 2, frozen_of h 3, frozen_of h 4⟩
theorem loadVar_en {w : World} {b : Nat} {e : En} (h : w.heap[b]? = some (.cells #[.string e.key, .int .i64 e.x.c, .int .i64 e.x.w, .bool e.x.f, .string e.x.v] 52 (0, 0))) : (loadVar 52 ⟨b, 0, none⟩).run Try.prog w = .ok (enV e) w := by
  obtain ⟨⟨c0, c1, c2, c3, c4⟩, -⟩ := en_obj h
  clear h
  unfold enV
  go_simp
theorem put5 {W : World} {g : Nat} {p q r s t : Value} {ty : TypeId} (h : W.heap[g]? = some (.cells #[p, q, r, s, t] ty (0, 0))) (a b c d e : Value) :
    (((((W.setCell ⟨g, 0, none⟩ a).setCell ⟨g, 1, none⟩ b).setCell ⟨g, 2, none⟩ c).setCell ⟨g, 3, none⟩ d).setCell ⟨g, 4, none⟩ e).heap[g]? = some (.cells #[a, b, c, d, e] ty (0, 0)) := by
  have h5 := setCell_at (setCell_at (setCell_at (setCell_at (setCell_at h 0 a) 1 b) 2 c) 3 d) 4 e
  simpa using h5
theorem put5_same {S : Nat → Prop} {w W : World} (k : Same S w W) {g : Nat} (hg : w.heap.size ≤ g ∨ S g) (a b c d e : Value) : Same S w (((((W.setCell ⟨g, 0, none⟩ a).setCell ⟨g, 1, none⟩ b).setCell ⟨g, 2, none⟩ c).setCell ⟨g, 3, none⟩ d).setCell ⟨g, 4, none⟩ e) :=
  Same.setCell (Same.setCell (Same.setCell (Same.setCell (Same.setCell k ⟨g, 0, none⟩ hg a) ⟨g, 1, none⟩ hg b) ⟨g, 2, none⟩ hg c) ⟨g, 3, none⟩ hg d) ⟨g, 4, none⟩ hg e
theorem results_c {fn : Func} {a t : Nat} {P : Program} {w : World} {tmps : Array Value} {ad : Addr} {v : Value} (h : fn.results = #[.cell a t]) (ha : tmps.getD a undef = .pointer (some ad)) (hv : (loadVar t ad).run P w = .ok v w) : (results fn tmps).run P w = .ok v w := by
  have ha' : tmps[a]?.getD undef = .pointer (some ad) := by simpa using ha
  simp [results, h, ha', asAddr, hv]

set_option maxRecDepth 100000 in
set_option maxHeartbeats 800000 in
theorem above_any (a b : En) (w : World) : Calls Try.prog 35 #[enV a, enV b] w fun e w' => e = .returned (.bool (gt a.x b.x)) ∧ Kept w w' := by
  have HR : Hid (∀ z : Bool, (z = true ↔ (b.x.c < a.x.c ∨ (a.x.c = b.x.c ∧ b.x.w < a.x.w))) → gt a.x b.x = z) := fun z hz => by
    unfold gt
    cases z
    · exact decide_eq_false fun h => by have := hz.2 h; cases this
    · exact decide_eq_true (hz.1 rfl)
  obtain ⟨ak, ac, aw, af, av⟩ := a
  obtain ⟨bk, bc, bw, bf, bv⟩ := b
  unfold enV
  simp only at HR ⊢
  generalize gt _ _ = r at HR ⊢
  go_enter Try.func35, Try.ntmps35
  go_wp2_with fail
  all_goals (go_ret; refine ⟨?_, ((Same.refl _ w).alloc _).alloc _⟩; refine congrArg (fun z => Ending.returned (Value.bool z)) (HR.out _ ?_).symm)
  all_goals (try simp only [decide_eq_true_eq, true_iff])
  all_goals omega
set_option maxRecDepth 100000 in
theorem with_any (k : ByteArray) (x : Vn) (w : World) : Calls Try.prog 22 #[.string k, verV x] w fun e w' => e = .returned (enV ⟨k, x⟩) ∧ Kept w w' := by
  obtain ⟨xc, xw, xf, xv⟩ := x
  unfold verV enV
  simp only
  go_enter Try.func22, Try.ntmps22
  go_wp2_with fail
  have h2 := heap_new (w.alloc (.cells #[.int .i64 xc, .int .i64 xw, .bool xf, .string xv] 31 (0, 0))) (.cells #[.string k, .int .i64 xc, .int .i64 xw, .bool xf, .string xv] 52 (0, 0))
  rw [World.size_alloc] at h2
  refine bodyPost_ret (results_c (a := 4) (t := 52) rfl rfl (loadVar_en (e := ⟨k, ⟨xc, xw, xf, xv⟩⟩) h2)) rfl ?_
  exact ⟨rfl, ((Same.refl _ w).alloc _).alloc _⟩
set_option maxRecDepth 100000 in
set_option maxHeartbeats 800000 in
theorem like_any (x : Vn) (k : ByteArray) (w : World) : Calls Try.prog 25 #[verV x, enV ⟨k, x⟩] w fun e w' => e = .returned (.bool true) ∧ Kept w w' := by
  obtain ⟨xc, xw, xf, xv⟩ := x
  unfold verV enV
  simp only
  go_enter Try.func25, Try.ntmps25
  go_wp2_with fail
  go_ret
  exact ⟨rfl, ((Same.refl _ w).alloc _).alloc _⟩
end Go.Proofs.Ytnjpbagfbklofaa
