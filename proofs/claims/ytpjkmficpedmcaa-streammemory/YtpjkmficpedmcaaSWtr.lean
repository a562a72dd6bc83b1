/- What is proved: refuse, room, Size, Create and fail of a writer; the writer, its device and its space lie in memory. -/
import Derived.Test.YtpjkmficpedmcaaSSpc
import Derived.Test.YtpjkmficpedmcaaSRead
import Derived.Laws.OwnMore
namespace Go.Proofs.Ytpjkmficpedmcaa
open Go.RowKit

def nvs (l : List Int) : List Value := l.map (Value.int .i64)
theorem length_nvs (l : List Int) : (nvs l).length = l.length := by simp [nvs]
theorem nvs_get (l : List Int) (i : Nat) : (nvs l)[i]? = l[i]?.map (Value.int .i64) := by simp [nvs]
theorem nvs_one (l : List Int) : ∀ v ∈ nvs l, v.oneCell' = true := by
  intro v hv
  obtain ⟨x, _, rfl⟩ := List.mem_map.1 hv
  rfl
theorem nvs_append (a b : List Int) : nvs (a ++ b) = nvs a ++ nvs b := by simp [nvs]
theorem Try.infoInt : (Try.prog.info? 3).map (fun i => (i.zero, i.size, i.bytes)) = some (some (.int .i64 0), 1, 8) := by kernel_rfl
/-- A row of ints of one's own. -/
abbrev OwnI (base : Nat) (w : World) (v : Value) (l : List Int) : Prop := w.ownsRow base 3 1 v l.length (nvs l)
theorem OwnI.nums {base : Nat} {w : World} {v : Value} {l : List Int} (h : OwnI base w v l) : ∃ a cap, v = .slice a l.length cap ∧ NumsAt w a l ∧ l.length ≤ cap ∧ (a = none → l.length = 0 ∧ cap = 0) ∧ ∀ k, InB a l.length k → v.ownBlock = some k := by
  have hl := h.1
  rcases h.2 with ⟨rfl, hn⟩ | ⟨g, cap, cur, rfl, hb, hg, h1, h2, h3, h4⟩
  · have : l = [] := List.eq_nil_of_length_eq_zero (by omega)
    subst this
    exact ⟨none, 0, rfl, NumsAt.nil _ _, Nat.le_refl _, fun _ => ⟨rfl, rfl⟩, fun k hk => absurd hk.1 (by simp)⟩
  · refine ⟨_, cap, rfl, fun i x hx => ⟨g, 0, rfl, lt_of_heap hg, ?_⟩, h1, (fun e => by cases e), fun k hk => by obtain ⟨_, off, e⟩ := hk; cases e; rfl⟩
    have hi := (List.getElem?_eq_some_iff.1 hx).1
    rw [cell_of hg, Nat.zero_add]
    have : (cur.toList.take (l.length * 1))[i]? = some (.int .i64 x) := by rw [h4, nvs_get, hx]; rfl
    rw [List.getElem?_take_of_lt (by omega)] at this
    simpa using this
theorem own_kept {S : Nat → Prop} {base n : Nat} {e : TypeId} {w w' : World} {v : Value} {l : List Value} (h : w.ownsRow base e 1 v n l) (hs : Same S w w') (hn : ∀ k, v.ownBlock = some k → ¬ S k) : w'.ownsRow base e 1 v n l := by
  refine ⟨h.1, ?_⟩
  rcases h.2 with h2 | ⟨g, cap, cur, rfl, hb, hg, h1, h2, h3, h4⟩
  · exact .inl h2
  · exact .inr ⟨g, cap, cur, rfl, hb, (hs.block g (lt_of_heap hg) (hn g (by simp [Value.ownBlock]))).trans hg, h1, h2, h3, h4⟩
theorem own_lt {base n : Nat} {e : TypeId} {w : World} {v : Value} {l : List Value} (h : w.ownsRow base e 1 v n l) {k : Nat} (hk : v.ownBlock = some k) : k < w.heap.size ∧ ∃ cur, w.heap[k]? = some (.cells cur e (0, 0)) := by
  rcases h.2 with ⟨rfl, _⟩ | ⟨g, cap, cur, rfl, hb, hg, h1, h2, h3, h4⟩
  · simp [Value.ownBlock] at hk
  · simp [Value.ownBlock] at hk
    subst hk
    exact ⟨lt_of_heap hg, cur, hg⟩
/-- One int more behind a row of one's own. -/
theorem app_num {w : World} {v : Value} {xs : List Int} (x : Int) (hown : OwnI 0 w v xs) (hb : xs.length + 1 ≤ 1099511627776) (ty : TypeId) :
    ∃ v' w', (Builtin.append_ #[37, 37] ty #[v, .slice (some ⟨w.heap.size, 0, none⟩) 1 1]).run Try.prog (w.alloc (.cells #[.int .i64 x] 3)) = .ok v' w' ∧ OwnI 0 w' v' (xs ++ [x]) ∧ Same (fun k => v.ownBlock = some k) w w' ∧ ∀ k, v'.ownBlock = some k → v.ownBlock = some k ∨ w.heap.size ≤ k := by
  obtain ⟨i0, hi0, hz0, hz1, hz2⟩ := info_parts Try.infoInt
  have k0 : Kept w (w.alloc (.cells #[.int .i64 x] 3)) := (Same.refl _ w).alloc _
  have ho := own_kept hown k0 (fun _ _ h => h)
  obtain ⟨v', w', hr, r1, r2, _, r3⟩ := run_append_own_at (P := Try.prog) (w := w.alloc (.cells #[.int .i64 x] 3)) 0 37 ty 3 i0 _ 1 8 Try.underlying37 hi0 hz0 hz1 hz2 rfl (by decide) v xs.length _ ho ⟨w.heap.size, 0, none⟩ 1 1 (nvs [x]) (length_nvs [x])
    (fun j u hu => by
      have hj := (List.getElem?_eq_some_iff.1 hu).1
      rw [length_nvs] at hj
      have : j = 0 := by simp at hj; omega
      subst this
      rw [Addr.add_lit, Nat.add_zero, cell_of (heap_new w (.cells #[.int .i64 x] 3)) 0]
      simpa [nvs] using hu) (nvs_one _) (by unfold maxLen; omega) (by omega) (Nat.zero_le _)
  rw [← nvs_append] at r1
  refine ⟨v', w', hr, by rw [OwnI, List.length_append]; exact r1, (Kept.to k0 _).trans' (Same.of_grown r2 (fun k e => e)), fun k hk => ?_⟩
  rcases r3 with e | e
  · exact .inl (e ▸ hk)
  · rw [e] at hk
    cases hk
    rw [World.size_alloc]
    exact .inr (by omega)

def wrO (p : Pl) (sp : Nat) (bv gv : Value) (sz : Nat) (cl : Bool) (br : Int) : Obj :=
  .cells #[.pointer (some ⟨p.db, 0, none⟩), .pointer (some ⟨sp, 0, none⟩), bv, gv, .int .i64 sz, .bool cl, .int .i64 br] 67 (0, 0)
/-- A writer in memory: its blocks have the tag t. -/
structure WtrAt (o : Nat → Nat) (t : Nat) (w : World) (p : Pl) (sp wb : Nat) (bl bg : List Int) (sz : Nat) (cl : Bool) (br : Int) (bv gv : Value) : Prop where
  obj : w.heap[wb]? = some (wrO p sp bv gv sz cl br)
  tag : o wb = t
  brow : OwnI 0 w bv bl
  btag : ∀ k, bv.ownBlock = some k → o k = t
  grow : OwnB8 0 w gv bg
  gtag : ∀ k, gv.ownBlock = some k → o k = t
theorem WtrAt.ne {o : Nat → Nat} {t : Nat} {w : World} {p : Pl} {sp wb : Nat} {bl bg : List Int} {sz : Nat} {cl : Bool} {br : Int} {bv gv : Value} (h : WtrAt o t w p sp wb bl bg sz cl br bv gv) :
    (∀ k, bv.ownBlock = some k → k ≠ wb ∧ gv.ownBlock ≠ some k) ∧ ∀ k, gv.ownBlock = some k → k ≠ wb ∧ bv.ownBlock ≠ some k := by
  refine ⟨fun k hk => ?_, fun k hk => ?_⟩
  · obtain ⟨-, cur, h1⟩ := own_lt h.brow hk
    refine ⟨fun e => ?_, fun e => ?_⟩
    · rw [e, h.obj] at h1
      simp [wrO] at h1
    · obtain ⟨-, cur', h2⟩ := own_lt h.grow e
      rw [h1] at h2
      simp at h2
  · obtain ⟨-, cur, h1⟩ := own_lt h.grow hk
    refine ⟨fun e => ?_, fun e => ?_⟩
    · rw [e, h.obj] at h1
      simp [wrO] at h1
    · obtain ⟨-, cur', h2⟩ := own_lt h.brow e
      rw [h1] at h2
      simp at h2
theorem WtrAt.on {S : Nat → Prop} {o o' : Nat → Nat} {t : Nat} {w w' : World} {p : Pl} {sp wb : Nat} {bl bg : List Int} {sz : Nat} {cl : Bool} {br : Int} {bv gv : Value} (h : WtrAt o t w p sp wb bl bg sz cl br bv gv) (hs : Step S o w o' w') (h1 : ¬ S t) : WtrAt o' t w' p sp wb bl bg sz cl br bv gv where
  obj := (hs.same.block _ (lt_of_heap h.obj) (by rw [h.tag]; exact h1)).trans h.obj
  tag := (hs.tag _ (lt_of_heap h.obj)).trans h.tag
  brow := own_kept h.brow hs.same fun k hk => by rw [h.btag k hk]; exact h1
  btag := fun k hk => (hs.tag k (own_lt h.brow hk).1).trans (h.btag k hk)
  grow := own_kept h.grow hs.same fun k hk => by rw [h.gtag k hk]; exact h1
  gtag := fun k hk => (hs.tag k (own_lt h.grow hk).1).trans (h.gtag k hk)
/-- A writer, its device and its space in memory. -/
structure WrT (o : Nat → Nat) (t : Nat) (w : World) (p : Pl) (sp wb : Nat) (s : WrS) (cl : Bool) (bv gv : Value) : Prop where
  dv : DvT o w s.m p
  spc : SpT o w sp s.u
  wtr : WtrAt o t w p sp wb s.bl s.bg s.sz cl s.br bv gv
theorem WrT.on {S : Nat → Prop} {o o' : Nat → Nat} {t : Nat} {w w' : World} {p : Pl} {sp wb : Nat} {s : WrS} {cl : Bool} {bv gv : Value} (h : WrT o t w p sp wb s cl bv gv) (hs : Step S o w o' w') (h0 : ¬ S 0) (h1 : ¬ S 1) (h2 : ¬ S 2) (ht : ¬ S t) : WrT o' t w' p sp wb s cl bv gv :=
  ⟨h.dv.on hs h0 h1, h.spc.on hs h2, h.wtr.on hs ht⟩
theorem WrT.kept {o : Nat → Nat} {t : Nat} {w w' : World} {p : Pl} {sp wb : Nat} {s : WrS} {cl : Bool} {bv gv : Value} (h : WrT o t w p sp wb s cl bv gv) (hs : Kept w w') : WrT o t w' p sp wb s cl bv gv :=
  h.on (S := fun _ => False) ⟨hs, fun _ _ => rfl⟩ (fun h => h) (fun h => h) (fun h => h) (fun h => h)
/-- The tags that a writer's call may turn. -/
def Wt (t : Nat) (n : Nat) : Prop := n = 1 ∨ n = 2 ∨ n = t

section
variable {o : Nat → Nat} {t : Nat} {w : World} {p : Pl} {sp wb : Nat} {s : WrS} {cl : Bool} {bv gv : Value}
def refu (br : Int) (cl : Bool) : Int := if br ≠ 0 then br else if cl = true then 82 else 0
set_option maxRecDepth 100000 in
set_option maxHeartbeats 800000 in
theorem refuse_any {bl bg : List Int} {sz : Nat} {br : Int} (h : WtrAt o t w p sp wb bl bg sz cl br bv gv) : Calls Try.prog 18 #[.pointer (some ⟨wb, 0, none⟩)] w fun x w' => x = .returned (.int .i64 (refu br cl)) ∧ w' = w := by
  have hl := lt_of_heap h.obj
  have c5 : w.cell? ⟨wb, 5, none⟩ = some (.bool cl) := (cell_of h.obj 5).trans rfl
  have c6 : w.cell? ⟨wb, 6, none⟩ = some (.int .i64 br) := (cell_of h.obj 6).trans rfl
  clear h
  unfold refu
  by_cases hb : br = 0
  · subst hb
    cases cl with
    | true =>
      go_enter Try.func18, Try.ntmps18
      go_wp2_with fail
      go_ret
      exact ⟨rfl, rfl⟩
    | false =>
      go_enter Try.func18, Try.ntmps18
      go_wp2_with fail
      go_ret
      exact ⟨rfl, rfl⟩
  · have hb' : (br != 0) = true := by simpa using hb
    go_enter Try.func18, Try.ntmps18
    go_wp2_with fail
    go_ret
    exact ⟨rfl, rfl⟩
theorem field_geo (a b : Value) (W : World) : (Instr.field 29 (.agg #[a, b]) 0).run Try.prog W = .ok a W := by kernel_rfl
set_option maxRecDepth 100000 in
set_option maxHeartbeats 800000 in
theorem room_any {bl bg : List Int} {sz : Nat} {br : Int} {m : M} (hd : Dv w m p) (h : WtrAt o t w p sp wb bl bg sz cl br bv gv) (hg : bg.length ≤ m.B) : Calls Try.prog 20 #[.pointer (some ⟨wb, 0, none⟩)] w fun x w' => x = .returned (.int .i64 ((m.B - bg.length : Nat) : Int)) ∧ Kept w w' := by
  have hl := lt_of_heap h.obj
  have c0 : w.cell? ⟨wb, 0, none⟩ = some (.pointer (some ⟨p.db, 0, none⟩)) := (cell_of h.obj 0).trans rfl
  obtain ⟨ga, gc, eg, -⟩ := BytesAt.of_row h.grow
  have c3 : w.cell? ⟨wb, 3, none⟩ = some (.slice ga bg.length gc) := by rw [← eg]; exact (cell_of h.obj 3).trans rfl
  have HG : Hid (∀ W, Kept w W → _) := fun W (k : Kept w W) => geometry_any (hd.kept0 k)
  have b2 := hd.good.b2
  have hwr : IntKind.i64.wrap ((m.B : Int) - (bg.length : Int)) = (m.B : Int) - (bg.length : Int) := by rw [IntKind.wrap_i64]; omega
  have hfld := fun W => field_geo (.int .i64 m.B) (.int .i64 m.S) W
  have e1 : ((m.B - bg.length : Nat) : Int) = (m.B : Int) - (bg.length : Int) := Int.ofNat_sub hg
  rw [e1]
  clear h hd eg e1
  go_enter Try.func20, Try.ntmps20
  go_wp2_with fail
  go_region_held3 (fun w' => Kept w w' ∧ w'.cell? ⟨wb, 0, none⟩ = some (.pointer (some ⟨p.db, 0, none⟩)) ∧ w'.cell? ⟨wb, 3, none⟩ = some (.slice ga bg.length gc))
    (exact (fun (k : Kept w _) => (⟨k, (k.cell (p := ⟨wb, 0, none⟩) hl (fun h => h)).trans c0, (k.cell (p := ⟨wb, 3, none⟩) hl (fun h => h)).trans c3⟩ : _ ∧ _ ∧ _)) (by (repeat (first | exact Same.refl _ _ | apply Same.alloc | apply Same.drew | refine Same.trans' ?_ k1)); done))
    (first | (refine Calls.mono (HG.out _ (by (repeat (first | exact Same.refl _ _ | apply Same.alloc | apply Same.drew | refine Same.trans' ?_ k1)); done)) ?_; rintro x w1 ⟨rfl, k1⟩))
  all_goals
    go_wp2_with fail
    go_ret
    exact ⟨rfl, (by (repeat (first | exact Same.refl _ _ | apply Same.alloc | apply Same.drew | refine Same.trans' ?_ k1)); done)⟩
def CreateP (o : Nat → Nat) (t : Nat) (w : World) (p : Pl) (sp : Nat) (x : Ending) (w' : World) : Prop :=
  ∃ wb, x = .returned (.pointer (some ⟨wb, 0, none⟩)) ∧ WtrAt (tagN w t o) t w' p sp wb [] [] 0 false 0 (.slice none 0 0) (.slice none 0 0) ∧ Kept w w' ∧ w.heap.size ≤ wb
set_option maxRecDepth 100000 in
theorem create_any (o : Nat → Nat) (t : Nat) (w : World) (p : Pl) (sp : Nat) : Calls Try.prog 7 #[.pointer (some ⟨p.db, 0, none⟩), .pointer (some ⟨sp, 0, none⟩)] w (CreateP o t w p sp) := by
  have HP : Hid (CreateP o t w p sp (.returned (.pointer (some ⟨w.heap.size, 0, none⟩))) (w.alloc (wrO p sp (.slice none 0 0) (.slice none 0 0) 0 false 0))) :=
    ⟨_, rfl, ⟨heap_new w _, tagN_new (Nat.le_refl _), World.ownsRow_nil _ 0 3 1, (fun k e => by cases e), World.ownsRow_nil _ 0 5 1, (fun k e => by cases e)⟩, (Same.refl _ w).alloc _, Nat.le_refl _⟩
  go_enter Try.func7, Try.ntmps7
  go_wp2_with fail
  go_ret
  exact HP.out
end
end Go.Proofs.Ytpjkmficpedmcaa
