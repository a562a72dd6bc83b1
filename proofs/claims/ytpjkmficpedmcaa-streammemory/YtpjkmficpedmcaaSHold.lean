/- What is proved: what hold does: a byte is held, or the next block is read; the reader and its device lie in memory. -/
import Derived.Test.YtpjkmficpedmcaaSRdr
namespace Go.Proofs.Ytpjkmficpedmcaa
open Go.RowKit

theorem readR_len (m : M) (r : Int) (c : M) (n : Nat) (l : List Int) (b : Int) : (m.readR r c n l b).2.1.length ≤ m.B := by
  unfold M.readR
  split
  · simp
  · split
    · simp
    · split
      · simp
      · simp only [length_cut]
        omega
theorem blk_len (f : Src) (m : M) (i : Nat) (h : m.B ≤ 1024) : (f.blk m i).2.1.length ≤ 1024 := by
  cases f with
  | inp => exact Nat.le_trans (readR_len m _ _ _ _ _) h
  | file L => exact Nat.le_trans (readR_len m _ _ _ _ _) h
def srcV (f : Src) (p : Pl) (na : Option Addr) (nc : Nat) : Value :=
  match f with
  | .inp => .iface 80 (.agg #[.pointer (some ⟨p.db, 0, none⟩)])
  | .file L => .iface 74 (.agg #[.pointer (some ⟨p.db, 0, none⟩), .slice na L.length nc])
def rdO (fv : Value) (nx : Nat) (ha : Option Addr) (hn hc off left : Nat) (br : Int) : Obj :=
  .cells #[fv, .int .i64 nx, .slice ha hn hc, .int .i64 off, .int .i64 left, .int .i64 br] 78 (0, 0)
/-- The numbers of a reader's source. -/
def Src.nums : Src → List Int
  | .inp => []
  | .file L => L
/-- A reader in memory: its block has the tag t, what it only reads the tag 0. -/
structure RdrAt (o : Nat → Nat) (t : Nat) (w : World) (p : Pl) (rb : Nat) (f : Src) (nx : Nat) (held : List Int) (off left : Nat) (br : Int) (na : Option Addr) (nc : Nat) (ha : Option Addr) (hc : Nat) : Prop where
  obj : w.heap[rb]? = some (rdO (srcV f p na nc) nx ha held.length hc off left br)
  tag : o rb = t
  nums : NumsAt w na f.nums
  numt : ∀ k, InB na f.nums.length k → o k = 0
  numl : f.nums.length ≤ 4611686018427387903
  hby : BytesAt w ha held
  heldt : ∀ k, InB ha held.length k → o k = 0
  cap : held.length ≤ hc
  capl : hc ≤ 9223372036854775807
  nil : ha = none → held.length = 0 ∧ hc = 0
  spot : ∀ ad, ha = some ad → ad.spot = none
theorem RdrAt.on {S : Nat → Prop} {o o' : Nat → Nat} {t : Nat} {w w' : World} {p : Pl} {rb : Nat} {f : Src} {nx : Nat} {held : List Int} {off left : Nat} {br : Int} {na : Option Addr} {nc : Nat} {ha : Option Addr} {hc : Nat} (h : RdrAt o t w p rb f nx held off left br na nc ha hc) (hs : Step S o w o' w') (h0 : ¬ S 0) (h1 : ¬ S t) : RdrAt o' t w' p rb f nx held off left br na nc ha hc where
  obj := (hs.same.block _ (lt_of_heap h.obj) (by rw [h.tag]; exact h1)).trans h.obj
  tag := (hs.tag _ (lt_of_heap h.obj)).trans h.tag
  nums := h.nums.kept hs.same fun k hk => by rw [h.numt k hk]; exact h0
  numt := fun k hk => (hs.tag k (h.nums.lt hk)).trans (h.numt k hk)
  numl := h.numl
  hby := h.hby.kept hs.same fun k hk => by rw [h.heldt k hk]; exact h0
  heldt := fun k hk => (hs.tag k (h.hby.lt hk)).trans (h.heldt k hk)
  cap := h.cap
  capl := h.capl
  nil := h.nil
  spot := h.spot
/-- A reader in memory. -/
def Rdr (o : Nat → Nat) (t : Nat) (w : World) (p : Pl) (rb : Nat) (f : Src) (nx : Nat) (held : List Int) (off left : Nat) (br : Int) : Prop := ∃ na nc ha hc, RdrAt o t w p rb f nx held off left br na nc ha hc
theorem Rdr.on {S : Nat → Prop} {o o' : Nat → Nat} {t : Nat} {w w' : World} {p : Pl} {rb : Nat} {f : Src} {nx : Nat} {held : List Int} {off left : Nat} {br : Int} (h : Rdr o t w p rb f nx held off left br) (hs : Step S o w o' w') (h0 : ¬ S 0) (h1 : ¬ S t) : Rdr o' t w' p rb f nx held off left br := by
  obtain ⟨na, nc, ha, hc, h⟩ := h
  exact ⟨na, nc, ha, hc, h.on hs h0 h1⟩

theorem meth_in (v : Value) (w : World) : (method 227 80 (.agg #[v]) "proctor/stream.block").run Try.prog w = .ok (76, .agg #[v]) w := by kernel_rfl
theorem meth_fb (v u : Value) (w : World) : (method 227 74 (.agg #[v, u]) "proctor/stream.block").run Try.prog w = .ok (71, .agg #[v, u]) w := by kernel_rfl

/-- The reader's object turns. -/
theorem rdO_set {w : World} {rb nx hn hc off left : Nat} {br : Int} {fv : Value} {ha : Option Addr} (h : w.heap[rb]? = some (rdO fv nx ha hn hc off left br)) :
    (∀ e : Int, (w.setCell ⟨rb, 5, none⟩ (.int .i64 e)).heap[rb]? = some (rdO fv nx ha hn hc off left e)) ∧
    (∀ (a : Option Addr) (n c : Nat), (w.setCell ⟨rb, 2, none⟩ (.slice a n c)).heap[rb]? = some (rdO fv nx a n c off left br)) ∧
    (∀ n : Nat, (w.setCell ⟨rb, 1, none⟩ (.int .i64 n)).heap[rb]? = some (rdO fv n ha hn hc off left br)) ∧
    (∀ n : Nat, (w.setCell ⟨rb, 3, none⟩ (.int .i64 n)).heap[rb]? = some (rdO fv nx ha hn hc n left br)) ∧
    (∀ n : Nat, (w.setCell ⟨rb, 4, none⟩ (.int .i64 n)).heap[rb]? = some (rdO fv nx ha hn hc off n br)) :=
  ⟨fun _ => (setCell_at h 5 _).trans rfl, fun _ _ _ => (setCell_at h 2 _).trans rfl, fun _ => (setCell_at h 1 _).trans rfl, fun _ => (setCell_at h 3 _).trans rfl, fun _ => (setCell_at h 4 _).trans rfl⟩

/-- The call of a source's block, whichever it is: its contract at the method's own number. -/
theorem blk_any {o : Nat → Nat} {t : Nat} {w : World} {m : M} {p : Pl} {rb : Nat} {f : Src} {nx : Nat} {held : List Int} {off left : Nat} {br : Int} {na : Option Addr} {nc : Nat} {ha : Option Addr} {hc : Nat} (hd : Dv w m p) (hr : RdrAt o t w p rb f nx held off left br na nc ha hc) (hi : f = .inp ∨ nx < f.nums.length) (hk : m.k + 1 < 4611686018427387904) :
    ∃ ty r fn, srcV f p na nc = .iface ty r ∧ (∀ W : World, (method 227 ty r "proctor/stream.block").run Try.prog W = .ok (fn, r) W) ∧ Calls Try.prog fn #[r, .int .i64 nx] w (RPostC p w (f.blk m nx)) := by
  cases f with
  | inp => exact ⟨_, _, _, rfl, meth_in _, inblock_any hd _ hk⟩
  | file L =>
    have hlt : nx < L.length := by
      rcases hi with h | h
      · cases h
      · exact h
    refine ⟨_, _, _, rfl, meth_fb _ _, ?_⟩
    have hg : L[nx]? = some (L.getD nx 0) := by rw [List.getD_eq_getElem?_getD, List.getElem?_eq_getElem hlt]; rfl
    exact fbblock_any hd L na nc nx _ hr.nums hg hk

def HoldP (w : World) (p : Pl) (rb nx : Nat) (e : Int) (l : List Int) (m' : M) (w' : World) : Prop :=
  ∃ w1 a, Dv w1 m' p ∧ Same (Own p) w w1 ∧ BytesAt w1 a l ∧ (∀ k, InB a l.length k → w.heap.size ≤ k) ∧ ((a = none → l.length = 0) ∧ ∀ ad, a = some ad → ad.spot = none) ∧
      w' = if e ≠ 0 then w1.setCell ⟨rb, 5, none⟩ (.int .i64 e) else (w1.setCell ⟨rb, 2, none⟩ (.slice a l.length l.length)).setCell ⟨rb, 1, none⟩ (.int .i64 ((nx : Int) + 1))
set_option maxRecDepth 100000 in
set_option maxHeartbeats 3200000 in
theorem hold_go {w : World} {m' : M} {p : Pl} {rb nx hc off left : Nat} {br e : Int} {ty fn : Nat} {r : Value} {ha : Option Addr} {l : List Int} (ho : w.heap[rb]? = some (rdO (.iface ty r) nx ha 0 hc off left br)) (hrb : ¬ Own p rb) (hnx : nx < 4611686018427387904) (hcase : fn = 76 ∨ fn = 71)
    (hm : ∀ W : World, (method 227 ty r "proctor/stream.block").run Try.prog W = .ok (fn, r) W) (HC : ∀ W, Kept w W → Calls Try.prog fn #[r, .int .i64 nx] W (RPostC p W (e, l, m'))) :
    Calls Try.prog 26 #[.pointer (some ⟨rb, 0, none⟩)] w fun x w' => x = .returned (.int .i64 e) ∧ HoldP w p rb nx e l m' w' := by
  have hl := lt_of_heap ho
  have c0 : w.cell? ⟨rb, 0, none⟩ = some (.iface ty r) := (cell_of ho 0).trans rfl
  have c1 : w.cell? ⟨rb, 1, none⟩ = some (.int .i64 nx) := (cell_of ho 1).trans rfl
  have c2 : w.cell? ⟨rb, 2, none⟩ = some (.slice ha 0 hc) := (cell_of ho 2).trans rfl
  have HO : Hid _ := ho
  have HRB : Hid _ := hrb
  have HC' : Hid _ := HC
  clear ho HC hrb
  by_cases he : e = 0
  · subst he
    rcases hcase with rfl | rfl
    all_goals
      go_enter Try.func26, Try.ntmps26
      go_wp2_with fail
      go_region_with ((first | go_at_call 76 | go_at_call 71); refine Calls.mono (HC'.out _ (by (repeat (first | exact Same.refl _ _ | apply Same.alloc | apply Same.drew)); done)) ?_; rintro x w1 ⟨a, rfl, q1, q2, q3, q4, q5⟩; have ho1 := (q4.block rb hl HRB.out).trans HO.out; have Q1 : Hid _ := And.intro q1 (And.intro q2 (And.intro q3 (And.intro q4 q5))); clear q1 q2 q3 q4 q5)
      all_goals
        have hl1 := lt_of_heap ho1
        have t1 : w1.cell? ⟨rb, 1, none⟩ = some (.int .i64 nx) := (cell_of ho1 1).trans rfl
        have t2 : w1.cell? ⟨rb, 2, none⟩ = some (.slice ha 0 hc) := (cell_of ho1 2).trans rfl
        have f1 := frozen_of ho1 1
        have f2 := frozen_of ho1 2
        clear ho1
        go_wp2_with fail
        go_ret
        obtain ⟨q1, q2, q3, q4, q5⟩ := Q1.out
        exact ⟨rfl, w1, a, q3, Same.trans' (by (repeat (first | exact Same.refl _ _ | apply Same.alloc | apply Same.drew)); done) q4, q1, q2, q5, rfl⟩
  · have he' : (e != 0) = true := by simpa using he
    have HE : Hid _ := he
    clear he
    rcases hcase with rfl | rfl
    all_goals
      go_enter Try.func26, Try.ntmps26
      go_wp2_with fail
      go_region_with ((first | go_at_call 76 | go_at_call 71); refine Calls.mono (HC'.out _ (by (repeat (first | exact Same.refl _ _ | apply Same.alloc | apply Same.drew)); done)) ?_; rintro x w1 ⟨a, rfl, q1, q2, q3, q4, q5⟩; have ho1 := (q4.block rb hl HRB.out).trans HO.out; have Q1 : Hid _ := And.intro q1 (And.intro q2 (And.intro q3 (And.intro q4 q5))); clear q1 q2 q3 q4 q5)
      all_goals
        have hl1 := lt_of_heap ho1
        have t5 : w1.cell? ⟨rb, 5, none⟩ = some (.int .i64 br) := (cell_of ho1 5).trans rfl
        have f5 := frozen_of ho1 5
        clear ho1
        go_wp2_with fail
        go_ret
        obtain ⟨q1, q2, q3, q4, q5⟩ := Q1.out
        exact ⟨rfl, w1, a, q3, Same.trans' (by (repeat (first | exact Same.refl _ _ | apply Same.alloc | apply Same.drew)); done) q4, q1, q2, q5, by rw [if_pos HE.out]⟩

set_option maxRecDepth 100000 in
set_option maxHeartbeats 1600000 in
theorem hold_has {w : World} {rb nx hn hc off left : Nat} {br : Int} {fv : Value} {ha : Option Addr} (ho : w.heap[rb]? = some (rdO fv nx ha hn hc off left br)) (hp : 0 < hn) :
    Calls Try.prog 26 #[.pointer (some ⟨rb, 0, none⟩)] w fun x w' => x = .returned (.int .i64 0) ∧ w' = w := by
  have hl := lt_of_heap ho
  have c2 : w.cell? ⟨rb, 2, none⟩ = some (.slice ha hn hc) := (cell_of ho 2).trans rfl
  have hp' : decide ((hn : Int) > 0) = true := by simpa using hp
  clear ho
  go_enter Try.func26, Try.ntmps26
  go_wp2_with fail
  go_ret
  exact ⟨rfl, rfl⟩

/-- The first byte of a block that a device gives is there. -/
theorem cut_pos {B : Nat} {l : List Int} {b : Nat} (hB : 0 < B) (h : b * B < l.length) : cut B l b ≠ [] := by
  intro e
  have := length_cut B l b
  rw [e] at this
  simp at this
  omega

theorem hold_any {o : Nat → Nat} {t : Nat} {w : World} {m : M} {p : Pl} {rb : Nat} {f : Src} {nx : Nat} {held : List Int} {off left : Nat} {br : Int} (hd : DvT o w m p) (hr : Rdr o t w p rb f nx held off left br) (ht : t ≠ 0 ∧ t ≠ 1) (hi : held = [] → f = .inp ∨ nx < f.nums.length) (hk : m.k + 1 < 4611686018427387904) (hnx : nx < 4611686018427387904) :
    Calls Try.prog 26 #[.pointer (some ⟨rb, 0, none⟩)] w fun x w' => x = .returned (.int .i64 ((RdS.mk m nx held).hold f).1) ∧ ∃ o', Step (fun n => n = 1 ∨ n = t) o w o' w' ∧ DvT o' w' ((RdS.mk m nx held).hold f).2.m p ∧
      Rdr o' t w' p rb f ((RdS.mk m nx held).hold f).2.nx ((RdS.mk m nx held).hold f).2.held off left (if ((RdS.mk m nx held).hold f).1 = 0 then br else ((RdS.mk m nx held).hold f).1) := by
  have hr' := hr
  obtain ⟨na, nc, ha, hc, hr⟩ := hr
  by_cases h0 : held = []
  · subst h0
    have hrb : ¬ Own p rb := fun hw => ht.2 (hr.tag.symm.trans (hd.own rb hw))
    obtain ⟨ty, r, fn, e1, hm, -⟩ := blk_any hd.dv hr (hi rfl) hk
    have hcase : fn = 76 ∨ fn = 71 := by
      have := hm w
      cases f with
      | inp =>
        simp only [srcV, Value.iface.injEq] at e1
        obtain ⟨rfl, rfl⟩ := e1
        rw [meth_in] at this
        simp only [Result.ok.injEq, Prod.mk.injEq, and_true] at this
        exact .inl this.symm
      | file L =>
        simp only [srcV, Value.iface.injEq] at e1
        obtain ⟨rfl, rfl⟩ := e1
        rw [meth_fb] at this
        simp only [Result.ok.injEq, Prod.mk.injEq, and_true] at this
        exact .inr this.symm
    have ho := hr.obj
    rw [e1] at ho
    have HC : ∀ W, Kept w W → Calls Try.prog fn #[r, .int .i64 nx] W (RPostC p W (f.blk m nx)) := fun W k => by
      have hs : Step (fun _ => False) o w o W := ⟨k, fun _ _ => rfl⟩
      obtain ⟨ty', r', fn', e1', hm', hC⟩ := blk_any (hd.dv.kept0 k) (hr.on hs (fun h => h) (fun h => h)) (hi rfl) hk
      rw [e1] at e1'
      simp only [Value.iface.injEq] at e1'
      obtain ⟨rfl, rfl⟩ := e1'
      have := (hm w).symm.trans (hm' w)
      simp only [Result.ok.injEq, Prod.mk.injEq, and_true] at this
      subst this
      exact hC
    obtain ⟨k1, k2, k3, k4, k5, k6⟩ := blk_keeps f m nx
    refine Calls.mono (hold_go (e := (f.blk m nx).1) (l := (f.blk m nx).2.1) (m' := (f.blk m nx).2.2) ho hrb hnx hcase hm HC) ?_
    rintro x w' ⟨rfl, w1, a, hd1, s1, hb1, hn1, ⟨hnl, hsp⟩, hw'⟩
    have st1 : Step (fun n => n = 1 ∨ n = t) o w (tagN w 0 o) w1 := ⟨s1.mono fun k _ hk' => .inl (hd.own k hk'), fun k hk' => tagN_old hk'⟩
    have hd1' := hd.turn hd1 k1 k2 0
    have ho1 := (s1.block rb (lt_of_heap hr.obj) hrb).trans hr.obj
    have hl1 := lt_of_heap ho1
    have htag : tagN w 0 o rb = t := (tagN_old (lt_of_heap hr.obj)).trans hr.tag
    have hnums : NumsAt w1 na f.nums := hr.nums.kept s1 fun k hk' hw => by
      have h1 := hd.own k hw
      rw [hr.numt k hk'] at h1
      cases h1
    have hnumt : ∀ k, InB na f.nums.length k → tagN w 0 o k = 0 := fun k hk' => (tagN_old (hr.nums.lt hk')).trans (hr.numt k hk')
    have hnr : ∀ k, InB na f.nums.length k → k ≠ rb := fun k hk' e => by
      subst e
      have := hr.numt k hk'
      rw [hr.tag] at this
      exact ht.1 this
    by_cases he : (f.blk m nx).1 = 0
    · have hh : (RdS.mk m nx []).hold f = (0, ⟨(f.blk m nx).2.2, nx + 1, (f.blk m nx).2.1⟩) := by
        unfold RdS.hold
        rw [if_neg (by simp), if_neg (by simpa using he)]
      rw [hh]
      rw [if_neg (by simpa using he)] at hw'
      subst hw'
      have s2 : Same (fun k => k = rb) w1 ((w1.setCell ⟨rb, 2, none⟩ (.slice a (f.blk m nx).2.1.length (f.blk m nx).2.1.length)).setCell ⟨rb, 1, none⟩ (.int .i64 ((nx : Int) + 1))) :=
        Same.setCell (S := fun k => k = rb) (Same.setCell (S := fun k => k = rb) (Same.refl _ w1) _ (.inr rfl) _) _ (.inr rfl) _
      have st2 : Step (fun n => n = 1 ∨ n = t) (tagN w 0 o) w1 (tagN w 0 o) _ := ⟨s2.mono fun k _ hk' => .inr (by rw [hk']; exact htag), fun _ _ => rfl⟩
      have st2' : Step (fun n => n = t) (tagN w 0 o) w1 (tagN w 0 o) _ := ⟨s2.mono fun k _ hk' => (by show tagN w 0 o k = t; rw [hk']; exact htag), fun _ _ => rfl⟩
      refine ⟨by rw [he], tagN w 0 o, st1.trans st2, hd1'.on st2' (fun h => ht.1 h.symm) (fun h => ht.2 h.symm), ?_⟩
      have hlen2 : (f.blk m nx).2.1.length ≤ 9223372036854775807 := Nat.le_trans (blk_len f m nx hd.dv.good.b2) (by omega)
      have hlen : ∀ k, InB a (f.blk m nx).2.1.length k → k ≠ rb := fun k hk' e => by
        subst e
        have := hn1 k hk'
        have := lt_of_heap hr.obj
        omega
      refine ⟨na, nc, a, (f.blk m nx).2.1.length, ?_⟩
      exact ⟨by
          have h2 := ((rdO_set ho1).2.1 a (f.blk m nx).2.1.length (f.blk m nx).2.1.length)
          have h3 := ((rdO_set h2).2.2.1 (nx + 1))
          exact h3, htag, hnums.kept s2 fun k hk' e => hnr k hk' e, hnumt, hr.numl, hb1.kept s2 fun k hk' e => hlen k hk' e, fun k hk' => tagN_new (hn1 k hk'), Nat.le_refl _, hlen2, fun e => ⟨hnl e, hnl e⟩, hsp⟩
    · have hh : (RdS.mk m nx []).hold f = ((f.blk m nx).1, ⟨(f.blk m nx).2.2, nx, []⟩) := by
        unfold RdS.hold
        rw [if_neg (by simp), if_pos he]
      rw [hh]
      rw [if_pos he] at hw'
      subst hw'
      have s2 : Same (fun k => k = rb) w1 (w1.setCell ⟨rb, 5, none⟩ (.int .i64 (f.blk m nx).1)) := Same.setCell (S := fun k => k = rb) (Same.refl _ w1) _ (.inr rfl) _
      have st2 : Step (fun n => n = 1 ∨ n = t) (tagN w 0 o) w1 (tagN w 0 o) _ := ⟨s2.mono fun k _ hk' => .inr (by rw [hk']; exact htag), fun _ _ => rfl⟩
      have st2' : Step (fun n => n = t) (tagN w 0 o) w1 (tagN w 0 o) _ := ⟨s2.mono fun k _ hk' => (by show tagN w 0 o k = t; rw [hk']; exact htag), fun _ _ => rfl⟩
      refine ⟨rfl, tagN w 0 o, st1.trans st2, hd1'.on st2' (fun h => ht.1 h.symm) (fun h => ht.2 h.symm), ?_⟩
      rw [if_neg he]
      exact ⟨na, nc, ha, hc, (rdO_set ho1).1 _, htag, hnums.kept s2 fun k hk' e => hnr k hk' e, hnumt, hr.numl, BytesAt.nil _ _, fun k hk' => absurd hk'.1 (by simp), hr.cap, hr.capl, hr.nil, hr.spot⟩
  · have hh : (RdS.mk m nx held).hold f = (0, ⟨m, nx, held⟩) := hold_some h0
    rw [hh]
    refine Calls.mono (hold_has hr.obj (List.length_pos_iff.2 h0)) ?_
    rintro x w' ⟨rfl, rfl⟩
    exact ⟨rfl, o, Step.refl _ _ _, hd, hr'⟩
end Go.Proofs.Ytpjkmficpedmcaa
