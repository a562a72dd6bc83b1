/- What is proved: New refuses as the document says, or makes a device of its own; the lists that it is given lie in memory. -/
import Derived.Test.YtpjkmficpedmcaaDNew
namespace Go.Proofs.Ytpjkmficpedmcaa
open Go.RowKit

/-- The code of New. -/
def chk (B S : Int) (ni ns : Nat) (F : List Fl) : Int :=
  if okG B S = false then 30 else if 4194304 < ni then 31 else if B * S < ns then 32 else if (decide (F.length ≤ 64) && F.all (okF B)) = false then 33 else 0

theorem okG_nat {B S : Int} (h : okG B S = true) : ∃ b s : Nat, B = b ∧ S = s ∧ 16 ≤ b ∧ b ≤ 1024 ∧ s ≤ 4096 := by
  simp only [okG, Bool.and_eq_true, decide_eq_true_eq] at h
  obtain ⟨b, rfl⟩ := Int.eq_ofNat_of_zero_le (show 0 ≤ B by omega)
  obtain ⟨s, rfl⟩ := Int.eq_ofNat_of_zero_le (show 0 ≤ S by omega)
  exact ⟨b, s, rfl, rfl, by omega, by omega, by omega⟩

set_option maxRecDepth 100000 in
set_option maxHeartbeats 3200000 in
theorem new_no (B S : Int) (ia sa fa : Option Addr) (ni ic ns sc fc : Nat) (F : List Fl) (w : World) (hF : FaultsAt w fa F) (hlen : F.length ≤ 9223372036854775807) (hni : ni ≤ 9223372036854775807) (_ : ns ≤ 9223372036854775807) (h : chk B S ni ns F ≠ 0) :
    Calls Try.prog 5 #[.agg #[.int .i64 B, .int .i64 S], .slice ia ni ic, .slice sa ns sc, .slice fa F.length fc] w fun e w' => e = .returned (.tuple #[.pointer none, .int .i64 (chk B S ni ns F)]) ∧ Kept w w' := by
  have hnot : ∀ (x : Bool) (w : World), (Op.unary .not (.bool x)).run Try.prog w = .ok (.bool (!x)) w := fun _ _ => rfl
  have HG : Hid (∀ w', _) := fun w' => gright_any B S w'
  have B0 : Hid ((w.alloc (.cells #[.int .i64 B, .int .i64 S] 29)).heap[w.heap.size]? = some (.cells #[.int .i64 B, .int .i64 S] 29 (0, 0))) := heap_new w _
  have hbox : ∀ w1, Kept (w.alloc (.cells #[.int .i64 B, .int .i64 S] 29)) w1 → w1.cell? ⟨w.heap.size, 0, none⟩ = some (.int .i64 B) ∧ w1.cell? ⟨w.heap.size, 1, none⟩ = some (.int .i64 S) := fun w1 k1 => by
    have e := (k1.block _ (by simp) (fun h => h)).trans B0.out
    exact ⟨(cell_of e 0).trans rfl, (cell_of e 1).trans rfl⟩
  have HX : Hid _ := hbox
  clear hbox
  unfold chk at h ⊢
  by_cases h1 : okG B S = false
  · rw [if_pos h1]
    rw [h1] at HG
    clear h hF
    go_enter Try.func5, Try.ntmps5
    go_wp2_with fail
    refine Calls.mono (HG.out _) ?_
    rintro e w1 ⟨rfl, k1⟩
    have K1 : Hid _ := k1
    clear k1
    go_wp2_with fail
    go_ret2
    exact ⟨rfl, ((Same.refl _ w).alloc _).trans' K1.out⟩
  · rw [if_neg h1] at h ⊢
    have h1' : okG B S = true := by simpa using h1
    rw [h1'] at HG
    obtain ⟨b, s, rfl, rfl, hb1, hb2, hs2⟩ := okG_nat h1'
    have hbs : (b : Int) * (s : Int) = ((b * s : Nat) : Int) := by simp
    have hbs2 : b * s ≤ 4194304 := Nat.le_trans (Nat.mul_le_mul hb2 hs2) (by decide)
    obtain ⟨t, et⟩ : ∃ t, t = b * s := ⟨_, rfl⟩
    rw [hbs, ← et] at h ⊢
    rw [← et] at hbs hbs2
    clear h1 h1' et
    by_cases h2 : 4194304 < ni
    · rw [if_pos h2]
      have t2 : decide ((4194304 : Int) < (ni : Int)) = true := by simp only [decide_eq_true_eq]; omega
      clear h hF
      go_enter Try.func5, Try.ntmps5
      go_wp2_with fail
      refine Calls.mono (HG.out _) ?_
      rintro e w1 ⟨rfl, k1⟩
      have K1 : Hid _ := k1
      clear k1
      go_wp2_with fail
      go_ret2
      exact ⟨rfl, ((Same.refl _ w).alloc _).trans' K1.out⟩
    · rw [if_neg h2] at h ⊢
      have t2 : decide ((4194304 : Int) < (ni : Int)) = false := by simp only [decide_eq_false_iff_not]; omega
      by_cases h3 : (t : Int) < ns
      · rw [if_pos h3]
        have t3 : decide ((t : Int) < (ns : Int)) = true := by simp only [decide_eq_true_eq]; omega
        clear h hF
        go_enter Try.func5, Try.ntmps5
        go_wp2_with fail
        refine Calls.mono (HG.out _) ?_
        rintro e w1 ⟨rfl, k1⟩
        have K1 : Hid _ := k1
        obtain ⟨x1, x2⟩ := HX.out w1 k1
        clear k1
        go_wp2_with fail
        go_ret2
        exact ⟨rfl, ((Same.refl _ w).alloc _).trans' K1.out⟩
      · rw [if_neg h3] at h ⊢
        have t3 : decide ((t : Int) < (ns : Int)) = false := by simp only [decide_eq_false_iff_not]; omega
        by_cases h4 : (decide (F.length ≤ 64) && F.all (okF b)) = false
        · rw [if_pos h4]
          have HR : Hid (∀ w1, Kept w w1 → Calls Try.prog 15 #[.slice fa F.length fc, .agg #[.int .i64 b, .int .i64 s]] w1 fun e w' => e = .returned (.bool false) ∧ Kept w1 w') := fun w1 k1 => by
            have hh := rfaults_any F fa fc b s w1 (hF.kept k1 (fun _ _ h => h)) hlen
            rw [h4] at hh
            exact hh
          clear h hF h4
          obtain ⟨nF, enF⟩ : ∃ n, n = F.length := ⟨_, rfl⟩
          rw [← enF] at HR ⊢
          clear hlen enF
          go_enter Try.func5, Try.ntmps5
          go_wp2_with fail
          refine Calls.mono (HG.out _) ?_
          rintro e w1 ⟨rfl, k1⟩
          have K1 : Hid _ := k1
          obtain ⟨x1, x2⟩ := HX.out w1 k1
          clear k1
          go_wp2_with fail
          refine Calls.mono (HR.out w1 (((Same.refl _ w).alloc _).trans' K1.out)) ?_
          rintro e w2 ⟨rfl, k2⟩
          have K2 : Hid _ := k2
          clear k2
          go_wp2_with fail
          go_ret2
          exact ⟨rfl, (((Same.refl _ w).alloc _).trans' K1.out).trans' K2.out⟩
        · exact absurd (if_neg h4) h

/-- What New is given, when it lets it pass, as a device. -/
def M.made (B S : Nat) (l ls : List Int) (F : List Fl) : M := ⟨B, S, l, splice (List.replicate (B * S) 0) 0 ls, F, fun _ _ => 0, 0, 0, 0, 0, 0, false⟩

/-- What a clone is, its slice written out. -/
def CBp (l : List Int) (w w' : World) (a : Option Addr) (cap : Nat) : Prop := BytesAt w' a l ∧ l.length ≤ cap ∧ (a = none → l.length = 0 ∧ cap = 0) ∧ (∀ k, InB a l.length k → w.heap.size ≤ k) ∧ Kept w w'
def CFp (l : List Fl) (w w' : World) (a : Option Addr) : Prop := FaultsAt w' a l ∧ (∀ k, InB a l.length k → w.heap.size ≤ k) ∧ Kept w w'

theorem name_world {K : Act → World → Prop} {Q' : Exit → Act → World → Prop} {a : Act} {f : World} (h : ∀ W, W = f → Exit.then K Q' Exit.normal a W) : Exit.then K Q' Exit.normal a f := h f rfl
theorem alloc_at {W X : World} {o : Obj} (h : W = X.alloc o) : W.heap[X.heap.size]? = some o ∧ Kept X W := by
  subst h
  exact ⟨heap_new _ _, (Same.refl _ _).alloc _⟩
theorem at_kept {y W : World} {o : Obj} (h : Kept (y.alloc o) W) : W.heap[y.heap.size]? = some o := (h.block _ (by simp) (fun h => h)).trans (heap_new _ _)
theorem row_then {G : Prop} {y W : World} {o : Obj} (h : Kept (y.alloc o) W) (k : W.heap[y.heap.size]? = some o → G) : G := k (at_kept h)
theorem made_dv {W w6 : World} {b s t db sb mb nl nF : Nat} {ab af : Option Addr} {cb cf : Nat} {l ls : List Int} {F : List Fl}
    (hdev : W.heap[db]? = some (.cells #[.int .i64 b, .int .i64 s, .slice ab nl cb, .slice (some ⟨sb, 0, none⟩) t t, .slice af nF cf, .map (some mb), .int .i64 0, .int .i64 0, .int .i64 0, .int .i64 0, .bool false] 60))
    (hrow : W.heap[sb]? = some (rowObj (List.replicate t 0))) (hmap : W.heap[mb]? = some (.map #[] 0)) (hb : BytesAt W ab l) (hf : FaultsAt W af F) (hcap : l.length ≤ cb) (hnil : ab = none → l.length = 0 ∧ cb = 0)
    (apb : ∀ k, InB ab l.length k → k ≠ sb ∧ k ≠ db ∧ k ≠ mb) (apf : ∀ k, InB af F.length k → k ≠ sb ∧ k ≠ db ∧ k ≠ mb) (ht : t = b * s) (enl : nl = l.length) (enF : nF = F.length)
    (g1 : 16 ≤ b) (g2 : b ≤ 1024) (g3 : s ≤ 4096) (g4 : l.length ≤ 4194304) (g5 : F.length ≤ 64 ∧ ∀ f ∈ F, Fine b f) (hls : ls.length ≤ t)
    (s6 : Same (fun k => k = sb) W w6) (hg6 : w6.heap[sb]? = some (rowObj (splice (List.replicate t 0) 0 ls))) : Dv w6 (M.made b s l ls F) ⟨db, ab, cb, sb, af, cf, mb⟩ := by
  subst ht enl enF
  have n1 : db ≠ sb := fun e => by rw [e, hrow] at hdev; simp [rowObj] at hdev
  have n2 : mb ≠ sb := fun e => by rw [e, hrow] at hmap; simp [rowObj] at hmap
  have hm : MapH W mb 0 (fun _ _ => 0) := by
    refine ⟨.map [], ⟨#[], 0, hmap, ⟨by simp, Go.MapKept.stamped_empty 0, by simp⟩, Nat.le_refl _, rfl⟩, fun _ _ _ _ => rfl⟩
  exact {
    dev := (s6.block _ (lt_of_heap hdev) n1).trans hdev
    inp := hb.kept s6 fun k hk => (apb k hk).1
    scr := hg6
    flt := hf.kept s6 fun k hk => (apf k hk).1
    map := hm.kept s6 n2
    good := ⟨g1, g2, g3, g4, (length_splice _ _ _ (by simpa using hls)).trans (by simp [M.made]), g5.1, g5.2, Nat.le_refl _, Nat.le_refl _, Nat.le_refl _, Nat.le_refl _, fun _ _ => Nat.le_refl _⟩
    icap := hcap
    inil := hnil
    api := apb
    apf := apf }

theorem made_all {w w6 : World} {m : M} {db sb mb cb cf : Nat} {ab af : Option Addr} (h : Dv w6 m ⟨db, ab, cb, sb, af, cf, mb⟩) (h1 : w.heap.size ≤ db) (h2 : w.heap.size ≤ sb) (h3 : w.heap.size ≤ mb) (h4 : ∀ k, InB ab m.inp.length k → w.heap.size ≤ k) (h5 : ∀ k, InB af m.F.length k → w.heap.size ≤ k) (hk : Kept w w6) :
    ∃ q : Pl, q.db = db ∧ Dv w6 m q ∧ (∀ k, Foot m q k → w.heap.size ≤ k) ∧ Kept w w6 := by
  refine ⟨_, rfl, h, ?_, hk⟩
  rintro k ((rfl | rfl | rfl) | hk | hk)
  · exact h1
  · exact h2
  · exact h3
  · exact h4 k hk
  · exact h5 k hk

set_option maxRecDepth 100000 in
set_option maxHeartbeats 6400000 in
theorem new_yes (B S : Nat) (ia sa fa : Option Addr) (ic sc fc : Nat) (l ls : List Int) (F : List Fl) (w : World) (hl : BytesAt w ia l) (hls : BytesAt w sa ls) (hF : FaultsAt w fa F) (hnl : ia = none → l.length = 0 ∧ ic = 0) (hnf : fa = none → F.length = 0 ∧ fc = 0) (h : chk B S l.length ls.length F = 0) :
    Calls Try.prog 5 #[.agg #[.int .i64 B, .int .i64 S], .slice ia l.length ic, .slice sa ls.length sc, .slice fa F.length fc] w fun e w' => ∃ p, e = .returned (.tuple #[.pointer (some ⟨p.db, 0, none⟩), .int .i64 0]) ∧ Dv w' (M.made B S l ls F) p ∧ (∀ k, Foot (M.made B S l ls F) p k → w.heap.size ≤ k) ∧ Kept w w' := by
  have hnot : ∀ (x : Bool) (w : World), (Op.unary .not (.bool x)).run Try.prog w = .ok (.bool (!x)) w := fun _ _ => rfl
  have HG : Hid (∀ w', _) := fun w' => gright_any B S w'
  have B0 : Hid ((w.alloc (.cells #[.int .i64 B, .int .i64 S] 29)).heap[w.heap.size]? = some (.cells #[.int .i64 B, .int .i64 S] 29 (0, 0))) := heap_new w _
  have hbox : ∀ w1, Kept (w.alloc (.cells #[.int .i64 B, .int .i64 S] 29)) w1 → w1.cell? ⟨w.heap.size, 0, none⟩ = some (.int .i64 B) ∧ w1.cell? ⟨w.heap.size, 1, none⟩ = some (.int .i64 S) := fun w1 k1 => by
    have e := (k1.block _ (by simp) (fun h => h)).trans B0.out
    exact ⟨(cell_of e 0).trans rfl, (cell_of e 1).trans rfl⟩
  have HX : Hid _ := hbox
  clear hbox
  unfold chk at h
  have h1 : okG B S = true := by
    by_cases h1 : okG B S = false
    · rw [if_pos h1] at h; cases h
    · simpa using h1
  rw [if_neg (by rw [h1]; decide)] at h
  rw [h1] at HG
  obtain ⟨b, s, e1, e2, hb1, hb2, hs2⟩ := okG_nat h1
  obtain rfl : b = B := by omega
  obtain rfl : s = S := by omega
  have h2 : ¬ 4194304 < l.length := fun h2 => by rw [if_pos h2] at h; cases h
  rw [if_neg h2] at h
  have h3 : ¬ (b : Int) * s < ls.length := fun h3 => by rw [if_pos h3] at h; cases h
  rw [if_neg h3] at h
  have h4 : (decide (F.length ≤ 64) && F.all (okF b)) = true := by
    by_cases h4 : (decide (F.length ≤ 64) && F.all (okF b)) = false
    · rw [if_pos h4] at h; cases h
    · simpa using h4
  clear h e1 e2 h1
  have hF64 : F.length ≤ 64 ∧ ∀ f ∈ F, Fine b f := by
    simp only [Bool.and_eq_true, decide_eq_true_eq, List.all_eq_true, okF] at h4
    exact ⟨h4.1, fun f hf => by obtain ⟨⟨⟨k1, k2⟩, k3⟩, k4⟩ := h4.2 f hf; exact ⟨k1, k2, k3, k4⟩⟩
  obtain ⟨t, et⟩ : ∃ t, t = b * s := ⟨_, rfl⟩
  have hbs : (b : Int) * (s : Int) = (t : Int) := by rw [et]; simp
  have hbs2 : t ≤ 4194304 := by rw [et]; exact Nat.le_trans (Nat.mul_le_mul hb2 hs2) (by decide)
  rw [hbs] at h3
  have t2 : decide ((4194304 : Int) < (l.length : Int)) = false := by simp only [decide_eq_false_iff_not]; omega
  have t3 : decide ((t : Int) < (ls.length : Int)) = false := by simp only [decide_eq_false_iff_not]; omega
  have HR : Hid (∀ w1, Kept w w1 → Calls Try.prog 15 #[.slice fa F.length fc, .agg #[.int .i64 b, .int .i64 s]] w1 fun e w' => e = .returned (.bool true) ∧ Kept w1 w') := fun w1 k1 => by
    have hh := rfaults_any F fa fc b s w1 (hF.kept k1 (fun _ _ h => h)) (by omega)
    rw [h4] at hh
    exact hh
  have hmk := fun w' => make_bytes w' t hbs2
  have hwt : IntKind.i64.wrap (t : Int) = (t : Int) := by rw [IntKind.wrap_i64]; omega
  have hmm := @run_makeMap Try.prog
  have CB : Hid (∀ w1, Kept w w1 → Calls Try.prog 16 #[.slice ia l.length ic] w1 fun e w2 => ∃ v, e = .returned v ∧ CloneB w1 l v w2 ∧ Kept w w2) := fun w1 k1 =>
    (cloneB_any w1 ia ic l (hl.kept k1 (fun _ _ h => h)) hnl (by omega)).mono fun e w2 ⟨v, he, hc⟩ => ⟨v, he, hc, by obtain ⟨_, _, _, _, _, _, _, hk⟩ := hc; exact k1.trans' hk⟩
  have CF : Hid (∀ w1, Kept w w1 → Calls Try.prog 17 #[.slice fa F.length fc] w1 fun e w2 => ∃ v, e = .returned v ∧ CloneF w1 F v w2 ∧ Kept w w2) := fun w1 k1 =>
    (cloneF_any w1 fa fc F (hF.kept k1 (fun _ _ h => h)) hnf (by omega)).mono fun e w2 ⟨v, he, hc⟩ => ⟨v, he, hc, by obtain ⟨_, _, _, _, _, _, hk⟩ := hc; exact k1.trans' hk⟩
  have HLS : Hid _ := hls
  have HFF : Hid _ := hF64
  obtain ⟨nF, enF⟩ : ∃ n, n = F.length := ⟨_, rfl⟩
  obtain ⟨nl, enl⟩ : ∃ n, n = l.length := ⟨_, rfl⟩
  obtain ⟨ns, ens⟩ : ∃ n, n = ls.length := ⟨_, rfl⟩
  rw [← enF] at HR CF ⊢
  rw [← enl] at CB t2 h2 ⊢
  rw [← ens] at t3 h3 ⊢
  have ENF : Hid _ := enF
  have ENL : Hid _ := enl
  have ENS : Hid _ := ens
  have ET : Hid _ := et
  clear hl hls hF hnl hnf h4 hF64 enF enl ens et
  go_enter Try.func5, Try.ntmps5
  go_wp2_with fail
  refine Calls.mono (HG.out _) ?_
  rintro e w1 ⟨rfl, k1⟩
  have K1 : Hid _ := k1
  obtain ⟨x1, x2⟩ := HX.out w1 k1
  clear k1
  go_wp2_with fail
  refine Calls.mono (HR.out w1 (((Same.refl _ w).alloc _).trans' K1.out)) ?_
  rintro e w2 ⟨rfl, k2⟩
  have k12 := Same.trans' (K1.out) k2
  obtain ⟨x3, x4⟩ := HX.out w2 k12
  have kw2 : Kept w w2 := ((Same.refl _ w).alloc _).trans' k12
  have hb2 : w2.heap[w.heap.size]? = some (.cells #[.int .i64 b, .int .i64 s] 29 (0, 0)) := (k12.block _ (by simp) (fun h => h)).trans B0.out
  have hlt2 := lt_of_heap hb2
  have hbx : ∀ w3, Kept w2 w3 → w3.cell? ⟨w.heap.size, 0, none⟩ = some (.int .i64 b) ∧ w3.cell? ⟨w.heap.size, 1, none⟩ = some (.int .i64 s) ∧ w.heap.size < w3.heap.size := fun w3 k3 => by
    have e := (k3.block _ hlt2 (fun h => h)).trans hb2
    exact ⟨(cell_of e 0).trans rfl, (cell_of e 1).trans rfl, lt_of_heap e⟩
  have CB2 : Hid (∀ w1, Kept w2 w1 → Calls Try.prog 16 #[.slice ia nl ic] w1 fun e w3 => ∃ a cap, e = .returned (.slice a nl cap) ∧ CBp l w1 w3 a cap ∧ Kept w2 w3 ∧ w3.cell? ⟨w.heap.size, 0, none⟩ = some (.int .i64 b) ∧ w3.cell? ⟨w.heap.size, 1, none⟩ = some (.int .i64 s) ∧ w.heap.size < w3.heap.size) := fun w1 k1 =>
    (CB.out w1 (kw2.trans' k1)).mono fun e w3 ⟨v, he, hc, _⟩ => by
      obtain ⟨a, cap, rfl, r1, r2, rn, r3, hk⟩ := hc
      exact ⟨a, cap, by rw [he, ENL.out], ⟨r1, r2, rn, r3, hk⟩, k1.trans' hk, hbx _ (k1.trans' hk)⟩
  have CF2 : Hid (∀ w1, Kept w2 w1 → Calls Try.prog 17 #[.slice fa nF fc] w1 fun e w3 => ∃ a cap, e = .returned (.slice a nF cap) ∧ CFp F w1 w3 a ∧ Kept w2 w3 ∧ w3.cell? ⟨w.heap.size, 0, none⟩ = some (.int .i64 b) ∧ w3.cell? ⟨w.heap.size, 1, none⟩ = some (.int .i64 s) ∧ w.heap.size < w3.heap.size) := fun w1 k1 =>
    (CF.out w1 (kw2.trans' k1)).mono fun e w3 ⟨v, he, hc, _⟩ => by
      obtain ⟨a, cap, rfl, r1, _, r3, hk⟩ := hc
      exact ⟨a, cap, by rw [he, ENF.out], ⟨r1, r3, hk⟩, k1.trans' hk, hbx _ (k1.trans' hk)⟩
  have KW2 : Hid _ := kw2
  have HB2 : Hid _ := hbx
  have k22 : Kept w2 w2 := Same.refl _ _
  clear k2 k12 x1 x2 CB CF HR HG HX hb2 hbx kw2 B0 K1
  go_wp2_with fail
  have HBX : Hid (∀ w3, Kept w2 w3 → Kept w2 w3 ∧ w3.cell? ⟨w.heap.size, 0, none⟩ = some (.int .i64 b) ∧ w3.cell? ⟨w.heap.size, 1, none⟩ = some (.int .i64 s)) := fun w3 k3 => ⟨k3, (HB2.out w3 k3).1, (HB2.out w3 k3).2.1⟩
  go_region_held3 (fun w' => Kept w2 w' ∧ w'.cell? ⟨w.heap.size, 0, none⟩ = some (.int .i64 b) ∧ w'.cell? ⟨w.heap.size, 1, none⟩ = some (.int .i64 s))
    (exact HBX.out _ (by repeat (first | assumption | apply Same.alloc | apply Same.drew)))
    (first
    | (go_at_call 16; refine Calls.mono (CB2.out _ (by repeat (first | assumption | apply Same.alloc | apply Same.drew))) ?_; rintro e w3 ⟨ab, cb, rfl, hcb, kb, yb1, yb2, yb3⟩)
    | (go_at_call 17; refine Calls.mono (CF2.out _ (by repeat (first | assumption | apply Same.alloc | apply Same.drew))) ?_; rintro e w4 ⟨af, cf, rfl, hcf, kf, yf1, yf2, yf3⟩))
  all_goals
    refine name_world ?_
    intro W hW
    obtain ⟨hdev, kX⟩ := alloc_at hW
    clear hW
    obtain ⟨hb3, hcap3, hnil3, hfr3, kx3⟩ := hcb
    obtain ⟨hf4, hfr4, ky4⟩ := hcf
    first
    | (refine row_then (y := w2) (o := (rowObj (List.replicate t 0))) (W := W) ?_ ?_; (focus ((repeat (first | exact Same.refl _ _ | apply Same.alloc | apply Same.drew | refine Same.trans' ?_ kX | refine Same.trans' ?_ ky4 | refine Same.trans' ?_ kx3)); done)); intro hrow)
    | (refine row_then (y := (w2.alloc (.map #[] 0))) (o := (rowObj (List.replicate t 0))) (W := W) ?_ ?_; (focus ((repeat (first | exact Same.refl _ _ | apply Same.alloc | apply Same.drew | refine Same.trans' ?_ kX | refine Same.trans' ?_ ky4 | refine Same.trans' ?_ kx3)); done)); intro hrow)
    | (refine row_then (y := w3) (o := (rowObj (List.replicate t 0))) (W := W) ?_ ?_; (focus ((repeat (first | exact Same.refl _ _ | apply Same.alloc | apply Same.drew | refine Same.trans' ?_ kX | refine Same.trans' ?_ ky4 | refine Same.trans' ?_ kx3)); done)); intro hrow)
    | (refine row_then (y := (w3.alloc (.map #[] 0))) (o := (rowObj (List.replicate t 0))) (W := W) ?_ ?_; (focus ((repeat (first | exact Same.refl _ _ | apply Same.alloc | apply Same.drew | refine Same.trans' ?_ kX | refine Same.trans' ?_ ky4 | refine Same.trans' ?_ kx3)); done)); intro hrow)
    | (refine row_then (y := w4) (o := (rowObj (List.replicate t 0))) (W := W) ?_ ?_; (focus ((repeat (first | exact Same.refl _ _ | apply Same.alloc | apply Same.drew | refine Same.trans' ?_ kX | refine Same.trans' ?_ ky4 | refine Same.trans' ?_ kx3)); done)); intro hrow)
    | (refine row_then (y := (w4.alloc (.map #[] 0))) (o := (rowObj (List.replicate t 0))) (W := W) ?_ ?_; (focus ((repeat (first | exact Same.refl _ _ | apply Same.alloc | apply Same.drew | refine Same.trans' ?_ kX | refine Same.trans' ?_ ky4 | refine Same.trans' ?_ kx3)); done)); intro hrow)
    first
    | (refine row_then (y := w2) (o := (.map #[] 0)) (W := W) ?_ ?_; (focus ((repeat (first | exact Same.refl _ _ | apply Same.alloc | apply Same.drew | refine Same.trans' ?_ kX | refine Same.trans' ?_ ky4 | refine Same.trans' ?_ kx3)); done)); intro hmap)
    | (refine row_then (y := (w2.alloc (rowObj (List.replicate t 0)))) (o := (.map #[] 0)) (W := W) ?_ ?_; (focus ((repeat (first | exact Same.refl _ _ | apply Same.alloc | apply Same.drew | refine Same.trans' ?_ kX | refine Same.trans' ?_ ky4 | refine Same.trans' ?_ kx3)); done)); intro hmap)
    | (refine row_then (y := w3) (o := (.map #[] 0)) (W := W) ?_ ?_; (focus ((repeat (first | exact Same.refl _ _ | apply Same.alloc | apply Same.drew | refine Same.trans' ?_ kX | refine Same.trans' ?_ ky4 | refine Same.trans' ?_ kx3)); done)); intro hmap)
    | (refine row_then (y := (w3.alloc (rowObj (List.replicate t 0)))) (o := (.map #[] 0)) (W := W) ?_ ?_; (focus ((repeat (first | exact Same.refl _ _ | apply Same.alloc | apply Same.drew | refine Same.trans' ?_ kX | refine Same.trans' ?_ ky4 | refine Same.trans' ?_ kx3)); done)); intro hmap)
    | (refine row_then (y := w4) (o := (.map #[] 0)) (W := W) ?_ ?_; (focus ((repeat (first | exact Same.refl _ _ | apply Same.alloc | apply Same.drew | refine Same.trans' ?_ kX | refine Same.trans' ?_ ky4 | refine Same.trans' ?_ kx3)); done)); intro hmap)
    | (refine row_then (y := (w4.alloc (rowObj (List.replicate t 0)))) (o := (.map #[] 0)) (W := W) ?_ ?_; (focus ((repeat (first | exact Same.refl _ _ | apply Same.alloc | apply Same.drew | refine Same.trans' ?_ kX | refine Same.trans' ?_ ky4 | refine Same.trans' ?_ kx3)); done)); intro hmap)
    have hbW : BytesAt W ab l := hb3.kept (S := fun _ => False) (by (repeat (first | exact Same.refl _ _ | apply Same.alloc | apply Same.drew | refine Same.trans' ?_ kX | refine Same.trans' ?_ ky4 | refine Same.trans' ?_ kx3)); done) (fun _ _ h => h)
    have hfW : FaultsAt W af F := hf4.kept (S := fun _ => False) (by (repeat (first | exact Same.refl _ _ | apply Same.alloc | apply Same.drew | refine Same.trans' ?_ kX | refine Same.trans' ?_ ky4 | refine Same.trans' ?_ kx3)); done) (fun _ _ h => h)
    have kW : Kept w2 W := (by (repeat (first | exact Same.refl _ _ | apply Same.alloc | apply Same.drew | refine Same.trans' ?_ kX | refine Same.trans' ?_ ky4 | refine Same.trans' ?_ kx3)); done)
    have lb := fun k hk => BytesAt.lt hb3 (k := k) hk
    have lf := fun k hk => FaultsAt.lt hf4 (k := k) hk
    have z3 := kx3.size
    have z4 := ky4.size
    have zX := kX.size
    have zD := lt_of_heap hdev
    have hw2 := KW2.out.size
    simp only [World.size_alloc, show ∀ x : World, x.drew.heap.size = x.heap.size from fun _ => rfl] at hdev hrow hmap hfr3 hfr4 z3 z4 zX zD
    have hlsW : BytesAt W sa ls := BytesAt.kept (S := fun _ => False) HLS.out (KW2.out.trans' kW) (fun _ _ h => h)
    obtain ⟨w6, hcp, hg6, s6⟩ := copy_bytes (off := 0) (dLen := t) (dCap := t) (sLen := ns) (sCap := sc) hrow (show ls.length = Nat.min ns t by rw [← ENS.out]; exact (Nat.min_eq_left (by omega)).symm) hlsW (by rw [← ENS.out]; simp; omega) (fun _ => rfl)
    have hD := made_dv (ls := ls) (F := F) (l := l) hdev hrow hmap hbW hfW hcap3 hnil3 (fun k hk => by have := hfr3 k hk; have := lb k hk; omega) (fun k hk => by have := hfr4 k hk; have := lf k hk; omega) ET.out ENL.out ENF.out hb1 hb2 hs2 (by rw [← ENL.out]; omega) HFF.out (by rw [← ENS.out]; omega) s6 hg6
    have lr := lt_of_heap hrow
    have d3 := (cell_of hdev 3).trans rfl
    obtain ⟨q, hq, hq1, hq2, hq3⟩ := made_all (w := w) hD (by omega) (by omega) (by omega) (fun k hk => by have := hfr3 k hk; omega) (fun k hk => by have := hfr4 k hk; omega) ((KW2.out.trans' kW).trans s6 (fun i hi e => by omega))
    have HQ : Hid _ := hq
    have HQ1 : Hid _ := hq1
    have HQ2 : Hid _ := hq2
    have HQ3 : Hid _ := hq3
    rw [← ENS.out] at hcp
    simp only [goInt] at hcp
    clear hD hq hq1 hq2 hq3 hg6 s6 hrow hmap hbW hfW kW lb lf z3 z4 zX hlsW hdev hb3 hcap3 hnil3 hfr3 kx3 hf4 hfr4 ky4 kX kb kf k22 hmk hmm
    go_wp2_with fail
    go_ret2
    exact ⟨q, by rw [HQ.out]; rfl, HQ1.out, HQ2.out, HQ3.out⟩
end Go.Proofs.Ytpjkmficpedmcaa
