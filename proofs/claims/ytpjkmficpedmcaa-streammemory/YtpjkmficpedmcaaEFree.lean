/- What is proved: Free and New of a space that lies in memory. -/
import Derived.Test.YtpjkmficpedmcaaEJoin
namespace Go.Proofs.Ytpjkmficpedmcaa
open Go.RowKit
set_option maxRecDepth 100000

/-- What Free answers. -/
def FreeP (w : World) (p N hb : Nat) (L : List Ex) (x : Ex) (r : Ending) (w' : World) : Prop :=
  (¬ (1 ≤ x.c ∧ 0 ≤ x.f ∧ x.c ≤ N - x.f) ∧ r = .returned (.int .i64 43) ∧ Kept w w') ∨
  ((1 ≤ x.c ∧ 0 ≤ x.f ∧ x.c ≤ N - x.f) ∧ ¬ NoneF x L ∧ r = .returned (.int .i64 44) ∧ Kept w w') ∨
  ((1 ≤ x.c ∧ 0 ≤ x.f ∧ x.c ≤ N - x.f) ∧ NoneF x L ∧ r = .returned (.int .i64 0) ∧ ∃ L', Upd w p N hb L' w' ∧ ∀ b, Mm b L' ↔ Mm b L ∨ (x.f ≤ b ∧ b < x.f + x.c))

theorem isB {L : List Ex} {x : Ex} {r : Ending} (h : (r = .returned (.bool true) ∧ ∃ e ∈ L, meetb x e = true) ∨ (r = .returned (.bool false) ∧ ∀ e ∈ L, meetb x e = false)) : ∃ z, r = .returned (.bool z) ∧ ((z = true ∧ ∃ e ∈ L, meetb x e = true) ∨ (z = false ∧ ∀ e ∈ L, meetb x e = false)) := by
  rcases h with ⟨h1, h2⟩ | ⟨h1, h2⟩
  · exact ⟨true, h1, .inl ⟨rfl, h2⟩⟩
  · exact ⟨false, h1, .inr ⟨rfl, h2⟩⟩

set_option maxRecDepth 100000 in
set_option maxHeartbeats 1600000 in
theorem free_any {w : World} {p N : Nat} {L : List Ex} {a : Option Addr} {hb c : Nat} (hS : Sp w p N L a hb c) (x : Ex) (hf : x.f ≤ 9223372036854775807) :
    Calls Try.prog 40 #[.pointer (some ⟨p, 0, none⟩), exV x] w fun r w' => FreeP w p N hb L x r w' := by
  have HH : Hid (∀ W, Kept w W → _) := fun W (k : Kept w W) => has_any p N (.slice a L.length c) x W hS.small hf ((k.block _ hS.lt (fun h => h)).trans hS.obj)
  have HS : Hid _ := hS
  have hpl := hS.lt
  have c1 : w.cell? ⟨p, 1, none⟩ = some (.slice a L.length c) := (cell_of hS.obj 1).trans rfl
  have hnot : ∀ (x : Bool) (w : World), (Op.unary .not (.bool x)).run Try.prog w = .ok (.bool (!x)) w := fun _ _ => rfl
  have hmf : ∀ (fn : Fn) (first cap : Array Value) (w : World), (Instr.makeFunc fn first cap).run Try.prog w = .ok (.func fn first cap) w := fun _ _ _ _ => rfl
  clear hS
  by_cases hg : 1 ≤ x.c ∧ 0 ≤ x.f ∧ x.c ≤ N - x.f
  · have HG : Hid _ := hg
    rw [decide_eq_true hg] at HH
    have hsm : Sm x := ⟨hg.2.1, by omega, by have := HS.out.small; omega⟩
    have HI : Hid (∀ W, Kept w W → _) := fun W (k : Kept w W) => contains_any x hsm a L c W (HS.out.exts.kept k (fun _ _ h => h)) (HS.out.wf.sm HS.out.small) (HS.out.wf.len HS.out.small)
    have HC : Hid (∀ W, Kept w W → (∀ e ∈ L, meetb x e = false) → _) := fun W (k : Kept w W) (q : ∀ e ∈ L, meetb x e = false) => join_any (HS.out.kept0 k) x hg.1 hg.2.1 (by omega) q
    have HB : Hid _ := heap_new w (exO x)
    obtain ⟨n, en⟩ : ∃ n, n = L.length := ⟨_, rfl⟩
    rw [← en] at c1 HI
    clear hsm hg en
    unfold exV exO at *
    go_enter Try.func40, Try.ntmps40
    go_wp2_with fail
    refine Calls.mono (HH.out _ ((Same.refl _ _).alloc _)) ?_
    rintro r w1 ⟨rfl, k1⟩
    have hb1 : w1.heap[w.heap.size]? = some (exO x) := (k1.block _ (by simp) (fun h => h)).trans HB.out
    have KK : Hid (Kept w w1) := ((Same.refl _ _).alloc _).trans' k1
    have HX : Hid (∀ w3, Kept w1 w3 → Kept w1 w3 ∧ w3.cell? ⟨w.heap.size, 0, none⟩ = some (.int .i64 x.f) ∧ w3.cell? ⟨w.heap.size, 1, none⟩ = some (.int .i64 x.c) ∧ w3.cell? ⟨p, 1, none⟩ = some (.slice a n c)) := fun w3 k => by
      have e0 := (k.block _ (lt_of_heap hb1) (fun h => h)).trans hb1
      exact ⟨k, (cell_of e0 0).trans rfl, (cell_of e0 1).trans rfl, (((KK.out.trans' k).cell (p := ⟨p, 1, none⟩) hpl (fun h => h))).trans c1⟩
    have hpl1 : p < w1.heap.size := Nat.lt_of_lt_of_le hpl KK.out.size
    have HB1 : Hid _ := hb1
    clear k1 hb1
    go_wp2_with fail
    go_cut [15] (fun s5 wx => ∃ z : Bool, s5 = .bool z ∧ ((z = true ∧ ∃ e ∈ L, meetb x e = true) ∨ (z = false ∧ ∀ e ∈ L, meetb x e = false)) ∧ Kept w1 wx)
    case first =>
      go_region_held3 (fun w' => Kept w1 w' ∧ w'.cell? ⟨w.heap.size, 0, none⟩ = some (.int .i64 x.f) ∧ w'.cell? ⟨w.heap.size, 1, none⟩ = some (.int .i64 x.c) ∧ w'.cell? ⟨p, 1, none⟩ = some (.slice a n c))
        (exact HX.out _ (by (repeat (first | exact Same.refl _ _ | apply Same.alloc | apply Same.drew | refine Same.trans' ?_ k2)); done))
        (first | (refine Calls.mono (HI.out _ (KK.out.trans' (by (repeat (first | exact Same.refl _ _ | apply Same.alloc | apply Same.drew)); done))) ?_; rintro r w2 ⟨hF, k2⟩; obtain ⟨z, rfl, hG⟩ := isB hF))
      all_goals
        go_wp2_with fail
        go_meet
        exact ⟨z, rfl, hG, (Same.drew (Same.refl _ _)).trans' k2⟩
    case rest =>
      obtain ⟨z, rfl, hF, kc⟩ := hcut
      have hx0 := HX.out wc kc
      obtain ⟨-, x0, x1, -⟩ := hx0
      have KC : Hid (Kept w wc) := KK.out.trans' kc
      have hbl : w.heap.size < wc.heap.size := Nat.lt_of_lt_of_le (lt_of_heap HB1.out) kc.size
      clear kc
      rcases hF with ⟨rfl, h1⟩ | ⟨rfl, h1⟩
      · have H1 : Hid _ := h1
        clear h1
        go_wp2_with fail
        go_ret
        refine .inr (.inl ⟨HG.out, fun ha => ?_, rfl, KC.out⟩)
        obtain ⟨e, he, hi⟩ := H1.out
        have := (noneF_iff HS.out.wf HG.out.1).1 ha e he
        rw [hi] at this
        cases this
      · have HC' : Hid _ := HC.out wc KC.out h1
        have H1 : Hid _ := h1
        clear h1
        go_wp2_with fail
        refine Calls.mono HC'.out ?_
        rintro r w3 ⟨rfl, L', hu, hm⟩
        have HU : Hid _ := hu
        have HMm : Hid _ := hm
        clear hu hm
        go_wp2_with fail
        go_ret
        exact .inr (.inr ⟨HG.out, (noneF_iff HS.out.wf HG.out.1).2 H1.out, rfl, L', Upd.pre KC.out HU.out, HMm.out⟩)
  · have HG : Hid _ := hg
    rw [decide_eq_false hg] at HH
    clear hg
    unfold exV at *
    go_enter Try.func40, Try.ntmps40
    go_wp2_with fail
    refine Calls.mono (HH.out _ ((Same.refl _ _).alloc _)) ?_
    rintro r w1 ⟨rfl, k1⟩
    have KK : Hid (Kept w w1) := ((Same.refl _ _).alloc _).trans' k1
    clear k1
    go_wp2_with fail
    go_ret
    exact .inl ⟨HG.out, rfl, KK.out⟩

set_option maxRecDepth 100000 in
theorem enew_no (N : Int) (hN : N < 0 ∨ 4096 < N) (w : World) : Calls Try.prog 6 #[.int .i64 N] w fun r w' => r = .returned (.tuple #[.pointer none, .int .i64 40]) ∧ w' = w := by
  rcases hN with h | h
  · have h' : decide (N < 0) = true := decide_eq_true h
    go_enter Try.func6, Try.ntmps6
    go_wp2_with fail
    go_ret2
    exact ⟨rfl, rfl⟩
  · have h0 : decide (N < 0) = false := decide_eq_false (by omega)
    have h0' : ¬ (N < 0) := by omega
    have h' : decide (4096 < N) = true := decide_eq_true h
    go_enter Try.func6, Try.ntmps6
    go_wp2_with fail
    go_ret2
    exact ⟨rfl, rfl⟩
/-- What New answers. -/
def NewP (w : World) (N : Nat) (r : Ending) (w' : World) : Prop :=
  ∃ p L a hb c, r = .returned (.tuple #[.pointer (some ⟨p, 0, none⟩), .int .i64 0]) ∧ Sp w' p N L a hb c ∧ (∀ b, Mm b L ↔ 0 ≤ b ∧ b < N) ∧ w.heap.size ≤ p ∧ w.heap.size ≤ hb ∧ Kept w w'
set_option maxRecDepth 100000 in
theorem enew_yes (N : Nat) (hN : N ≤ 4096) (w : World) : Calls Try.prog 6 #[.int .i64 (N : Int)] w fun r w' => NewP w N r w' := by
  have h0 : decide ((N : Int) < 0) = false := decide_eq_false (by omega)
  have h0' : ¬ ((N : Int) < 0) := by omega
  have h1 : decide (4096 < (N : Int)) = false := decide_eq_false (by omega)
  have h1' : ¬ (4096 < (N : Int)) := by omega
  by_cases hz : N = 0
  · subst hz
    clear h0 h0' h1 h1'
    go_enter Try.func6, Try.ntmps6
    go_wp2_with fail
    go_ret2
    refine ⟨w.heap.size, [], none, w.heap.size, 0, rfl, ⟨heap_new _ _, .inl ⟨rfl, rfl, rfl, rfl, rfl⟩, trivial, by omega⟩, fun b => ⟨fun h => absurd h (mm_nil b), fun h => by omega⟩, Nat.le_refl _, Nat.le_refl _, (Same.refl _ _).alloc _⟩
  · have hp : (0 : Int) < (N : Int) := by omega
    have hp' : decide ((0 : Int) < (N : Int)) = true := decide_eq_true hp
    go_enter Try.func6, Try.ntmps6
    go_wp2_with fail
    go_ret2
    have g1 : ((w.alloc (spO N (some ⟨w.heap.size + 1, 0, none⟩) 1 1)).alloc (exO ⟨0, N⟩)).heap[w.heap.size + 1]? = some (exO ⟨0, N⟩) := by
      have := heap_new (w.alloc (spO N (some ⟨w.heap.size + 1, 0, none⟩) 1 1)) (exO ⟨0, N⟩)
      rw [World.size_alloc] at this
      exact this
    refine ⟨w.heap.size, [⟨0, N⟩], some ⟨w.heap.size + 1, 0, none⟩, w.heap.size + 1, 1, rfl, ⟨(heap_old _ _ (by simp)).trans (heap_new _ _), .inr ⟨rfl, [.int .i64 0, .int .i64 N], g1, rfl, Nat.le_refl _, fun k _ => rfl⟩, ⟨Int.le_refl _, by show 1 ≤ (N : Int); omega, by show 0 + (N : Int) ≤ N; omega, trivial⟩, hN⟩, fun b => ?_, Nat.le_refl _, Nat.le_succ _, ((Same.refl _ _).alloc _).alloc _⟩
    rw [mm_one]
    show 0 ≤ b ∧ b < 0 + (N : Int) ↔ _
    omega
end Go.Proofs.Ytpjkmficpedmcaa
