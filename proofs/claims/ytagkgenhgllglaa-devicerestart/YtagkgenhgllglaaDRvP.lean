/- What is proved: the law's faults hands the faults on; they lie in memory. -/
import Derived.Test.YtagkgenhgllglaaDRvO
namespace Go.Proofs.Ytagkgenhgllglaa
open Go.RowKit

theorem flt_new (w : World) (f : Fl) (t : TypeId) : FaultsAt (w.alloc (.cells #[.int .i64 f.k, .int .i64 f.b, .int .i64 f.n, .int .i64 f.p] t (0, 0))) (some ⟨w.heap.size, 0, none⟩) [f] := fun i e he => by
  have hi : i = 0 := by have := (List.getElem?_eq_some_iff.1 he).1; simp at this; omega
  subst hi
  simp at he
  subst he
  exact ⟨w.heap.size, 0, rfl, by simp, (cell_of (heap_new _ _) 0).trans rfl, (cell_of (heap_new _ _) 1).trans rfl, (cell_of (heap_new _ _) 2).trans rfl, (cell_of (heap_new _ _) 3).trans rfl⟩
/-- A list of faults of one's own. -/
def FOwn (w : World) (F : List Fl) (e : Ending) (w' : World) : Prop := ∃ a c, e = .returned (.slice a F.length c) ∧ FaultsAt w' a F ∧ (a = none → F.length = 0 ∧ c = 0) ∧ (∀ k, InB a F.length k → w.heap.size ≤ k) ∧ Kept w w'
set_option maxRecDepth 100000 in
set_option maxHeartbeats 800000 in
theorem faults_any (F : List Fl) (fa : Option Addr) (fc : Nat) (w : World) (hF : FaultsAt w fa F) (hlen : F.length * 32 ≤ 140737488355328) :
    Calls Try.prog 20 #[.slice fa F.length fc] w fun e w' => FOwn w F e w' := by
  have HF : Hid _ := hF
  obtain ⟨n, en⟩ : ∃ n, n = F.length := ⟨_, rfl⟩
  rw [← en] at hlen ⊢
  have EN : Hid _ := en
  have HLN : Hid _ := hlen
  have hn : n ≤ 9000000000000 := by omega
  clear hF en hlen
  go_enter Try.func20, Try.ntmps20
  go_wp2_with fail
  go_loopw [3, 8] (fun s3 i wr => ∃ (j : Nat) (av : Value), j ≤ n ∧ i = .int .i64 j ∧ av = s3 ∧ wr.ownsRow w.heap.size 75 4 av (F.take j).length (fcs (F.take j)) ∧ Kept w wr) (fun _ i _ => n - (intOf i).toNat)
  case atStart => exact ⟨0, _, Nat.zero_le _, rfl, rfl, World.ownsRow_nil _ _ _ _, Same.refl _ _⟩
  case round =>
    obtain ⟨j, av, hj, rfl, rfl, hown, kk⟩ := hrel
    have KK : Hid _ := kk
    have HO : Hid _ := hown
    by_cases hlt : j < n
    · have a1 : decide ((j : Int) < (n : Int)) = true := by simp only [decide_eq_true_eq]; omega
      have a2 : (j : Int) < (n : Int) := by omega
      obtain ⟨f, hf⟩ : ∃ f, F[j]? = some f := ⟨_, List.getElem?_eq_getElem (by rw [← EN.out]; exact hlt)⟩
      obtain ⟨fb, off, rfl, hfb, q0, q1, q2, q3⟩ := (FaultsAt.kept HF.out kk (fun _ _ h => h)) j f hf
      have HT : Hid (F.take (j + 1) = F.take j ++ [f]) := by rw [List.take_add_one, hf]; rfl
      have k1 : Kept w ((wr.alloc (.cells #[.int .i64 f.k, .int .i64 f.b, .int .i64 f.n, .int .i64 f.p] 41 (0, 0))).alloc (.cells #[.int .i64 f.k, .int .i64 f.b, .int .i64 f.n, .int .i64 f.p] 75 (0, 0))) := (kk.alloc _).alloc _
      have hfl := flt_new (wr.alloc (.cells #[.int .i64 f.k, .int .i64 f.b, .int .i64 f.n, .int .i64 f.p] 41 (0, 0))) f 75
      have HAP : Hid (∀ ty, ∃ v' w', (Builtin.append_ #[52, 52] ty #[av, .slice (some ⟨wr.heap.size + 1, 0, none⟩) 1 1]).run Try.prog ((wr.alloc (.cells #[.int .i64 f.k, .int .i64 f.b, .int .i64 f.n, .int .i64 f.p] 41 (0, 0))).alloc (.cells #[.int .i64 f.k, .int .i64 f.b, .int .i64 f.n, .int .i64 f.p] 75 (0, 0))) = .ok v' w' ∧ (w'.ownsRow w.heap.size 75 4 v' (F.take (j + 1)).length (fcs (F.take (j + 1))) ∧ Kept w w')) := fun ty => by
        rw [World.size_alloc] at hfl
        obtain ⟨v', w', r1, r2, r3, r4⟩ := app_faults Try.underlying52 Try.infoRFault (c := 1) ((hown.alloc _).alloc _) hfl (fun e => by cases e) (by rw [List.length_take]; have := HLN.out; simp; omega) k1.size ty
        refine ⟨v', w', r1, ?_, k1.trans (Same.of_grown r3 (S := fun k => w.heap.size ≤ k) fun k hk => (World.ownsRow.lt hown k hk).1) fun i hi e => by omega⟩
        rw [HT.out]
        exact r2
      clear kk hown hf k1 hfl
      go_wp2_with (at_builtin; apply Hid.out)
      refine wpList_app rfl (.tmp 12) (.tmp 22) 52 rfl av (.slice (some ⟨wr.heap.size + 1, 0, none⟩) 1 1) rfl rfl _ HAP.out ?_
      rintro v5 w5 ⟨o5, k5⟩
      have HW : Hid (∃ (i : Nat) (u : Value), i ≤ n ∧ Value.int .i64 ((j : Int) + 1) = .int .i64 i ∧ u = v5 ∧ w5.ownsRow w.heap.size 75 4 u (F.take i).length (fcs (F.take i)) ∧ Kept w w5) := ⟨j + 1, v5, by omega, by simp, rfl, o5, k5⟩
      clear o5 k5 HAP
      go_wp2_with fail
      go_roundw
      case rel => exact HW.out
      case measure => simp only [intOf]; omega
    · have a1 : decide ((j : Int) < (n : Int)) = false := by simp only [decide_eq_false_iff_not]; omega
      obtain rfl : j = n := by omega
      have HE : Hid (∀ u, u = av → FOwn w F (.returned u) wr) := fun u eu => by
        subst eu
        have h5 := HO.out
        rw [EN.out, List.take_length] at h5
        obtain ⟨a, cap, e1, q2, q3⟩ := FaultsAt.of_row h5
        subst e1
        exact ⟨a, cap, rfl, q2, (row_caps h5).2, q3, KK.out⟩
      clear kk hown
      go_wp2_with fail
      go_ret
      exact HE.out _ rfl
end Go.Proofs.Ytagkgenhgllglaa
