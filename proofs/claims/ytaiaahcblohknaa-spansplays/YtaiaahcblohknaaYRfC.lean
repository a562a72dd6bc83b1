/- What is proved: the document's Remove: what it answers and leaves; its forest lies in memory. -/
import Derived.Test.YtaiaahcblohknaaYRfB
namespace Go.Proofs.Ytaiaahcblohknaa
open Go.RowKit

/-- Is it this span of this key? -/
def isE (k : ByteArray) (x : Sp) (e : Ks) : Bool := e.key.toList == k.toList && decide (e.s = x)
theorem eql_ks (a b : Ks) (w : World) : (binOp .eql 58 (.agg #[.string a.key, .int .i64 a.s.f, .int .i64 a.s.t, .int .i64 a.s.i]) (.agg #[.string b.key, .int .i64 b.s.f, .int .i64 b.s.t, .int .i64 b.s.i])).run Try.prog w = .ok (.bool (isE b.key b.s a)) w := by
  obtain ⟨ak, af, at_, ai⟩ := a
  obtain ⟨bk, bf, bt, bi⟩ := b
  unfold isE
  go_simp
  by_cases h0 : ak.toList = bk.toList <;> by_cases h1 : af = bf <;> by_cases h2 : at_ = bt <;> by_cases h3 : ai = bi <;> simp [h0, h1, h2, h3]
theorem neq_ks (a b : Ks) (w : World) : (binOp .neq 58 (.agg #[.string a.key, .int .i64 a.s.f, .int .i64 a.s.t, .int .i64 a.s.i]) (.agg #[.string b.key, .int .i64 b.s.f, .int .i64 b.s.t, .int .i64 b.s.i])).run Try.prog w = .ok (.bool (!isE b.key b.s a)) w := by
  obtain ⟨ak, af, at_, ai⟩ := a
  obtain ⟨bk, bf, bt, bi⟩ := b
  unfold isE
  go_simp
  by_cases h0 : ak.toList = bk.toList <;> by_cases h1 : af = bf <;> by_cases h2 : at_ = bt <;> by_cases h3 : ai = bi <;> simp [h0, h1, h2, h3]
set_option maxRecDepth 100000 in
set_option maxHeartbeats 1600000 in
theorem rremove14 {G : Nat → Prop} {w : World} {rb : Nat} {A : List Ks} (h : RFo G w rb A) (k : ByteArray) (x : Sp) (hn : A.length + 1 ≤ 5000000000000) :
    Calls Try.prog 20 #[.pointer (some ⟨rb, 0, none⟩), ksV ⟨k, x⟩] w fun r w' => r = .returned (.bool (decide ((rdel A k x).length < A.length))) ∧ RStp G w rb (rdel A k x) w' := by
  have HK0 : Hid _ := (Same.refl (fun _ => False) w).alloc (ksO ⟨k, x⟩)
  have HG : Hid _ := heap_new w (ksO ⟨k, x⟩)
  obtain ⟨va, hob, how, -⟩ := (h.on HK0.out).ex
  obtain ⟨a, cap, rfl, hens, -⟩ := OwnK.at how
  have y0 : (w.alloc (ksO ⟨k, x⟩)).cell? ⟨rb, 0, none⟩ = some (.slice a A.length cap) := (cell_of hob 0).trans rfl
  have hrl := lt_of_heap hob
  have HEN : Hid _ := hens
  have HS : Hid _ := h
  have HRD : Hid (rdel A k x = A.filter fun e => !isE k x e) := rfl
  obtain ⟨n, en⟩ : ∃ n, n = A.length := ⟨_, rfl⟩
  rw [← en] at hn y0 ⊢
  have EN : Hid _ := en
  have HNN : Hid (∀ j, ((A.take j).filter fun e => !isE k x e).length ≤ n) := fun j => by rw [en]; exact filter_takeN _ _ _
  clear hob how hens h en
  generalize rdel A k x = B at *
  generalize hbb : decide (B.length < n) = bb
  have HBB : Hid (decide (B.length < n) = bb) := hbb
  clear hbb
  go_enter Try.func20, Try.ntmps20
  go_upto_region 1 with fail
  generalize w.alloc (ksO ⟨k, x⟩) = W at *
  generalize hgg : w.heap.size = g at HG ⊢
  have HGW : Hid _ := hgg
  clear hgg
  have hgl := lt_of_heap HG.out
  obtain ⟨xf, xt, xi⟩ := x
  go_wp2_with fail
  go_loopw [5, 6] (fun s5 s6 wr => ∃ j : Nat, j ≤ n ∧ s6 = .int .i64 j ∧ OwnK W.heap.size wr s5 ((A.take j).filter fun e => !isE k ⟨xf, xt, xi⟩ e) ∧ (∃ a' n' c', s5 = .slice a' n' c') ∧ Kept W wr) (fun _ s6 _ => n - (intOf s6).toNat)
  case atStart => exact ⟨0, Nat.zero_le _, rfl, OwnK.nil _ _, ⟨_, _, _, rfl⟩, Same.refl _ _⟩
  case round =>
    obtain ⟨j, hj, rfl, ho, ⟨a', n', c', rfl⟩, kk⟩ := hrel
    have KK : Hid (Kept W wr) := kk
    have HO : Hid _ := ho
    have z0 : wr.cell? ⟨rb, 0, none⟩ = some (.slice a n cap) := (kk.cell (p := ⟨rb, 0, none⟩) hrl (fun e => e)).trans y0
    have zl : rb < wr.heap.size := Nat.lt_of_lt_of_le hrl kk.size
    have hgo := (kk.block g hgl (fun e => e)).trans HG.out
    obtain ⟨u0, u1, u2, u3⟩ := ks_obj hgo
    have ugl := lt_of_heap hgo
    clear kk ho hgo
    by_cases hlt : j < n
    · have c1 : decide ((j : Int) < (n : Int)) = true := by simp only [decide_eq_true_eq]; omega
      have hlt2 : (j : Int) < (n : Int) := by omega
      have hlt3 : (0 : Int) ≤ (j : Int) := by omega
      obtain ⟨e, he⟩ : ∃ e, A[j]? = some e := ⟨_, List.getElem?_eq_getElem (by rw [← show n = A.length from EN.out]; exact hlt)⟩
      obtain ⟨b, off, rfl, hb, q0, q1, q2, q3⟩ := (KsAt.on HEN.out KK.out) j e he
      have HFT : Hid _ := filter_takeK he (fun e => !isE k ⟨xf, xt, xi⟩ e)
      have nq := neq_ks e ⟨k, ⟨xf, xt, xi⟩⟩
      simp only at nq
      clear he
      obtain ⟨ek, ef, et, ei⟩ := e
      simp only at q0 q1 q2 q3 nq
      cases hq : isE k ⟨xf, xt, xi⟩ ⟨ek, ⟨ef, et, ei⟩⟩
      · rw [hq] at nq
        simp only [Bool.not_false] at nq
        have HF1 : Hid ((A.take (j + 1)).filter (fun e => !isE k ⟨xf, xt, xi⟩ e) = (A.take j).filter (fun e => !isE k ⟨xf, xt, xi⟩ e) ++ [⟨ek, ⟨ef, et, ei⟩⟩]) := (show (A.take (j + 1)).filter (fun e => !isE k ⟨xf, xt, xi⟩ e) = _ from HFT.out).trans (by rw [if_pos (by rw [hq]; rfl)])
        have HAP : Hid (∀ W', Kept wr W' → ∀ g', W'.heap[g']? = some (ksO ⟨ek, ⟨ef, et, ei⟩⟩) → ∀ ty, _) := fun W' k' g' hg' ty => app_since ⟨ek, ⟨ef, et, ei⟩⟩ HO.out KK.out (by have h9 := HNN.out j; omega) W' k' (g := g') hg' ty
        clear hq HFT
        go_upto_region 5 with fail
        go_quiet (fail)
        go_wp2_with (at_builtin; refine wpList_app rfl (.tmp 26) (.tmp 34) 27 rfl _ _ rfl rfl _ (HAP.out _ (by (repeat (first | exact Same.refl _ _ | apply Same.alloc | apply Same.drew | apply Same.drewN)); done) _ (by exact heap_new _ _)) ?_; rintro v4 w4 ⟨o4, ⟨a4, n4, c4, rfl⟩, k4, s4⟩)
        go_roundw
        case rel => exact ⟨j + 1, by omega, by simp, by rw [show (A.take (j + 1)).filter (fun e => !isE k ⟨xf, xt, xi⟩ e) = _ from HF1.out]; exact o4, ⟨_, _, _, rfl⟩, k4⟩
        case measure => simp only [intOf]; omega
      · rw [hq] at nq
        simp only [Bool.not_true] at nq
        have HF1 : Hid ((A.take (j + 1)).filter (fun e => !isE k ⟨xf, xt, xi⟩ e) = (A.take j).filter (fun e => !isE k ⟨xf, xt, xi⟩ e)) := (show (A.take (j + 1)).filter (fun e => !isE k ⟨xf, xt, xi⟩ e) = _ from HFT.out).trans (by rw [if_neg (by rw [hq]; decide), List.append_nil])
        clear hq HFT
        go_upto_region 5 with fail
        go_quiet (fail)
        go_wp2_with fail
        go_roundw
        case rel => exact ⟨j + 1, by omega, by simp, by rw [show (A.take (j + 1)).filter (fun e => !isE k ⟨xf, xt, xi⟩ e) = _ from HF1.out]; exact OwnK.on HO.out (Same.drewN (Same.refl _ _) _), ⟨_, _, _, rfl⟩, Same.drewN KK.out _⟩
        case measure => simp only [intOf]; omega
    · have c1 : decide ((j : Int) < (n : Int)) = false := by simp only [decide_eq_false_iff_not]; omega
      obtain rfl : n = j := by omega
      have ho2 := HO.out
      rw [show A.take n = A by rw [show n = A.length from EN.out]; exact List.take_length, ← show B = _ from HRD.out] at ho2
      obtain ⟨a5, c5, e5, -⟩ := OwnK.at ho2
      cases e5
      obtain ⟨⟨u, hu⟩, hf, hrb, hst⟩ := RFo.lay HS.out (Same.trans' HK0.out KK.out) (OwnK.low ho2 HK0.out.size)
      have HST : Hid _ := hst
      clear hst ho2 HO hu
      have e9 : Ending.returned (.bool (decide (B.length < n))) = Ending.returned (.bool bb) := by rw [show decide (B.length < n) = bb from HBB.out]
      have E9 : Hid _ := e9
      clear e9
      go_wp2_with fail
      all_goals
        go_ret
        exact ⟨E9.out, HST.out⟩
end Go.Proofs.Ytaiaahcblohknaa
