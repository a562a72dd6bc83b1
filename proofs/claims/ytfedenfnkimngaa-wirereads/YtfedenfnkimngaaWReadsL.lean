/- What is proved: WireReads answers true for every list of bytes and every list of calls. -/
import Derived.Test.YtfedenfnkimngaaWStep4
namespace Go.Proofs.Ytfedenfnkimngaa
open Go.RowKit

theorem Both.lt {base : Nat} {w : World} {cb rb : Nat} {l : List Int} {pl : Nat} {ft : Int} (h : Both base w cb rb l pl ft) : cb < w.heap.size ∧ rb < w.heap.size ∧ base ≤ cb ∧ base ≤ rb := by
  obtain ⟨a, cap, a', cap', h1, h2, _, _, h3, h4, _⟩ := h
  exact ⟨h1.lt, h2.lt, h3, h4⟩

theorem OwnB.caps {base : Nat} {w : World} {a : Option Addr} {n cap : Nat} {l : List Int} (h : OwnB base w (.slice a n cap) l) : l.length ≤ cap ∧ (a = none → l.length = 0 ∧ cap = 0) := by
  obtain ⟨a', cap', e, _, h1, h2, _⟩ := OwnB.bytes h
  simp only [Value.slice.injEq] at e
  obtain ⟨rfl, _, rfl⟩ := e
  exact ⟨h1, h2⟩

set_option maxRecDepth 100000 in
set_option maxHeartbeats 3200000 in
theorem reads_any (oa : Option Addr) (c : Nat) (l : List Int) (sa : Option Addr) (sc : Nat) (ls : List O5) (w : World) (h : ArgB w oa c l) (hs : ArgO w sa sc ls) :
    Calls Try.prog 3 #[.slice oa l.length c, .slice sa ls.length sc] w fun e w' => e = .returned (.bool true) ∧ Kept w w' := by
  have hnot : ∀ (x : Bool) (w : World), (Op.unary .not (.bool x)).run Try.prog w = .ok (.bool (!x)) w := fun _ _ => rfl
  have hle := h.le
  have hlo : ls.length ≤ 140737488351232 := by have := hs.len; unfold reachBytes at this; omega
  have HA : Hid _ := anchor_any w
  have HR : Hid (∀ W, Kept w W → _) := fun W (k : Kept w W) => app_lit (c := c) (h.on k).data h.nil (by omega)
  have HO : Hid (∀ base W v, OwnB base W v l → _) := fun base W v (o : OwnB base W v l) => open_own o h.byts (by omega)
  have HBY : Hid _ := h.byts
  have HS : Hid _ := hs.data
  obtain ⟨n, en⟩ : ∃ n, n = l.length := ⟨_, rfl⟩
  obtain ⟨N, eN⟩ : ∃ N, N = ls.length := ⟨_, rfl⟩
  rw [← en] at HR hle ⊢
  rw [← eN] at hlo ⊢
  have EN : Hid _ := eN
  have En : Hid _ := en
  clear h hs en eN
  go_enter Try.func3, Try.ntmps3
  go_wp2_with fail
  refine Calls.mono HA.out ?_
  rintro e w1 ⟨rfl, k1⟩
  have K1 : Hid _ := k1
  clear k1
  go_wp2_with (at_builtin; refine wpList_app rfl (.tmp 11) (.tmp 12) 22 22 rfl _ _ rfl rfl _ (HR.out _ K1.out) ?_; rintro v2 w2 ⟨o2, k2⟩)
  refine Calls.mono (HO.out _ _ _ o2) ?_
  rintro e w3 ⟨v3, rfl, hc3, k3⟩
  obtain ⟨cb, a, cap, rfl, u3, hcb, hcg⟩ := hc3
  have K3 : Hid (Kept w w3) := (Same.trans' K1.out k2).trans' k3
  have K3w : Hid (Kept w2 w3) := k3
  have HZ : Hid (w.heap.size ≤ w2.heap.size) := by have := K1.out.size; have := k2.size; show w.heap.size ≤ _; omega
  have U3 : Hid _ := u3
  have HCG : Hid _ := hcg
  clear o2 k2 u3 k3 hcg
  go_wp2_with (at_builtin; refine wpList_app rfl (.tmp 17) (.tmp 18) 22 22 rfl _ _ rfl rfl _ (HR.out _ K3.out) ?_; rintro v4 w4 ⟨o4, k4⟩; (obtain ⟨a4, c4, rfl, b4, l4, n4, ha4, sp4⟩ := OwnB.bytes o4); rw [← En.out]; have O4 : Hid _ := o4; have K4 : Hid _ := k4; have B4 : Hid _ := b4; have HA4 : Hid _ := ha4; clear o4 k4 b4 n4 ha4 sp4 l4)
  have HB0 : Hid (Both w2.heap.size (w4.alloc (rcurO a4 n c4 0 0)) cb w4.heap.size l 0 0) := by
    have kk : Kept w3 (w4.alloc (rcurO a4 n c4 0 0)) := K4.out.alloc _
    have hcl := U3.out.lt
    have hz := K4.out.size
    refine ⟨a, cap, a4, c4, U3.out.on kk, ⟨?_, BytesAt.kept B4.out ((Same.refl (fun _ => False) w4).alloc _) (fun _ _ h => h), (OwnB.caps O4.out).1, Nat.zero_le _, ?_, HBY.out, by have := En.out; omega⟩, fun g e => ⟨(HCG.out g e).1, ?_⟩, fun g e => ⟨?_, ?_⟩, hcb, ?_, ?_⟩
    · rw [← En.out]
      exact heap_new w4 _
    · rcases O4.out.2 with ⟨h', h0⟩ | ⟨g, c', cur, h', hb', hg, _⟩
      · simp only [Value.slice.injEq] at h'
        exact .inl ⟨h'.1, h'.2.1, h'.2.2⟩
      · simp only [Value.slice.injEq] at h'
        refine .inr ⟨g, h'.1, fun e => ?_⟩
        have := lt_of_heap hg
        omega
    · have := (HCG.out g e).2
      omega
    · have := (HA4.out g 0 e).1
      have := K3w.out.size
      omega
    · have := (HA4.out g 0 e).1
      omega
    · have := K3w.out.size
      omega
    · omega
  have KB0 : Hid (Kept w (w4.alloc (rcurO a4 n c4 0 0))) := (Same.trans' K3.out K4.out).alloc _
  clear U3 HCG O4 B4 HA4 K4
  go_loopw [24] (fun i wr => ∃ (j pl : Nat) (ft : Int), j ≤ N ∧ i = .int .i64 j ∧ Both w2.heap.size wr cb w4.heap.size l pl ft ∧ Kept w wr) (fun i _ => N - (intOf i).toNat)
  case atStart => exact ⟨0, 0, 0, Nat.zero_le _, rfl, HB0.out, KB0.out⟩
  case round =>
    obtain ⟨j, pl, ft, hj, rfl, ur, kr⟩ := hrel
    have UR : Hid _ := ur
    have KR : Hid _ := kr
    clear ur kr
    by_cases hlt : j < N
    · have c1 : decide ((j : Int) < (N : Int)) = true := decide_eq_true (by omega)
      have hlt2 : (j : Int) < (N : Int) := by omega
      obtain ⟨o, ho⟩ : ∃ o, ls[j]? = some o := ⟨_, List.getElem?_eq_getElem (by rw [← EN.out]; exact hlt)⟩
      obtain ⟨b, off, rfl, -, q0, q1, q2⟩ := OpsAt.on HS.out KR.out j o ho
      have HST : Hid _ := step_law (Both.on UR.out ((Same.refl _ wr).alloc (opO o.k o.a o.b))) o.k o.a o.b
      unfold opO at HST
      clear ho
      go_wp2_with fail
      refine Calls.mono HST.out ?_
      rintro e w5 ⟨rfl, ⟨pl', ft', b5⟩, s5⟩
      have B5 : Hid _ := b5
      have K5 : Hid (Kept w w5) := by
        have h1 := Both.lt UR.out
        have h2 := HZ.out
        exact Same.trans (KR.out.alloc _) s5 (fun i hi e => by omega)
      clear b5 s5
      go_wp2_with fail
      go_roundw
      case rel => exact ⟨j + 1, pl', ft', hlt, by simp, B5.out, K5.out⟩
      case measure => simp only [intOf]; omega
    · have c1 : decide ((j : Int) < (N : Int)) = false := decide_eq_false (by omega)
      obtain ⟨a6, cap6, a7, cap7, u6, r6, -, -, -, -, -⟩ := UR.out
      have HT : Hid _ := Tail.of u6 r6
      obtain ⟨c2, c3, c4', -, -⟩ := r6.cells
      have hlt2 := r6.lt
      have hple := r6.ple
      rw [← En.out] at HT hple
      obtain ⟨d, ed⟩ : ∃ d, d = n - pl := ⟨_, rfl⟩
      have hd : (n : Int) - (pl : Int) = (d : Int) := by omega
      have HTL : Hid (∀ n, Calls Try.prog 13 #[.pointer (some ⟨cb, 0, none⟩)] (wr.drewN n) fun e w' => e = .returned (.int .i64 (d : Int)) ∧ ∃ m, w' = (wr.drewN n).drewN m) := by
        have := HT.out.left
        rw [← ed] at this
        exact this
      have hd2 : (d : Int) ≤ 140737488355328 := by omega
      have e1 : ((pl : Int) == (pl : Int)) = true := by simp
      have e2 : ((d : Int) == (d : Int)) = true := by simp
      have e3 : (ft == ft) = true := by simp
      clear u6 r6 ed
      go_wp2_with fail
      go_quiet (first | (go_at_call 12; refine Calls.quiet_of_same (HT.out.off _)) | (go_at_call 13; refine Calls.quiet_of (HTL.out _)) | (go_at_call 14; refine Calls.quiet_of_same (HT.out.fault _)))
      go_wp2_with fail
      go_ret
      exact ⟨rfl, KR.out.drewN _⟩
end Go.Proofs.Ytfedenfnkimngaa
