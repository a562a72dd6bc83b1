/- What is proved: AppendText, and the document's Form and Text, at every argument within the bounds that a machine's memory sets. -/
import Derived.Test.YtbjmdpfoeeadeaaWApp
import Derived.Lib.AppendStr
import Derived.Laws.BytesArg
namespace Go.Proofs.Ytbjmdpfoeeadeaa
open Go.RowKit

/-- The bytes of a string. -/
def nums (s : ByteArray) : List Int := s.data.toList.map fun b => (b.toNat : Int)
theorem nums_length (s : ByteArray) : (nums s).length = s.size := by
  rw [nums, List.length_map, Array.length_toList]
  rfl
theorem strCells_nums (s : ByteArray) : Lib.strCells s = byt (nums s) := by simp [Lib.strCells, byt, nums]
theorem nums_byts (s : ByteArray) : Byts (nums s) := fun x hx => by
  obtain ⟨b, _, rfl⟩ := List.mem_map.1 hx
  have := b.toNat_lt
  omega
theorem strOf_nums (s : ByteArray) : strOfNums (nums s) = s := by
  obtain ⟨d⟩ := s
  unfold strOfNums nums
  congr 1
  apply Array.ext'
  rw [List.toList_toArray, List.map_map]
  have e : ((fun n : Int => UInt8.ofNat n.toNat) ∘ fun b : UInt8 => (b.toNat : Int)) = id := by
    funext b
    simp
  rw [e, List.map_id]
theorem nums_get (s : ByteArray) {i : Nat} (h : i < s.size) : (nums s)[i]? = some ((s[i]'h).toNat : Int) := by
  have h' : i < s.data.size := h
  rw [nums, List.getElem?_map, Array.getElem?_toList, Array.getElem?_eq_getElem h']
  rfl

theorem app_string {w : World} {base : Nat} {v : Value} {xs : List Int} (s : ByteArray) (hown : OwnB base w v xs) (hb : xs.length + s.size ≤ 140737488355328) (hbase : base ≤ w.heap.size) (ty : TypeId) :
    ∃ v' w', (Builtin.append_ #[71, 9] ty #[v, .string s]).run Try.prog w = .ok v' w' ∧ AppR base w (xs ++ nums s) v' w' := by
  obtain ⟨i0, hi0, hz0, hz1, hz2⟩ := info_parts Try.infoByte
  obtain ⟨v', w', hr, r1, r2, _⟩ := Lib.run_append_own_string (P := Try.prog) w base 71 9 ty 5 i0 Try.underlying71 Try.underlying9 hi0 hz0 hz1 hz2 v xs.length _ hown s (by unfold maxLen; omega) hb hbase
  rw [strCells_nums, ← byt_append] at r1
  refine ⟨v', w', hr, ?_, Same.of_grown r2 (fun k e => (hown.block e).1)⟩
  rw [OwnB, List.length_append, nums_length]
  exact r1

set_option maxRecDepth 100000 in
set_option maxHeartbeats 1600000 in
theorem appendText_any (w : World) (oa : Option Addr) (c : Nat) (l : List Int) (s : ByteArray) (hl : BytesAt w oa l) (hnil : oa = none → l.length = 0 ∧ c = 0) (hb : l.length + s.size + 8 ≤ 140737488355328) :
    Calls Try.prog 70 #[.slice oa l.length c, .string s] w fun e w' => ∃ v, e = .returned (.tuple #[v, .int .i64 0]) ∧ OwnB w.heap.size w' v (l ++ form s.size ++ nums s) ∧ Kept w w' := by
  obtain ⟨n, en⟩ : ∃ n, n = s.size := ⟨_, rfl⟩
  have h8 : (form n).length ≤ 8 := form8 (by omega)
  have HS : Hid _ := size_any n w (by omega)
  obtain ⟨F, eF⟩ : ∃ F, F = (form n).length := ⟨_, rfl⟩
  obtain ⟨R, eR⟩ : ∃ R, R = F + n := ⟨_, rfl⟩
  have HG : Hid _ := grown_any w oa c l R hl hnil (by omega) (by omega)
  have HP : Hid (∀ (w1 : World) (v : Value), OwnB w.heap.size w1 v l → w.heap.size ≤ w1.heap.size → _) := fun w1 v ho hz => put_any (base := w.heap.size) (w := w1) n ho (by omega) (by omega) hz
  have HA : Hid (∀ (w1 : World) (v : Value), OwnB w.heap.size w1 v (l ++ form n) → w.heap.size ≤ w1.heap.size → _) := fun w1 v ho hz => app_string s ho (by rw [List.length_append]; omega) hz
  obtain ⟨L, eL⟩ : ∃ L, L = l.length := ⟨_, rfl⟩
  rw [← eL] at HG ⊢
  rw [← eF] at HS
  rw [← en]
  have hRF : (F : Int) + (n : Int) = (R : Int) := by omega
  have hR : (R : Int) ≤ 140737488355328 := by omega
  have hsz : s.size = n := en.symm
  clear hl hnil eF eL h8 en eR hb
  go_enter Try.func70, Try.ntmps70
  go_wp2_with fail
  refine Calls.mono HS.out ?_
  rintro e w1 ⟨rfl, rfl⟩
  go_wp2_with fail
  refine Calls.mono HG.out ?_
  rintro e w2 ⟨v2, rfl, o2, k2⟩
  have O2 : Hid _ := o2
  have K2 : Hid _ := k2
  clear o2 k2
  go_wp2_with fail
  refine Calls.mono (HP.out _ _ O2.out K2.out.size) ?_
  rintro e w3 ⟨v3, rfl, o3, k3⟩
  have O3 : Hid _ := o3
  have K3 : Hid (Kept _ w3) := Same.trans K2.out k3 (fun i hi e => by omega)
  clear o3 k3
  go_wp2_with (at_builtin; refine wpList_app rfl (.tmp 18) (.tmp 19) 71 9 rfl _ _ rfl rfl _ (HA.out _ _ O3.out K3.out.size) ?_; rintro v4 w4 ⟨o4, k4⟩)
  go_ret2
  exact ⟨v4, rfl, o4, Same.trans K3.out k4 (fun i hi e => by omega)⟩

theorem BytesAt.at_own {base : Nat} {w : World} {g cap n : Nat} {l : List Int} (h : OwnB base w (.slice (some ⟨g, 0, none⟩) n cap) l) : BytesAt w (some ⟨g, 0, none⟩) l := by
  obtain ⟨a, c, e, hb, _⟩ := OwnB.bytes h
  simp only [Value.slice.injEq] at e
  rw [e.1]
  exact hb
/-- A store into a row of one's own. -/
theorem OwnB.set {base : Nat} {w : World} {g cap : Nat} {n : Nat} {l : List Int} (h : OwnB base w (.slice (some ⟨g, 0, none⟩) n cap) l) {i : Nat} (_ : i < l.length) (x : Int) : OwnB base (w.setCell ⟨g, i, none⟩ (.int .u8 x)) (.slice (some ⟨g, 0, none⟩) n cap) (l.set i x) ∧ w.frozen? ⟨g, i, none⟩ = false ∧ base ≤ g := by
  rcases h.2 with ⟨h', _⟩ | ⟨g', cap', cur, h', hb, hg, h1, h2, h3, h4⟩
  · cases h'
  · simp only [Value.slice.injEq, Option.some.injEq, Addr.mk.injEq, and_true] at h'
    obtain ⟨rfl, rfl, rfl⟩ := h'
    refine ⟨⟨by simp [byt], .inr ⟨g, cap, cur.setIfInBounds i (.int .u8 x), by rw [List.length_set], hb, setCell_at hg i _, by rw [List.length_set]; exact h1, h2, by simpa using h3, ?_⟩⟩, frozen_of hg i, hb⟩
    rw [List.length_set, Array.toList_setIfInBounds, List.take_set, h4]
    simp [byt, List.map_set]
theorem OwnB.addr {base : Nat} {w : World} {v : Value} {l : List Int} (h : OwnB base w v l) (hp : 0 < l.length) : ∃ g cap, v = .slice (some ⟨g, 0, none⟩) l.length cap ∧ l.length ≤ cap := by
  rcases h.2 with ⟨_, h0⟩ | ⟨g, cap, cur, rfl, hb, hg, h1, h2, h3, h4⟩
  · omega
  · exact ⟨g, cap, rfl, h1⟩
theorem own_one (w : World) (x : Int) : OwnB w.heap.size (w.alloc (.cells #[.int .u8 x] 5)) (.slice (some ⟨w.heap.size, 0, none⟩) 1 1) [x] :=
  ⟨rfl, .inr ⟨w.heap.size, 1, _, rfl, Nat.le_refl _, heap_new w _, Nat.le_refl _, by unfold maxLen; decide, rfl, rfl⟩⟩

set_option maxRecDepth 100000 in
set_option maxHeartbeats 1600000 in
theorem form_ref (w : World) (n : Nat) (hn : n ≤ 72057594037927935) :
    Calls Try.prog 71 #[.int .i64 (n : Int)] w fun e w' => ∃ v, e = .returned v ∧ OwnB w.heap.size w' v (form n) ∧ Kept w w' := by
  have d0 : decide ((n : Int) < 0) = false := decide_eq_false (by omega)
  have d1 : decide (72057594037927935 < (n : Int)) = false := decide_eq_false (by omega)
  have d0' : ¬ (n : Int) < 0 := by omega
  have d1' : ¬ 72057594037927935 < (n : Int) := by omega
  have H0 : Hid _ := own_one w ((n : Int) % 128)
  obtain ⟨m0, e0⟩ : ∃ m, m = n / 128 := ⟨_, rfl⟩
  have hd0 : (n : Int).tdiv 128 = (m0 : Int) := by rw [Int.tdiv_eq_ediv_of_nonneg (by omega)]; omega
  have E0 : Hid _ := e0
  have hm0 : (m0 : Int) ≤ 72057594037927935 := by omega
  have h8 : Hid _ := form8 hn
  clear e0
  go_enter Try.func71, Try.ntmps71
  go_wp2_with fail
  go_loopw [3, 0] (fun v i wr => ∃ (m : Nat) (ys : List Int) (y : Int), i = .int .i64 m ∧ m ≤ n ∧ OwnB w.heap.size wr v (ys ++ [y]) ∧ 0 ≤ y ∧ y < 128 ∧ form n = (if m = 0 then ys ++ [y] else ys ++ (y + 128) :: form m) ∧ Kept w wr) (fun _ i _ => (intOf i).toNat)
  case atStart =>
    refine ⟨m0, [], (n : Int) % 128, rfl, by have := E0.out; omega, H0.out, by omega, by omega, ?_, (Same.refl _ w).alloc _⟩
    have e0 := E0.out
    by_cases h : n < 128
    · rw [if_pos (by omega), form_small h]
      simp
      omega
    · rw [if_neg (by omega), form_big h, e0]
      simp
  case round =>
    obtain ⟨m, ys, y, rfl, hm, ho, y0, y1, hf, hk⟩ := hrel
    have HF : Hid _ := hf
    have HK : Hid _ := hk
    have HO : Hid _ := ho
    obtain ⟨g, cap, rfl, hcap⟩ := ho.addr (by simp)
    have hlen : (ys ++ [y]).length ≤ 9 := by
      have h8 := h8.out
      rw [hf] at h8
      split at h8
      · omega
      · simp at h8 ⊢
        omega
    by_cases h0 : m = 0
    · subst h0
      rw [if_pos rfl] at HF
      obtain ⟨N, eN⟩ : ∃ N, N = (ys ++ [y]).length := ⟨_, rfl⟩
      rw [← eN]
      have EN : Hid _ := eN
      clear hf hk ho hcap hlen eN
      go_wp2_with fail
      go_ret
      refine ⟨.slice (some ⟨g, 0, none⟩) N cap, rfl, ?_, HK.out⟩
      rw [HF.out, EN.out]
      exact HO.out
    · have d2 : decide (0 < (m : Int)) = true := decide_eq_true (by omega)
      have d2' : 0 < (m : Int) := by omega
      rw [if_neg h0] at HF
      obtain ⟨z, ez⟩ : ∃ z, z = ys.length := ⟨_, rfl⟩
      have hl1 : (ys ++ [y]).length = z + 1 := by rw [ez]; simp
      have hget : (ys ++ [y])[z]? = some y := by rw [ez]; simp
      obtain ⟨b, off, e', -, q0⟩ := BytesAt.at_own HO.out z y hget
      cases e'
      rw [Nat.zero_add] at q0
      obtain ⟨o1, f1, hbg⟩ := ho.set (show z < (ys ++ [y]).length by omega) (y + 128)
      have hset : (ys ++ [y]).set z (y + 128) = ys ++ [y + 128] := by rw [ez]; simp
      rw [hset] at o1
      have K1 : Hid (Kept w (wr.setCell ⟨g, z, none⟩ (.int .u8 (y + 128)))) := hk.setCell _ (.inl hbg) _
      have HAP : Hid _ := app_one ((m : Int) % 128) o1 (by simp; simp at hlen; omega) K1.out.size
      obtain ⟨q, eq⟩ : ∃ q, q = m / 128 := ⟨_, rfl⟩
      have hq : (m : Int).tdiv 128 = (q : Int) := by rw [Int.tdiv_eq_ediv_of_nonneg (by omega)]; omega
      have hq2 : (q : Int) ≤ 72057594037927935 := by omega
      have EQ : Hid _ := eq
      have hzz : (z : Int) + 1 - 1 = (z : Int) := by omega
      have hz9 : (z : Int) ≤ 9 := by omega
      have hsz : (wr.setCell ⟨g, z, none⟩ (.int .u8 (y + 128))).heap.size = wr.heap.size := by simp [World.setCell]
      rw [hl1] at HAP ⊢
      rw [hsz] at HAP
      have hwd : y + 128 ≤ 255 := by omega
      clear hf hk ho hcap hlen o1 hset hget hl1 ez eq hsz
      go_wp2_with (at_builtin; refine wpList_app rfl (.tmp 28) (.tmp 32) 71 71 rfl _ _ rfl rfl _ HAP.out ?_; rintro v4 w4 ⟨o4, k4⟩)
      go_roundw
      case rel =>
        have e := EQ.out
        refine ⟨q, ys ++ [y + 128], (m : Int) % 128, by congr 1, by omega, o4, by omega, by omega, ?_, Same.trans K1.out k4 (fun i hi e => by omega)⟩
        rw [HF.out]
        by_cases h : m < 128
        · rw [if_pos (by omega), form_small h]
          simp
          omega
        · rw [if_neg (by omega), form_big h, e]
          simp
      case measure => simp only [intOf]; have := EQ.out; omega

set_option maxRecDepth 100000 in
theorem form_no (w : World) (n : Int) (hn : n < 0 ∨ 72057594037927935 < n) :
    Calls Try.prog 71 #[.int .i64 n] w fun e w' => e = .returned (.slice none 0 0) ∧ w' = w := by
  by_cases h : n < 0
  · have c1 : decide (n < 0) = true := decide_eq_true h
    clear hn
    go_enter Try.func71, Try.ntmps71
    go_wp2_with fail
    go_ret
    exact ⟨rfl, rfl⟩
  · have c1 : decide (n < 0) = false := decide_eq_false h
    have h2 : 72057594037927935 < n := by omega
    have c2 : decide (72057594037927935 < n) = true := decide_eq_true h2
    clear hn
    go_enter Try.func71, Try.ntmps71
    go_wp2_with fail
    go_ret
    exact ⟨rfl, rfl⟩

set_option maxRecDepth 100000 in
set_option maxHeartbeats 1600000 in
theorem text_ref (w : World) (s : ByteArray) (hs : s.size + 8 ≤ 140737488355328) :
    Calls Try.prog 57 #[.string s] w fun e w' => ∃ v, e = .returned v ∧ OwnB w.heap.size w' v (form s.size ++ nums s) ∧ Kept w w' := by
  obtain ⟨n, en⟩ : ∃ n, n = s.size := ⟨_, rfl⟩
  have HF : Hid _ := form_ref w n (by omega)
  have h8 : (form n).length ≤ 8 := form8 (by omega)
  have hsz : s.size = n := en.symm
  have HNL : Hid ((nums s).length = n) := by show (nums s).length = n; rw [nums_length, en]
  rw [hsz] at hs ⊢
  clear en
  go_enter Try.func57, Try.ntmps57
  go_wp2_with fail
  refine Calls.mono HF.out ?_
  rintro e w1 ⟨v1, rfl, o1, k1⟩
  have O1 : Hid _ := o1
  have K1 : Hid _ := k1
  clear o1 k1
  go_wp2_with fail
  go_loopw [3, 4] (fun v i wr => ∃ j : Nat, i = .int .i64 j ∧ j ≤ n ∧ OwnB w.heap.size wr v (form n ++ (nums s).take j) ∧ Kept w wr) (fun _ i _ => n - (intOf i).toNat)
  case atStart => exact ⟨0, rfl, Nat.zero_le _, by rw [List.take_zero, List.append_nil]; exact O1.out, K1.out⟩
  case round =>
    obtain ⟨j, rfl, hj, ho, hk⟩ := hrel
    have HK : Hid _ := hk
    have HO : Hid _ := ho
    clear ho hk
    by_cases hlt : j < n
    · have c1 : decide ((j : Int) < (n : Int)) = true := decide_eq_true (by omega)
      have hlt2 : (j : Int) < (n : Int) := by omega
      have hjs : j < s.size := by omega
      have HG : Hid ((nums s)[j]? = some ((s[j]'hjs).toNat : Int)) := nums_get s hjs
      have HAP : Hid (∀ x, _) := fun x => app_one x HO.out (by rw [List.length_append, List.length_take, HNL.out]; omega) HK.out.size
      go_wp2_with (at_builtin; refine wpList_app rfl (.tmp 14) (.tmp 18) 71 71 rfl _ _ rfl rfl _ (HAP.out ((s[j]'hjs).toNat : Int)) ?_; rintro v4 w4 ⟨o4, k4⟩)
      go_roundw
      case rel =>
        refine ⟨j + 1, by congr 1, hlt, ?_, Same.trans HK.out k4 (fun i hi e => by omega)⟩
        rw [List.take_add_one, HG.out]
        simpa using o4
      case measure => simp only [intOf]; omega
    · obtain rfl : j = n := by omega
      have c1 : decide ((j : Int) < (j : Int)) = false := decide_eq_false (by omega)
      go_wp2_with fail
      go_ret
      refine ⟨_, rfl, ?_, HK.out⟩
      have := HO.out
      rw [List.take_of_length_le (by rw [HNL.out]; exact Nat.le_refl _)] at this
      exact this
end Go.Proofs.Ytbjmdpfoeeadeaa
