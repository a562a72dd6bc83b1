/- What is proved: AppendText, and the document's Form and Text, at every argument within the bounds that a machine's memory sets. -/
import Derived.Test.YtflemfohnpjeaaaWApp
import Derived.Lib.AppendStr
import Derived.Laws.BytesArg
namespace Go.Proofs.Ytflemfohnpjeaaa
open Go.RowKit

/-- The bytes of a string. -/
def nums (s : ByteArray) : List Int := s.data.toList.map fun b => (b.toNat : Int)
theorem nums_length (s : ByteArray) : (nums s).length = s.size := by
  rw [nums, List.length_map, Array.length_toList]
  rfl
theorem strCells_nums (s : ByteArray) : Lib.strCells s = byt (nums s) := by simp [Lib.strCells, byt, nums]
theorem nums_byts (s : ByteArray) : Byts (nums s) := fun x hx => by
  obtain ⟨b, _, rfl⟩ := List.mem_map.1 hx
  have := b.toNat_lt
  omega
theorem strOf_nums (s : ByteArray) : strOfNums (nums s) = s := by
  obtain ⟨d⟩ := s
  unfold strOfNums nums
  congr 1
  apply Array.ext'
  rw [List.toList_toArray, List.map_map]
  have e : ((fun n : Int => UInt8.ofNat n.toNat) ∘ fun b : UInt8 => (b.toNat : Int)) = id := by
    funext b
    simp
  rw [e, List.map_id]
theorem nums_get (s : ByteArray) {i : Nat} (h : i < s.size) : (nums s)[i]? = some ((s[i]'h).toNat : Int) := by
  have h' : i < s.data.size := h
  rw [nums, List.getElem?_map, Array.getElem?_toList, Array.getElem?_eq_getElem h']
  rfl

theorem app_string {w : World} {base : Nat} {v : Value} {xs : List Int} (s : ByteArray) (hown : OwnB base w v xs) (hb : xs.length + s.size ≤ 140737488355328) (hbase : base ≤ w.heap.size) (ty : TypeId) :
    ∃ v' w', (Builtin.append_ #[27, 9] ty #[v, .string s]).run Try.prog w = .ok v' w' ∧ AppR base w (xs ++ nums s) v' w' := by
  obtain ⟨i0, hi0, hz0, hz1, hz2⟩ := info_parts Try.infoByte
  obtain ⟨v', w', hr, r1, r2, _⟩ := Lib.run_append_own_string (P := Try.prog) w base 27 9 ty 5 i0 Try.underlying27 Try.underlying9 hi0 hz0 hz1 hz2 v xs.length _ hown s (by unfold maxLen; omega) hb hbase
  rw [strCells_nums, ← byt_append] at r1
  refine ⟨v', w', hr, ?_, Same.of_grown r2 (fun k e => (hown.block e).1)⟩
  rw [OwnB, List.length_append, nums_length]
  exact r1

set_option maxRecDepth 100000 in
set_option maxHeartbeats 1600000 in
theorem appendText_any (w : World) (oa : Option Addr) (c : Nat) (l : List Int) (s : ByteArray) (hl : BytesAt w oa l) (hnil : oa = none → l.length = 0 ∧ c = 0) (hb : l.length + s.size + 8 ≤ 140737488355328) :
    Calls Try.prog 43 #[.slice oa l.length c, .string s] w fun e w' => ∃ v, e = .returned (.tuple #[v, .int .i64 0]) ∧ OwnB w.heap.size w' v (l ++ form s.size ++ nums s) ∧ Kept w w' := by
  obtain ⟨n, en⟩ : ∃ n, n = s.size := ⟨_, rfl⟩
  have h8 : (form n).length ≤ 8 := form8 (by omega)
  have HS : Hid _ := size_any n w (by omega)
  obtain ⟨F, eF⟩ : ∃ F, F = (form n).length := ⟨_, rfl⟩
  obtain ⟨R, eR⟩ : ∃ R, R = F + n := ⟨_, rfl⟩
  have HG : Hid _ := grown_any w oa c l R hl hnil (by omega) (by omega)
  have HP : Hid (∀ (w1 : World) (v : Value), OwnB w.heap.size w1 v l → w.heap.size ≤ w1.heap.size → _) := fun w1 v ho hz => put_any (base := w.heap.size) (w := w1) n ho (by omega) (by omega) hz
  have HA : Hid (∀ (w1 : World) (v : Value), OwnB w.heap.size w1 v (l ++ form n) → w.heap.size ≤ w1.heap.size → _) := fun w1 v ho hz => app_string s ho (by rw [List.length_append]; omega) hz
  obtain ⟨L, eL⟩ : ∃ L, L = l.length := ⟨_, rfl⟩
  rw [← eL] at HG ⊢
  rw [← eF] at HS
  rw [← en]
  have hRF : (F : Int) + (n : Int) = (R : Int) := by omega
  have hR : (R : Int) ≤ 140737488355328 := by omega
  have hsz : s.size = n := en.symm
  clear hl hnil eF eL h8 en eR hb
  go_enter Try.func43, Try.ntmps43
  go_wp2_with fail
  refine Calls.mono HS.out ?_
  rintro e w1 ⟨rfl, rfl⟩
  go_wp2_with fail
  refine Calls.mono HG.out ?_
  rintro e w2 ⟨v2, rfl, o2, k2⟩
  have O2 : Hid _ := o2
  have K2 : Hid _ := k2
  clear o2 k2
  go_wp2_with fail
  refine Calls.mono (HP.out _ _ O2.out K2.out.size) ?_
  rintro e w3 ⟨v3, rfl, o3, k3⟩
  have O3 : Hid _ := o3
  have K3 : Hid (Kept _ w3) := Same.trans K2.out k3 (fun i hi e => by omega)
  clear o3 k3
  go_wp2_with (at_builtin; refine wpList_app rfl (.tmp 18) (.tmp 19) 27 9 rfl _ _ rfl rfl _ (HA.out _ _ O3.out K3.out.size) ?_; rintro v4 w4 ⟨o4, k4⟩)
  go_ret2
  exact ⟨v4, rfl, o4, Same.trans K3.out k4 (fun i hi e => by omega)⟩

theorem BytesAt.at_own {base : Nat} {w : World} {g cap n : Nat} {l : List Int} (h : OwnB base w (.slice (some ⟨g, 0, none⟩) n cap) l) : BytesAt w (some ⟨g, 0, none⟩) l := by
  obtain ⟨a, c, e, hb, _⟩ := OwnB.bytes h
  simp only [Value.slice.injEq] at e
  rw [e.1]
  exact hb
/-- A store into a row of one's own. -/
theorem OwnB.set {base : Nat} {w : World} {g cap : Nat} {n : Nat} {l : List Int} (h : OwnB base w (.slice (some ⟨g, 0, none⟩) n cap) l) {i : Nat} (_ : i < l.length) (x : Int) : OwnB base (w.setCell ⟨g, i, none⟩ (.int .u8 x)) (.slice (some ⟨g, 0, none⟩) n cap) (l.set i x) ∧ w.frozen? ⟨g, i, none⟩ = false ∧ base ≤ g := by
  rcases h.2 with ⟨h', _⟩ | ⟨g', cap', cur, h', hb, hg, h1, h2, h3, h4⟩
  · cases h'
  · simp only [Value.slice.injEq, Option.some.injEq, Addr.mk.injEq, and_true] at h'
    obtain ⟨rfl, rfl, rfl⟩ := h'
    refine ⟨⟨by simp [byt], .inr ⟨g, cap, cur.setIfInBounds i (.int .u8 x), by rw [List.length_set], hb, setCell_at hg i _, by rw [List.length_set]; exact h1, h2, by simpa using h3, ?_⟩⟩, frozen_of hg i, hb⟩
    rw [List.length_set, Array.toList_setIfInBounds, List.take_set, h4]
    simp [byt, List.map_set]
theorem OwnB.addr {base : Nat} {w : World} {v : Value} {l : List Int} (h : OwnB base w v l) (hp : 0 < l.length) : ∃ g cap, v = .slice (some ⟨g, 0, none⟩) l.length cap ∧ l.length ≤ cap := by
  rcases h.2 with ⟨_, h0⟩ | ⟨g, cap, cur, rfl, hb, hg, h1, h2, h3, h4⟩
  · omega
  · exact ⟨g, cap, rfl, h1⟩
theorem own_one (w : World) (x : Int) : OwnB w.heap.size (w.alloc (.cells #[.int .u8 x] 5)) (.slice (some ⟨w.heap.size, 0, none⟩) 1 1) [x] :=
  ⟨rfl, .inr ⟨w.heap.size, 1, _, rfl, Nat.le_refl _, heap_new w _, Nat.le_refl _, by unfold maxLen; decide, rfl, rfl⟩⟩

end Go.Proofs.Ytflemfohnpjeaaa
