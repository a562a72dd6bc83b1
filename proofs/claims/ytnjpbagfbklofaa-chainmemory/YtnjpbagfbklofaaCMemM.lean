/- What is proved: plain facts on the store of the law on memory: its chain of one key, its keys, what is left when it is pruned; no condition. -/
import Derived.Test.YtnjpbagfbklofaaCPruL
import Derived.Test.YtnjpbagfbklofaaCRefE
namespace Go.Proofs.Ytnjpbagfbklofaa
open Go.RowKit

abbrev kz : ByteArray := ⟨#[122]⟩
abbrev nms : ByteArray := ⟨#[97, 98, 99, 100, 101, 102, 103, 104, 105, 106, 107, 108, 109, 110, 111, 112, 113, 114, 115, 116, 117, 118, 119, 120, 121, 122, 65, 66, 67, 68, 69, 70, 71, 72, 73, 74, 75, 76, 77, 78, 79, 80, 81, 82, 83, 84, 85, 86, 87, 88, 89, 90]⟩
abbrev nm (i : Nat) : ByteArray := nms.extract i (i + 1) ++ ⟨#[113]⟩
def nb (i : Nat) : List UInt8 := (nms.data.toList.drop i).take 1 ++ [113]
theorem nm_list (i : Nat) : (nm i).toList = nb i := by
  rw [ByteArray.toList_eq, nb]
  simp [nm, ByteArray.data_append, ByteArray.data_extract, List.extract_eq_take_drop]
theorem nb_inj : ∀ i < 52, ∀ j < 52, nb i = nb j → i = j := by decide +kernel
theorem nb_two : ∀ i < 52, (nb i).length = 2 := by decide +kernel
theorem nm_size {i : Nat} (h : i < 52) : (nm i).size = 2 := by
  have h1 := congrArg List.length (nm_list i)
  rw [nb_two i h, ByteArray.toList_eq, Array.length_toList] at h1
  exact h1
abbrev vz (i : Nat) : Vn := ⟨i, i, false, ⟨#[]⟩⟩
abbrev vy (i : Nat) : Vn := ⟨i, 0, false, ⟨#[]⟩⟩
abbrev vh : Vn := ⟨100, 0, false, ⟨#[]⟩⟩
theorem kz_list : kz.toList = [122] := by rw [ByteArray.toList_eq]
/-- The store after j rounds. -/
def Mm : Nat → List En
  | 0 => []
  | j + 1 => Mm j ++ [⟨kz, vz j⟩] ++ [⟨nm j, vy j⟩]
theorem Mm_length (j : Nat) : (Mm j).length = 2 * j := by
  induction j with
  | zero => rfl
  | succ j ih => simp only [Mm, List.length_append, ih, List.length_cons, List.length_nil]; omega
theorem kz_ne {i : Nat} (h : i < 52) : (nm i).toList ≠ kz.toList := fun e => by
  rw [nm_list, kz_list] at e
  have := nb_two i h
  rw [e] at this
  cases this
theorem Mm_z {j : Nat} (h : j ≤ 52) : ch (Mm j) kz = (List.range j).map vz := by
  induction j with
  | zero => rfl
  | succ j ih =>
    rw [Mm, ch_append, ch_append, ih (by omega), ch_one_same rfl, ch_one_other (kz_ne (by omega)), List.append_nil, List.range_succ, List.map_append]
    rfl
theorem Mm_y {j i : Nat} (hj : j ≤ i) (hi : i < 52) : ch (Mm j) (nm i) = [] := by
  induction j with
  | zero => rfl
  | succ j ih =>
    rw [Mm, ch_append, ch_append, ih (by omega), ch_one_other (fun e => kz_ne hi e.symm), ch_one_other (fun e => ?_)]
    · rfl
    · rw [nm_list, nm_list] at e
      have := nb_inj j (by omega) i hi e
      omega
theorem right_vz {j : Nat} (h : j < 52) : rightV (vz j) = true := by
  rw [rightV]
  refine decide_eq_true ⟨by show (0 : Int) ≤ (j : Int); omega, by show (j : Int) ≤ _; omega, by show (0 : Int) ≤ (j : Int); omega, by show (j : Int) < _; omega, by show (0 : Nat) ≤ 16; omega, .inr rfl⟩
theorem right_vy {j : Nat} (h : j < 52) : rightV (vy j) = true := by
  rw [rightV]
  refine decide_eq_true ⟨by show (0 : Int) ≤ (j : Int); omega, by show (j : Int) ≤ _; omega, by show (0 : Int) ≤ 0; omega, by show (0 : Int) < _; omega, by show (0 : Nat) ≤ 16; omega, .inr rfl⟩
theorem stale_z {j : Nat} {x : Vn} (h : ∀ i < j, gt x (vz i) = true) : stale ((List.range j).map vz) x = false := by
  unfold stale
  rw [List.any_eq_false]
  intro y hy
  obtain ⟨i, hi, rfl⟩ := List.mem_map.1 hy
  rw [h i (List.mem_range.1 hi)]
  decide
theorem code_of {A : List En} {k : ByteArray} {x : Vn} (h1 : rightK k = true) (h2 : rightV x = true) (h3 : stale (ch A k) x = false) : code A k x = 0 := by
  unfold code
  rw [h1, h2, h3]
  rfl
theorem inst_of {A : List En} {k : ByteArray} {x : Vn} (h : code A k x = 0) : inst A k x = A ++ [⟨k, x⟩] := by unfold Ytnjpbagfbklofaa.inst; rw [if_pos h]
theorem code_1 {j : Nat} (h : j < 52) : code (Mm j) kz (vz j) = 0 := by
  refine code_of (by decide) (right_vz h) ?_
  rw [Mm_z (by omega)]
  exact stale_z fun i hi => (gt_iff _ _).2 (.inl (by show (i : Int) < (j : Int); omega))
theorem code_2 {j : Nat} (h : j < 52) : code (Mm j ++ [⟨kz, vz j⟩]) (nm j) (vy j) = 0 := by
  refine code_of ?_ (right_vy h) ?_
  · rw [rightK]
    have := nm_size h
    exact decide_eq_true ⟨by omega, by omega⟩
  · rw [ch_append, Mm_y (Nat.le_refl _) h, ch_one_other (fun e => kz_ne h e.symm)]
    rfl
theorem code_h {n : Nat} (h : n ≤ 50) : code (Mm n) kz vh = 0 := by
  refine code_of (by decide) (by decide) ?_
  rw [Mm_z (by omega)]
  exact stale_z fun i hi => (gt_iff _ _).2 (.inl (by show (i : Int) < 100; omega))
theorem Mm_mem {n : Nat} (h1 : 1 ≤ n) (x : List UInt8) : (∃ e ∈ Mm n, e.key.toList = x) ↔ x ∈ kz.toList :: (List.range n).map nb := by
  have key : ∀ n, (∃ e ∈ Mm n, e.key.toList = x) ↔ (1 ≤ n ∧ x = kz.toList) ∨ x ∈ (List.range n).map nb := fun n => by
    induction n with
    | zero => simp [Mm]
    | succ j ih =>
      rw [List.range_succ, List.map_append, List.mem_append]
      constructor
      · rintro ⟨e, he, hx⟩
        rw [Mm, List.mem_append, List.mem_append] at he
        rcases he with (he | he) | he
        · rcases ih.1 ⟨e, he, hx⟩ with h | h
          · exact .inl ⟨by omega, h.2⟩
          · exact .inr (.inl h)
        · obtain rfl : e = ⟨kz, vz j⟩ := by simpa using he
          exact .inl ⟨by omega, hx.symm⟩
        · obtain rfl : e = ⟨nm j, vy j⟩ := by simpa using he
          refine .inr (.inr ?_)
          rw [← hx]
          simp only [List.map_cons, List.map_nil, List.mem_singleton]
          exact nm_list j
      · rintro (h | h | h)
        · exact ⟨⟨kz, vz j⟩, by rw [Mm]; simp, h.2.symm⟩
        · obtain ⟨e, he, hx⟩ := ih.2 (.inr h)
          exact ⟨e, by rw [Mm]; simp [he], hx⟩
        · simp only [List.map_cons, List.map_nil, List.mem_singleton] at h
          exact ⟨⟨nm j, vy j⟩, by rw [Mm]; simp, by rw [h]; exact nm_list j⟩
  rw [key n, List.mem_cons]
  constructor
  · rintro (h | h)
    · exact .inl h.2
    · exact .inr h
  · rintro (h | h)
    · exact .inl ⟨h1, h⟩
    · exact .inr h
theorem keys_nodup {A : List En} {l : List (List UInt8)} (h : KeysOf A l) : l.Nodup := List.Pairwise.imp (fun {a b} hab (e : a = b) => List.lt_irrefl a (by rw [← e] at hab; exact hab)) h.1
theorem l0_nodup {n : Nat} (h2 : n ≤ 50) : (kz.toList :: (List.range n).map nb).Nodup := by
  refine List.nodup_cons.2 ⟨fun hm => ?_, ?_⟩
  · obtain ⟨i, hi, e⟩ := List.mem_map.1 hm
    have hi2 := List.mem_range.1 hi
    rw [← nm_list] at e
    exact kz_ne (by omega) e
  · refine List.pairwise_map.2 (List.Pairwise.imp_of_mem ?_ (List.nodup_range (n := n)))
    intro a b ha hb hne e
    have ha2 := List.mem_range.1 ha
    have hb2 := List.mem_range.1 hb
    exact hne (nb_inj a (by omega) b (by omega) e)
theorem keys_count {n : Nat} (h1 : 1 ≤ n) (h2 : n ≤ 50) {l : List (List UInt8)} (h : KeysOf (Mm n) l) : l.length = n + 1 := by
  have hl : (kz.toList :: (List.range n).map nb).length = n + 1 := by simp
  have a1 := nodup_le (keys_nodup h) (m := kz.toList :: (List.range n).map nb) fun x hx => (Mm_mem h1 x).1 ((h.2 x).1 hx)
  have a2 := nodup_le (l0_nodup h2) (m := l) fun x hx => (h.2 x).2 ((Mm_mem h1 x).2 hx)
  omega
theorem keys_no {n : Nat} (h1 : 1 ≤ n) (h2 : n ≤ 50) {l : List (List UInt8)} (h : KeysOf (Mm n) l) {x : List UInt8} (hx : x ∈ l) : x ≠ [63] := by
  rcases List.mem_cons.1 ((Mm_mem h1 x).1 ((h.2 x).1 hx)) with e | e
  · rw [e, kz_list]; decide
  · obtain ⟨i, hi, rfl⟩ := List.mem_map.1 e
    have hi2 := List.mem_range.1 hi
    intro e2
    have := nb_two i (by omega)
    rw [e2] at this
    cases this
/-- The store with one version more of the first key. -/
abbrev Mh (n : Nat) : List En := Mm n ++ [⟨kz, vh⟩]
theorem Mh_keys {n : Nat} (h1 : 1 ≤ n) {l : List (List UInt8)} (h : KeysOf (Mh n) l) : KeysOf (Mm n) l := by
  refine ⟨h.1, fun x => (h.2 x).trans ⟨?_, fun ⟨e, he, hx⟩ => ⟨e, List.mem_append_left _ he, hx⟩⟩⟩
  rintro ⟨e, he, hx⟩
  rcases List.mem_append.1 he with he | he
  · exact ⟨e, he, hx⟩
  · obtain rfl : e = ⟨kz, vh⟩ := by simpa using he
    exact (Mm_mem h1 x).2 (List.mem_cons.2 (.inl hx.symm))
theorem Mh_z {n : Nat} (h2 : n ≤ 50) (hg : Good (Mh n)) : ch (prn (Mh n) 200) kz = [vh] := by
  have hc : ch (Mh n) kz = (List.range n).map vz ++ [vh] := by rw [ch_append, Mm_z (by omega), ch_one_same rfl]
  have hn : cnt (ch (Mh n) kz) 200 = n + 1 := by
    unfold cnt
    rw [hc, List.countP_eq_length.2]
    · simp
    · intro y hy
      rcases List.mem_append.1 hy with hy | hy
      · obtain ⟨i, hi, rfl⟩ := List.mem_map.1 hy
        have := List.mem_range.1 hi
        exact decide_eq_true (by show (i : Int) ≤ 200; omega)
      · obtain rfl : y = vh := by simpa using hy
        decide
  rw [hg.prn_ch, hn, hc, Nat.add_sub_cancel]
  have hl : ((List.range n).map vz).length = n := by simp
  have := List.drop_left (l₁ := (List.range n).map vz) (l₂ := [vh])
  rw [hl] at this
  exact this
end Go.Proofs.Ytnjpbagfbklofaa
