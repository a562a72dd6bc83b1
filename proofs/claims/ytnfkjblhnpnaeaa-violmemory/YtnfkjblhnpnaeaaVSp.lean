/- What is proved: symMerge of the library's stable sort merges two sorted parts of any lengths, those alike as they stood; plain facts on a row of sorted blocks; in any program with this text, the row lies in memory. -/
import Derived.Test.YtnfkjblhnpnaeaaVSo
namespace Go.Proofs.Ytnfkjblhnpnaeaa
open Go.RowKit

theorem sym_p {P : Program} {k : Nat} {enc : Vl → List Value} (AS : As P k enc) {base : Nat} {g N cap : Nat} (hN : N ≤ 1172812402961) : ∀ (n : Nat) (W : World) (A L R C : List Nb), L.length + R.length < n → Own (en enc) k 30 base W (.slice (some ⟨g, 0, none⟩) N cap) (A ++ L ++ R ++ C) → StS L → StS R → (∀ x ∈ L, ∀ y ∈ R, x.n < y.n) → Dis (L ++ R) → 0 < L.length → 0 < R.length → Calls P 46 #[.slice (some ⟨g, 0, none⟩) N cap, .int .i64 (A.length : Int), .int .i64 ((A.length + L.length : Nat) : Int), .int .i64 ((A.length + L.length + R.length : Nat) : Int), cmpF] W fun e w' => e = .returned (.tuple #[]) ∧ Own (en enc) k 30 base w' (.slice (some ⟨g, 0, none⟩) N cap) (A ++ srt ltN (L ++ R) ++ C) ∧ Same (fun b => b = g) W w' := by
  intro n
  induction n with
  | zero => intro W A L R C h; omega
  | succ n ih =>
    intro W A L R C hn h hL hR hx hd l0 r0
    by_cases h1 : L.length = 1
    · obtain ⟨x, rfl⟩ := List.length_eq_one_iff.1 h1
      exact sym1 AS h hN hR (fun y hy => hx x (List.mem_singleton.2 rfl) y hy) r0
    · by_cases h2 : R.length = 1
      · obtain ⟨y, rfl⟩ := List.length_eq_one_iff.1 h2
        exact sym2 AS h hN hL (fun x hx' => hx x hx' y (List.mem_singleton.2 rfl)) (by omega)
      · exact sym3 AS h hN hL hR hx hd (by omega) (by omega) fun W' A' L' R' C' hl => ih W' A' L' R' C' (by omega)

/-- A row whose blocks of s are sorted each (the last may be shorter). -/
inductive Blk (s : Nat) : List Nb → List Nb → Prop
  | last {X : List Nb} : X.length ≤ s → Blk s X (srt ltN X)
  | cons {B X U : List Nb} : B.length = s → Blk s X U → Blk s (B ++ X) (srt ltN B ++ U)
theorem srt_nil' : srt ltN [] = [] := List.eq_nil_of_length_eq_zero (srt_len _ _)
theorem Blk.cut {s : Nat} {X U : List Nb} (h : Blk s X U) (hs : s ≤ X.length) : ∃ B X' U', X = B ++ X' ∧ U = srt ltN B ++ U' ∧ B.length = s ∧ Blk s X' U' := by
  cases h with
  | last hl => exact ⟨_, [], [], (List.append_nil _).symm, (List.append_nil _).symm, by omega, by have := Blk.last (s := s) (X := []) (Nat.zero_le _); rwa [srt_nil'] at this⟩
  | cons hB hU => exact ⟨_, _, _, rfl, rfl, hB, hU⟩
theorem Blk.len {s : Nat} {X U : List Nb} (h : Blk s X U) : U.length = X.length := by
  induction h with
  | last _ => exact srt_len _ _
  | cons _ _ ih => rw [List.length_append, List.length_append, srt_len, ih]
theorem Blk.end {s : Nat} {X U : List Nb} (h : Blk s X U) (hs : X.length ≤ s) : U = srt ltN X := by
  cases h with
  | last hl => rfl
  | cons hB hU =>
    rename_i B X' U'
    rw [List.length_append] at hs
    have hl := hU.len
    have hX : X' = [] := List.eq_nil_of_length_eq_zero (by omega)
    have hU0 : U' = [] := List.eq_nil_of_length_eq_zero (by rw [hl, hX]; rfl)
    rw [hX, hU0, List.append_nil, List.append_nil]
/-- What two sorted parts beside each other are to symMerge. -/
theorem sym_two {B1 B2 : List Nb} (h : (B1 ++ B2).Pairwise fun x y => x.n < y.n) : StS (srt ltN B1) ∧ StS (srt ltN B2) ∧ (∀ x ∈ srt ltN B1, ∀ y ∈ srt ltN B2, x.n < y.n) ∧ Dis (srt ltN B1 ++ srt ltN B2) ∧ srt ltN (srt ltN B1 ++ srt ltN B2) = srt ltN (B1 ++ B2) := by
  obtain ⟨h1, h2, h3⟩ := List.pairwise_append.1 h
  have hd : Dis (B1 ++ B2) := h.imp fun h => by omega
  have hp : (srt ltN B1 ++ srt ltN B2).Perm (B1 ++ B2) := (srt_perm _ _).append (srt_perm _ _)
  have hd2 : Dis (srt ltN B1 ++ srt ltN B2) := hd.perm hp.symm
  refine ⟨StS.of_srt (h1.imp fun h => by omega), StS.of_srt (h2.imp fun h => by omega), fun x hx y hy => h3 x ((srt_perm _ _).mem_iff.1 hx) y ((srt_perm _ _).mem_iff.1 hy), hd2, ?_⟩
  exact StS.eqs (StS.of_srt hd2) ((srt_perm _ _).trans hp)
end Go.Proofs.Ytnfkjblhnpnaeaa
