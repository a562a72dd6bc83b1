/- What is proved: plain facts for WireBack: numbers and texts written one behind the other, and what is read of them; lists of numbers and of strings in memory; no condition. -/
import Derived.Test.YtfedenfnkimngaaWWritesL
namespace Go.Proofs.Ytfedenfnkimngaa
open Go.RowKit

/-- The numbers l lie in w from address a on. -/
def IntsAt (w : World) (a : Option Addr) (l : List Int) : Prop :=
  ∀ i x, l[i]? = some x → ∃ b off, a = some ⟨b, off, none⟩ ∧ b < w.heap.size ∧ w.cell? ⟨b, off + i, none⟩ = some (.int .i64 x)
theorem IntsAt.on {w w' : World} {a : Option Addr} {l : List Int} (h : IntsAt w a l) (hs : Kept w w') : IntsAt w' a l := fun i x hx => by
  obtain ⟨b, off, rfl, hb, c0⟩ := h i x hx
  exact ⟨b, off, rfl, Nat.lt_of_lt_of_le hb hs.size, (hs.cell (p := ⟨b, _, none⟩) hb (fun h => h)).trans c0⟩
/-- The strings l lie in w from address a on. -/
def StrsAt (w : World) (a : Option Addr) (l : List ByteArray) : Prop :=
  ∀ i x, l[i]? = some x → ∃ b off, a = some ⟨b, off, none⟩ ∧ b < w.heap.size ∧ w.cell? ⟨b, off + i, none⟩ = some (.string x)
theorem StrsAt.on {w w' : World} {a : Option Addr} {l : List ByteArray} (h : StrsAt w a l) (hs : Kept w w') : StrsAt w' a l := fun i x hx => by
  obtain ⟨b, off, rfl, hb, c0⟩ := h i x hx
  exact ⟨b, off, rfl, Nat.lt_of_lt_of_le hb hs.size, (hs.cell (p := ⟨b, _, none⟩) hb (fun h => h)).trans c0⟩

/-- What is written of one number. -/
def enc1 (x : Int) : List Int := if x < 0 ∨ 72057594037927935 < x then [] else form x.toNat
def encN : List Int → List Int
  | [] => []
  | x :: r => enc1 x ++ encN r
def encS (s : ByteArray) : List Int := form s.size ++ nums s
def encT : List ByteArray → List Int
  | [] => []
  | s :: r => encS s ++ encT r
def tsum : List ByteArray → Nat
  | [] => 0
  | s :: r => s.size + 1 + tsum r
theorem encN_append (a b : List Int) : encN (a ++ b) = encN a ++ encN b := by
  induction a with
  | nil => rfl
  | cons x r ih => simp [encN, ih]
theorem encT_append (a b : List ByteArray) : encT (a ++ b) = encT a ++ encT b := by
  induction a with
  | nil => rfl
  | cons x r ih => simp [encT, ih]
theorem enc1_len (x : Int) : (enc1 x).length ≤ 8 := by
  unfold enc1
  split
  · simp
  · exact form8 (by omega)
theorem encN_len (l : List Int) : (encN l).length ≤ 8 * l.length := by
  induction l with
  | nil => simp [encN]
  | cons x r ih =>
    have := enc1_len x
    simp only [encN, List.length_append, List.length_cons]
    omega
theorem tsum_mem {l : List ByteArray} {s : ByteArray} (h : s ∈ l) : s.size ≤ tsum l := by
  induction l with
  | nil => simp at h
  | cons x r ih =>
    simp only [tsum]
    rcases List.mem_cons.1 h with rfl | h
    · omega
    · have := ih h
      omega
theorem encT_len {l : List ByteArray} (h : tsum l ≤ 1048576) : (encT l).length ≤ 9 * tsum l := by
  induction l with
  | nil => simp [encT]
  | cons x r ih =>
    simp only [tsum] at h
    have h8 : (form x.size).length ≤ 8 := form8 (by omega)
    have := ih (by omega)
    simp only [encT, encS, tsum, List.length_append, nums_length]
    omega
theorem byts_enc1 (x : Int) : Byts (enc1 x) := by
  unfold enc1
  split
  · exact Byts.nil
  · exact byts_form _
theorem byts_encN (l : List Int) : Byts (encN l) := by
  induction l with
  | nil => exact Byts.nil
  | cons x r ih => exact (byts_enc1 x).append ih
theorem byts_encT (l : List ByteArray) : Byts (encT l) := by
  induction l with
  | nil => exact Byts.nil
  | cons x r ih => exact ((byts_form _).append (nums_byts x)).append ih
theorem take_next {α : Type} {l : List α} {i : Nat} {x : α} (h : l[i]? = some x) : l.take (i + 1) = l.take i ++ [x] := by
  rw [List.take_add_one, h]
  rfl
theorem encN_next {l : List Int} {i : Nat} {x : Int} (h : l[i]? = some x) : encN (l.take (i + 1)) = encN (l.take i) ++ enc1 x := by
  rw [take_next h, encN_append]
  simp [encN]
theorem encT_next {l : List ByteArray} {i : Nat} {x : ByteArray} (h : l[i]? = some x) : encT (l.take (i + 1)) = encT (l.take i) ++ encS x := by
  rw [take_next h, encT_append]
  simp [encT]
theorem drop_next {α : Type} {l : List α} {i : Nat} {x : α} (h : l[i]? = some x) : l.drop i = x :: l.drop (i + 1) := by
  obtain ⟨hi, rfl⟩ := List.getElem?_eq_some_iff.1 h
  exact List.drop_eq_getElem_cons hi
/-- What lies ahead behind i numbers. -/
theorem ahead_N {l : List Int} {T : List Int} {i : Nat} : (encN l ++ T).drop (encN (l.take i)).length = encN (l.drop i) ++ T := by
  conv => lhs; rw [← List.take_append_drop i l]
  rw [encN_append, List.append_assoc, List.drop_left']
  rw [List.take_append_drop]
theorem ahead_T {A : List Int} {l : List ByteArray} {i : Nat} : (A ++ encT l).drop (A.length + (encT (l.take i)).length) = encT (l.drop i) := by
  conv => lhs; rw [← List.take_append_drop i l]
  rw [encT_append, ← List.append_assoc, List.drop_left']
  rw [List.length_append, List.take_append_drop]
theorem read_N {A rest : List Int} {pl : Nat} {x : Int} (hd : A.drop pl = enc1 x ++ rest) (hx : ¬ (x < 0 ∨ 72057594037927935 < x)) : rNum A pl 0 x = ((x, 0), (pl + (enc1 x).length, 0)) := by
  have e1 : enc1 x = form x.toNat := if_neg hx
  unfold rNum
  rw [hd, e1, num_form rest (by decide) (by omega) (.inl rfl), rNumQ_ok (by omega)]
  congr 2
  omega
theorem read_T {A rest : List Int} {pl : Nat} {s : ByteArray} (hd : A.drop pl = encS s ++ rest) (hp : pl ≤ A.length) (hs : s.size ≤ 72057594037927935) : rText A pl 0 (s.size : Int) (s.size : Int) = ((nums s, 0), (pl + (encS s).length, 0)) := by
  have hl : A.length - pl = (form s.size).length + s.size + rest.length := by
    have := congrArg List.length hd
    rw [List.length_drop] at this
    rw [this, encS, List.length_append, List.length_append, nums_length]
  have hn : num 8 (A.drop pl) = (s.size, (form s.size).length, 0) := by
    rw [hd, encS, List.append_assoc]
    exact num_form _ (by decide) (by omega) (.inl rfl)
  have ht : (A.drop (pl + (form s.size).length)).take s.size = nums s := by
    rw [← List.drop_drop, hd, encS, List.append_assoc, List.drop_left, ← nums_length, List.take_left]
  unfold rText
  rw [hn, rTextQ_ok (by omega) (by omega), ht, encS, List.length_append, nums_length, Nat.add_assoc]
theorem str_same (s : ByteArray) (w : World) : (binOp .neq 9 (.string s) (.string s)).run Try.prog w = .ok (.bool false) w := by
  go_simp
end Go.Proofs.Ytfedenfnkimngaa
