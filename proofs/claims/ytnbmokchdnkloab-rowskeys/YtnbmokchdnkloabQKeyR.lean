/- What is proved: the document's Key gives a right row's key in memory of its own, in a known order; no condition. -/
import Derived.Test.YtnbmokchdnkloabQKey
namespace Go.Proofs.Ytnbmokchdnkloab
open Go.RowKit

/-- What the document divides by for the j lowest bytes. -/
def dOf (j : Nat) : Int := if j = 0 then 0 else ((256 ^ (j - 1) : Nat) : Int)
set_option maxRecDepth 100000 in
set_option maxHeartbeats 1600000 in
theorem rkey1 (w : World) (r : RwM) (hr : rightR r) : Calls Try.prog 9 #[.int .i64 1, rowV r] w fun e w' => ∃ v, e = .returned v ∧ OwnB w.heap.size w' v (key9 1 r) ∧ Kept w w' := by
  obtain ⟨kind, time, seq, index, frm, til, body⟩ := r
  obtain ⟨hk, ⟨h1, b1⟩, ⟨h2, b2⟩, ⟨h3, b3⟩, -⟩ := hr
  simp only at hk h1 b1 h2 b2 h3 b3
  have h0 : 0 ≤ kind := by omega
  obtain ⟨n0, rfl⟩ := Int.eq_ofNat_of_zero_le h0
  obtain ⟨n1, rfl⟩ := Int.eq_ofNat_of_zero_le h1
  obtain ⟨n2, rfl⟩ := Int.eq_ofNat_of_zero_le h2
  obtain ⟨n3, rfl⟩ := Int.eq_ofNat_of_zero_le h3
  have g0 : (n0 : Int) ≤ 255 := by omega
  have HT : Hid (key9 1 ⟨n0, n1, n2, n3, frm, til, body⟩ = be 8 n1 ++ [(n0 : Int)] ++ be 4 n3) := by
    show key9 1 _ = _
    have e : be 1 n0 = [(n0 : Int)] := by
      show [((n0 / 1 % 256 : Nat) : Int)] = _
      congr 1
      omega
    simp only [key9, Int.toNat_natCast, if_true, List.append_assoc, e]
  generalize key9 1 ⟨n0, n1, n2, n3, frm, til, body⟩ = T at HT ⊢
  obtain ⟨B0, eB⟩ : ∃ B0, B0 = Obj.cells #[.int .i64 (n0 : Int), .int .i64 (n1 : Int), .int .i64 (n2 : Int), .int .i64 (n3 : Int), .int .i64 frm, .int .i64 til, .string body] 30 (0, 0) := ⟨_, rfl⟩
  have B0h : Hid ((w.alloc B0).heap[w.heap.size]? = some (Obj.cells #[.int .i64 (n0 : Int), .int .i64 (n1 : Int), .int .i64 (n2 : Int), .int .i64 (n3 : Int), .int .i64 frm, .int .i64 til, .string body] 30 (0, 0))) := by rw [← eB]; exact heap_new w _
  unfold rowV
  simp only
  clear hk h0 h1 h2 h3
  go_enter Try.func9, Try.ntmps9
  go_wp2_with fail
  rw [← eB]
  clear eB
  go_loopw [5, 6] (fun u d wr => ∃ (j : Nat) (l' : List Int), d = .int .i64 (dOf j) ∧ j ≤ 8 ∧ OwnB (w.heap.size + 1) wr u l' ∧ l' ++ be j n1 = [] ++ be 8 n1 ∧ Same (fun k => w.heap.size + 1 ≤ k) (w.alloc B0) wr ∧ l'.length ≤ 24 - j) (fun _ d _ => (intOf d).toNat)
  case atStart => exact ⟨8, [], rfl, by decide, OwnB.nil _ _, rfl, Same.refl _ _, by decide⟩
  case round =>
    obtain ⟨j, l', rfl, hj, oo, he, kk, hlen⟩ := hrel
    have OO : Hid _ := oo
    have KK : Hid _ := kk
    have HE : Hid _ := he
    clear oo kk he
    obtain ⟨⟨c0, c1, c2, c3, c4, c5, c6⟩, -⟩ := row_obj ((KK.out.block w.heap.size (by simp [World.size_alloc]) (by omega)).trans B0h.out)
    have hlr : w.heap.size < wr.heap.size := Nat.lt_of_lt_of_le (by simp [World.size_alloc]) KK.out.size
    rcases (show j = 0 ∨ j = 1 ∨ j = 2 ∨ j = 3 ∨ j = 4 ∨ j = 5 ∨ j = 6 ∨ j = 7 ∨ j = 8 by omega) with rfl | rfl | rfl | rfl | rfl | rfl | rfl | rfl | rfl
    · rw [show dOf 0 = 0 from rfl]
      have HF : Hid _ := HE.out
      rw [be, List.append_nil, List.nil_append] at HF
      clear HE
      have HA : Hid (∀ ty, _) := fun ty => app_one (n0 : Int) OO.out (by omega) (by have := KK.out.size; rw [World.size_alloc] at this; exact this) ty
      rw [HF.out] at HA
      go_wp2_with (at_builtin; refine wpList_app rfl (.tmp 24) (.tmp 28) 25 25 rfl _ _ rfl rfl _ HA.out ?_; intro v3 w3 hR3)
      have OO2 : Hid _ := hR3.1
      have KK2 : Hid _ := KK.out.trans' hR3.2
      clear hR3 HA HF OO KK c0 c1 c2 c3 c4 c5 c6
      go_loopw [5, 7] (fun u d wr => OwnB (w.heap.size + 1) wr u (be 8 n1 ++ [(n0 : Int)]) ∧ Same (fun k => w.heap.size + 1 ≤ k) (w.alloc B0) wr ∧ d = .int .i64 16777216) (fun _ _ _ => 0)
      case atStart => exact ⟨OO2.out, KK2.out, rfl⟩
      case round =>
        obtain ⟨oo3, kk3, rfl⟩ := hrel
        have OO3 : Hid _ := oo3
        have KK3 : Hid _ := kk3
        clear oo3 kk3 OO2 KK2
        go_wp2_with fail
        go_loopw [5, 8] (fun u d wr => ∃ (j : Nat) (l' : List Int), d = .int .i64 (dOf j) ∧ j ≤ 4 ∧ OwnB (w.heap.size + 1) wr u l' ∧ l' ++ be j n3 = (be 8 n1 ++ [(n0 : Int)]) ++ be 4 n3 ∧ Same (fun k => w.heap.size + 1 ≤ k) (w.alloc B0) wr ∧ l'.length ≤ 24 - j) (fun _ d _ => (intOf d).toNat)
        case atStart => exact ⟨4, be 8 n1 ++ [(n0 : Int)], rfl, by decide, OO3.out, rfl, KK3.out, by rw [List.length_append, be_len, List.length_singleton]; decide⟩
        case round =>
          obtain ⟨j, l', rfl, hj, oo, he, kk, hlen⟩ := hrel
          have OO : Hid _ := oo
          have KK : Hid _ := kk
          have HE : Hid _ := he
          clear oo kk he
          obtain ⟨⟨c0, c1, c2, c3, c4, c5, c6⟩, -⟩ := row_obj ((KK.out.block w.heap.size (by simp [World.size_alloc]) (by omega)).trans B0h.out)
          have hlr : w.heap.size < wr.heap.size := Nat.lt_of_lt_of_le (by simp [World.size_alloc]) KK.out.size
          rcases (show j = 0 ∨ j = 1 ∨ j = 2 ∨ j = 3 ∨ j = 4 by omega) with rfl | rfl | rfl | rfl | rfl
          · rw [show dOf 0 = 0 from rfl]
            have HF : Hid _ := HE.out
            rw [be, List.append_nil] at HF
            clear HE
            go_wp2_with fail
            go_ret
            exact ⟨_, rfl, by rw [HT.out, ← HF.out]; exact OwnB.lower OO.out (Nat.le_succ _), ((Same.refl _ w).alloc B0).trans KK.out (fun i hi e => by omega)⟩
          · have hx : be 1 n3 = ((n3 : Int) % 256) :: be 0 n3 := by
              show (((n3 / 1 % 256 : Nat) : Int)) :: be 0 n3 = _
              congr 1 <;> omega
            have HE2 : Hid (l' ++ (((n3 : Int) % 256) :: be 0 n3) = (be 8 n1 ++ [(n0 : Int)]) ++ be 4 n3) := by
              show _ = _
              rw [← hx]
              exact HE.out
            rw [show dOf 1 = 1 from rfl]
            have HA : Hid (∀ ty, _) := fun ty => app_one ((n3 : Int) % 256) OO.out (by omega) (by have := KK.out.size; rw [World.size_alloc] at this; exact this) ty
            clear hx HE
            go_wp2_with (at_builtin; refine wpList_app rfl (.tmp 51) (.tmp 58) 25 25 rfl _ _ rfl rfl _ HA.out ?_; intro v' w2 hR)
            go_roundw
            case rel => exact ⟨0, l' ++ [((n3 : Int) % 256)], rfl, by omega, hR.1, by rw [← HE2.out, List.append_assoc]; rfl, KK.out.trans' hR.2, by rw [List.length_append, List.length_singleton]; omega⟩
            case measure => simp only [intOf]; decide
          · have hx : be 2 n3 = ((n3 : Int) / 256 % 256) :: be 1 n3 := by
              show (((n3 / 256 % 256 : Nat) : Int)) :: be 1 n3 = _
              congr 1 <;> omega
            have HE2 : Hid (l' ++ (((n3 : Int) / 256 % 256) :: be 1 n3) = (be 8 n1 ++ [(n0 : Int)]) ++ be 4 n3) := by
              show _ = _
              rw [← hx]
              exact HE.out
            rw [show dOf 2 = 256 from rfl]
            have HA : Hid (∀ ty, _) := fun ty => app_one ((n3 : Int) / 256 % 256) OO.out (by omega) (by have := KK.out.size; rw [World.size_alloc] at this; exact this) ty
            clear hx HE
            go_wp2_with (at_builtin; refine wpList_app rfl (.tmp 51) (.tmp 58) 25 25 rfl _ _ rfl rfl _ HA.out ?_; intro v' w2 hR)
            go_roundw
            case rel => exact ⟨1, l' ++ [((n3 : Int) / 256 % 256)], rfl, by omega, hR.1, by rw [← HE2.out, List.append_assoc]; rfl, KK.out.trans' hR.2, by rw [List.length_append, List.length_singleton]; omega⟩
            case measure => simp only [intOf]; decide
          · have hx : be 3 n3 = ((n3 : Int) / 65536 % 256) :: be 2 n3 := by
              show (((n3 / 65536 % 256 : Nat) : Int)) :: be 2 n3 = _
              congr 1 <;> omega
            have HE2 : Hid (l' ++ (((n3 : Int) / 65536 % 256) :: be 2 n3) = (be 8 n1 ++ [(n0 : Int)]) ++ be 4 n3) := by
              show _ = _
              rw [← hx]
              exact HE.out
            rw [show dOf 3 = 65536 from rfl]
            have HA : Hid (∀ ty, _) := fun ty => app_one ((n3 : Int) / 65536 % 256) OO.out (by omega) (by have := KK.out.size; rw [World.size_alloc] at this; exact this) ty
            clear hx HE
            go_wp2_with (at_builtin; refine wpList_app rfl (.tmp 51) (.tmp 58) 25 25 rfl _ _ rfl rfl _ HA.out ?_; intro v' w2 hR)
            go_roundw
            case rel => exact ⟨2, l' ++ [((n3 : Int) / 65536 % 256)], rfl, by omega, hR.1, by rw [← HE2.out, List.append_assoc]; rfl, KK.out.trans' hR.2, by rw [List.length_append, List.length_singleton]; omega⟩
            case measure => simp only [intOf]; decide
          · have hx : be 4 n3 = ((n3 : Int) / 16777216 % 256) :: be 3 n3 := by
              show (((n3 / 16777216 % 256 : Nat) : Int)) :: be 3 n3 = _
              congr 1 <;> omega
            have HE2 : Hid (l' ++ (((n3 : Int) / 16777216 % 256) :: be 3 n3) = (be 8 n1 ++ [(n0 : Int)]) ++ be 4 n3) := by
              show _ = _
              rw [← hx]
              exact HE.out
            rw [show dOf 4 = 16777216 from rfl]
            have HA : Hid (∀ ty, _) := fun ty => app_one ((n3 : Int) / 16777216 % 256) OO.out (by omega) (by have := KK.out.size; rw [World.size_alloc] at this; exact this) ty
            clear hx HE
            go_wp2_with (at_builtin; refine wpList_app rfl (.tmp 51) (.tmp 58) 25 25 rfl _ _ rfl rfl _ HA.out ?_; intro v' w2 hR)
            go_roundw
            case rel => exact ⟨3, l' ++ [((n3 : Int) / 16777216 % 256)], rfl, by omega, hR.1, by rw [← HE2.out, List.append_assoc]; rfl, KK.out.trans' hR.2, by rw [List.length_append, List.length_singleton]; omega⟩
            case measure => simp only [intOf]; decide

    · have hx : be 1 n1 = ((n1 : Int) % 256) :: be 0 n1 := by
        show (((n1 / 1 % 256 : Nat) : Int)) :: be 0 n1 = _
        congr 1 <;> omega
      have HE2 : Hid (l' ++ (((n1 : Int) % 256) :: be 0 n1) = [] ++ be 8 n1) := by
        show _ = _
        rw [← hx]
        exact HE.out
      rw [show dOf 1 = 1 from rfl]
      have HA : Hid (∀ ty, _) := fun ty => app_one ((n1 : Int) % 256) OO.out (by omega) (by have := KK.out.size; rw [World.size_alloc] at this; exact this) ty
      clear hx HE
      go_wp2_with (at_builtin; refine wpList_app rfl (.tmp 13) (.tmp 20) 25 25 rfl _ _ rfl rfl _ HA.out ?_; intro v' w2 hR)
      go_roundw
      case rel => exact ⟨0, l' ++ [((n1 : Int) % 256)], rfl, by omega, hR.1, by rw [← HE2.out, List.append_assoc]; rfl, KK.out.trans' hR.2, by rw [List.length_append, List.length_singleton]; omega⟩
      case measure => simp only [intOf]; decide
    · have hx : be 2 n1 = ((n1 : Int) / 256 % 256) :: be 1 n1 := by
        show (((n1 / 256 % 256 : Nat) : Int)) :: be 1 n1 = _
        congr 1 <;> omega
      have HE2 : Hid (l' ++ (((n1 : Int) / 256 % 256) :: be 1 n1) = [] ++ be 8 n1) := by
        show _ = _
        rw [← hx]
        exact HE.out
      rw [show dOf 2 = 256 from rfl]
      have HA : Hid (∀ ty, _) := fun ty => app_one ((n1 : Int) / 256 % 256) OO.out (by omega) (by have := KK.out.size; rw [World.size_alloc] at this; exact this) ty
      clear hx HE
      go_wp2_with (at_builtin; refine wpList_app rfl (.tmp 13) (.tmp 20) 25 25 rfl _ _ rfl rfl _ HA.out ?_; intro v' w2 hR)
      go_roundw
      case rel => exact ⟨1, l' ++ [((n1 : Int) / 256 % 256)], rfl, by omega, hR.1, by rw [← HE2.out, List.append_assoc]; rfl, KK.out.trans' hR.2, by rw [List.length_append, List.length_singleton]; omega⟩
      case measure => simp only [intOf]; decide
    · have hx : be 3 n1 = ((n1 : Int) / 65536 % 256) :: be 2 n1 := by
        show (((n1 / 65536 % 256 : Nat) : Int)) :: be 2 n1 = _
        congr 1 <;> omega
      have HE2 : Hid (l' ++ (((n1 : Int) / 65536 % 256) :: be 2 n1) = [] ++ be 8 n1) := by
        show _ = _
        rw [← hx]
        exact HE.out
      rw [show dOf 3 = 65536 from rfl]
      have HA : Hid (∀ ty, _) := fun ty => app_one ((n1 : Int) / 65536 % 256) OO.out (by omega) (by have := KK.out.size; rw [World.size_alloc] at this; exact this) ty
      clear hx HE
      go_wp2_with (at_builtin; refine wpList_app rfl (.tmp 13) (.tmp 20) 25 25 rfl _ _ rfl rfl _ HA.out ?_; intro v' w2 hR)
      go_roundw
      case rel => exact ⟨2, l' ++ [((n1 : Int) / 65536 % 256)], rfl, by omega, hR.1, by rw [← HE2.out, List.append_assoc]; rfl, KK.out.trans' hR.2, by rw [List.length_append, List.length_singleton]; omega⟩
      case measure => simp only [intOf]; decide
    · have hx : be 4 n1 = ((n1 : Int) / 16777216 % 256) :: be 3 n1 := by
        show (((n1 / 16777216 % 256 : Nat) : Int)) :: be 3 n1 = _
        congr 1 <;> omega
      have HE2 : Hid (l' ++ (((n1 : Int) / 16777216 % 256) :: be 3 n1) = [] ++ be 8 n1) := by
        show _ = _
        rw [← hx]
        exact HE.out
      rw [show dOf 4 = 16777216 from rfl]
      have HA : Hid (∀ ty, _) := fun ty => app_one ((n1 : Int) / 16777216 % 256) OO.out (by omega) (by have := KK.out.size; rw [World.size_alloc] at this; exact this) ty
      clear hx HE
      go_wp2_with (at_builtin; refine wpList_app rfl (.tmp 13) (.tmp 20) 25 25 rfl _ _ rfl rfl _ HA.out ?_; intro v' w2 hR)
      go_roundw
      case rel => exact ⟨3, l' ++ [((n1 : Int) / 16777216 % 256)], rfl, by omega, hR.1, by rw [← HE2.out, List.append_assoc]; rfl, KK.out.trans' hR.2, by rw [List.length_append, List.length_singleton]; omega⟩
      case measure => simp only [intOf]; decide
    · have hx : be 5 n1 = ((n1 : Int) / 4294967296 % 256) :: be 4 n1 := by
        show (((n1 / 4294967296 % 256 : Nat) : Int)) :: be 4 n1 = _
        congr 1 <;> omega
      have HE2 : Hid (l' ++ (((n1 : Int) / 4294967296 % 256) :: be 4 n1) = [] ++ be 8 n1) := by
        show _ = _
        rw [← hx]
        exact HE.out
      rw [show dOf 5 = 4294967296 from rfl]
      have HA : Hid (∀ ty, _) := fun ty => app_one ((n1 : Int) / 4294967296 % 256) OO.out (by omega) (by have := KK.out.size; rw [World.size_alloc] at this; exact this) ty
      clear hx HE
      go_wp2_with (at_builtin; refine wpList_app rfl (.tmp 13) (.tmp 20) 25 25 rfl _ _ rfl rfl _ HA.out ?_; intro v' w2 hR)
      go_roundw
      case rel => exact ⟨4, l' ++ [((n1 : Int) / 4294967296 % 256)], rfl, by omega, hR.1, by rw [← HE2.out, List.append_assoc]; rfl, KK.out.trans' hR.2, by rw [List.length_append, List.length_singleton]; omega⟩
      case measure => simp only [intOf]; decide
    · have hx : be 6 n1 = ((n1 : Int) / 1099511627776 % 256) :: be 5 n1 := by
        show (((n1 / 1099511627776 % 256 : Nat) : Int)) :: be 5 n1 = _
        congr 1 <;> omega
      have HE2 : Hid (l' ++ (((n1 : Int) / 1099511627776 % 256) :: be 5 n1) = [] ++ be 8 n1) := by
        show _ = _
        rw [← hx]
        exact HE.out
      rw [show dOf 6 = 1099511627776 from rfl]
      have HA : Hid (∀ ty, _) := fun ty => app_one ((n1 : Int) / 1099511627776 % 256) OO.out (by omega) (by have := KK.out.size; rw [World.size_alloc] at this; exact this) ty
      clear hx HE
      go_wp2_with (at_builtin; refine wpList_app rfl (.tmp 13) (.tmp 20) 25 25 rfl _ _ rfl rfl _ HA.out ?_; intro v' w2 hR)
      go_roundw
      case rel => exact ⟨5, l' ++ [((n1 : Int) / 1099511627776 % 256)], rfl, by omega, hR.1, by rw [← HE2.out, List.append_assoc]; rfl, KK.out.trans' hR.2, by rw [List.length_append, List.length_singleton]; omega⟩
      case measure => simp only [intOf]; decide
    · have hx : be 7 n1 = ((n1 : Int) / 281474976710656 % 256) :: be 6 n1 := by
        show (((n1 / 281474976710656 % 256 : Nat) : Int)) :: be 6 n1 = _
        congr 1 <;> omega
      have HE2 : Hid (l' ++ (((n1 : Int) / 281474976710656 % 256) :: be 6 n1) = [] ++ be 8 n1) := by
        show _ = _
        rw [← hx]
        exact HE.out
      rw [show dOf 7 = 281474976710656 from rfl]
      have HA : Hid (∀ ty, _) := fun ty => app_one ((n1 : Int) / 281474976710656 % 256) OO.out (by omega) (by have := KK.out.size; rw [World.size_alloc] at this; exact this) ty
      clear hx HE
      go_wp2_with (at_builtin; refine wpList_app rfl (.tmp 13) (.tmp 20) 25 25 rfl _ _ rfl rfl _ HA.out ?_; intro v' w2 hR)
      go_roundw
      case rel => exact ⟨6, l' ++ [((n1 : Int) / 281474976710656 % 256)], rfl, by omega, hR.1, by rw [← HE2.out, List.append_assoc]; rfl, KK.out.trans' hR.2, by rw [List.length_append, List.length_singleton]; omega⟩
      case measure => simp only [intOf]; decide
    · have hx : be 8 n1 = ((n1 : Int) / 72057594037927936 % 256) :: be 7 n1 := by
        show (((n1 / 72057594037927936 % 256 : Nat) : Int)) :: be 7 n1 = _
        congr 1 <;> omega
      have HE2 : Hid (l' ++ (((n1 : Int) / 72057594037927936 % 256) :: be 7 n1) = [] ++ be 8 n1) := by
        show _ = _
        rw [← hx]
        exact HE.out
      rw [show dOf 8 = 72057594037927936 from rfl]
      have HA : Hid (∀ ty, _) := fun ty => app_one ((n1 : Int) / 72057594037927936 % 256) OO.out (by omega) (by have := KK.out.size; rw [World.size_alloc] at this; exact this) ty
      clear hx HE
      go_wp2_with (at_builtin; refine wpList_app rfl (.tmp 13) (.tmp 20) 25 25 rfl _ _ rfl rfl _ HA.out ?_; intro v' w2 hR)
      go_roundw
      case rel => exact ⟨7, l' ++ [((n1 : Int) / 72057594037927936 % 256)], rfl, by omega, hR.1, by rw [← HE2.out, List.append_assoc]; rfl, KK.out.trans' hR.2, by rw [List.length_append, List.length_singleton]; omega⟩
      case measure => simp only [intOf]; decide
set_option maxRecDepth 100000 in
set_option maxHeartbeats 1600000 in
theorem rkey2 (w : World) (r : RwM) (hr : rightR r) : Calls Try.prog 9 #[.int .i64 2, rowV r] w fun e w' => ∃ v, e = .returned v ∧ OwnB w.heap.size w' v (key9 2 r) ∧ Kept w w' := by
  obtain ⟨kind, time, seq, index, frm, til, body⟩ := r
  obtain ⟨hk, ⟨h1, b1⟩, ⟨h2, b2⟩, ⟨h3, b3⟩, -⟩ := hr
  simp only at hk h1 b1 h2 b2 h3 b3
  have h0 : 0 ≤ kind := by omega
  obtain ⟨n0, rfl⟩ := Int.eq_ofNat_of_zero_le h0
  obtain ⟨n1, rfl⟩ := Int.eq_ofNat_of_zero_le h1
  obtain ⟨n2, rfl⟩ := Int.eq_ofNat_of_zero_le h2
  obtain ⟨n3, rfl⟩ := Int.eq_ofNat_of_zero_le h3
  have g0 : (n0 : Int) ≤ 255 := by omega
  have HT : Hid (key9 2 ⟨n0, n1, n2, n3, frm, til, body⟩ = be 8 n1 ++ be 4 n2 ++ be 4 n3) := by
    show key9 2 _ = _
    rw [key9, if_neg (by decide)]
    simp only [Int.toNat_natCast, List.append_assoc]
  generalize key9 2 ⟨n0, n1, n2, n3, frm, til, body⟩ = T at HT ⊢
  obtain ⟨B0, eB⟩ : ∃ B0, B0 = Obj.cells #[.int .i64 (n0 : Int), .int .i64 (n1 : Int), .int .i64 (n2 : Int), .int .i64 (n3 : Int), .int .i64 frm, .int .i64 til, .string body] 30 (0, 0) := ⟨_, rfl⟩
  have B0h : Hid ((w.alloc B0).heap[w.heap.size]? = some (Obj.cells #[.int .i64 (n0 : Int), .int .i64 (n1 : Int), .int .i64 (n2 : Int), .int .i64 (n3 : Int), .int .i64 frm, .int .i64 til, .string body] 30 (0, 0))) := by rw [← eB]; exact heap_new w _
  unfold rowV
  simp only
  clear hk h0 h1 h2 h3
  go_enter Try.func9, Try.ntmps9
  go_wp2_with fail
  rw [← eB]
  clear eB
  go_loopw [5, 6] (fun u d wr => ∃ (j : Nat) (l' : List Int), d = .int .i64 (dOf j) ∧ j ≤ 8 ∧ OwnB (w.heap.size + 1) wr u l' ∧ l' ++ be j n1 = [] ++ be 8 n1 ∧ Same (fun k => w.heap.size + 1 ≤ k) (w.alloc B0) wr ∧ l'.length ≤ 24 - j) (fun _ d _ => (intOf d).toNat)
  case atStart => exact ⟨8, [], rfl, by decide, OwnB.nil _ _, rfl, Same.refl _ _, by decide⟩
  case round =>
    obtain ⟨j, l', rfl, hj, oo, he, kk, hlen⟩ := hrel
    have OO : Hid _ := oo
    have KK : Hid _ := kk
    have HE : Hid _ := he
    clear oo kk he
    obtain ⟨⟨c0, c1, c2, c3, c4, c5, c6⟩, -⟩ := row_obj ((KK.out.block w.heap.size (by simp [World.size_alloc]) (by omega)).trans B0h.out)
    have hlr : w.heap.size < wr.heap.size := Nat.lt_of_lt_of_le (by simp [World.size_alloc]) KK.out.size
    rcases (show j = 0 ∨ j = 1 ∨ j = 2 ∨ j = 3 ∨ j = 4 ∨ j = 5 ∨ j = 6 ∨ j = 7 ∨ j = 8 by omega) with rfl | rfl | rfl | rfl | rfl | rfl | rfl | rfl | rfl
    · rw [show dOf 0 = 0 from rfl]
      have HF : Hid _ := HE.out
      rw [be, List.append_nil, List.nil_append] at HF
      clear HE
      have OO2 : Hid _ := OO.out
      rw [HF.out] at OO2
      have KK2 : Hid _ := KK.out
      clear OO KK HF c0 c1 c2 c3 c4 c5 c6
      go_wp2_with fail
      go_loopw [5, 7] (fun u d wr => ∃ (j : Nat) (l' : List Int), d = .int .i64 (dOf j) ∧ j ≤ 4 ∧ OwnB (w.heap.size + 1) wr u l' ∧ l' ++ be j n2 = be 8 n1 ++ be 4 n2 ∧ Same (fun k => w.heap.size + 1 ≤ k) (w.alloc B0) wr ∧ l'.length ≤ 24 - j) (fun _ d _ => (intOf d).toNat)
      case atStart => exact ⟨4, be 8 n1, rfl, by decide, OO2.out, rfl, KK2.out, by rw [be_len]; decide⟩
      case round =>
        obtain ⟨j, l', rfl, hj, oo, he, kk, hlen⟩ := hrel
        have OO : Hid _ := oo
        have KK : Hid _ := kk
        have HE : Hid _ := he
        clear oo kk he
        obtain ⟨⟨c0, c1, c2, c3, c4, c5, c6⟩, -⟩ := row_obj ((KK.out.block w.heap.size (by simp [World.size_alloc]) (by omega)).trans B0h.out)
        have hlr : w.heap.size < wr.heap.size := Nat.lt_of_lt_of_le (by simp [World.size_alloc]) KK.out.size
        rcases (show j = 0 ∨ j = 1 ∨ j = 2 ∨ j = 3 ∨ j = 4 by omega) with rfl | rfl | rfl | rfl | rfl
        · rw [show dOf 0 = 0 from rfl]
          have HF : Hid _ := HE.out
          rw [be, List.append_nil] at HF
          clear HE
          have OO3 : Hid _ := OO.out
          rw [HF.out] at OO3
          have KK3 : Hid _ := KK.out
          clear OO KK HF c0 c1 c2 c3 c4 c5 c6
          go_wp2_with fail
          go_loopw [5, 8] (fun u d wr => ∃ (j : Nat) (l' : List Int), d = .int .i64 (dOf j) ∧ j ≤ 4 ∧ OwnB (w.heap.size + 1) wr u l' ∧ l' ++ be j n3 = (be 8 n1 ++ be 4 n2) ++ be 4 n3 ∧ Same (fun k => w.heap.size + 1 ≤ k) (w.alloc B0) wr ∧ l'.length ≤ 24 - j) (fun _ d _ => (intOf d).toNat)
          case atStart => exact ⟨4, be 8 n1 ++ be 4 n2, rfl, by decide, OO3.out, rfl, KK3.out, by rw [List.length_append, be_len, be_len]; decide⟩
          case round =>
            obtain ⟨j, l', rfl, hj, oo, he, kk, hlen⟩ := hrel
            have OO : Hid _ := oo
            have KK : Hid _ := kk
            have HE : Hid _ := he
            clear oo kk he
            obtain ⟨⟨c0, c1, c2, c3, c4, c5, c6⟩, -⟩ := row_obj ((KK.out.block w.heap.size (by simp [World.size_alloc]) (by omega)).trans B0h.out)
            have hlr : w.heap.size < wr.heap.size := Nat.lt_of_lt_of_le (by simp [World.size_alloc]) KK.out.size
            rcases (show j = 0 ∨ j = 1 ∨ j = 2 ∨ j = 3 ∨ j = 4 by omega) with rfl | rfl | rfl | rfl | rfl
            · rw [show dOf 0 = 0 from rfl]
              have HF : Hid _ := HE.out
              rw [be, List.append_nil] at HF
              clear HE
              go_wp2_with fail
              go_ret
              exact ⟨_, rfl, by rw [HT.out, ← HF.out]; exact OwnB.lower OO.out (Nat.le_succ _), ((Same.refl _ w).alloc B0).trans KK.out (fun i hi e => by omega)⟩
            · have hx : be 1 n3 = ((n3 : Int) % 256) :: be 0 n3 := by
                show (((n3 / 1 % 256 : Nat) : Int)) :: be 0 n3 = _
                congr 1 <;> omega
              have HE2 : Hid (l' ++ (((n3 : Int) % 256) :: be 0 n3) = (be 8 n1 ++ be 4 n2) ++ be 4 n3) := by
                show _ = _
                rw [← hx]
                exact HE.out
              rw [show dOf 1 = 1 from rfl]
              have HA : Hid (∀ ty, _) := fun ty => app_one ((n3 : Int) % 256) OO.out (by omega) (by have := KK.out.size; rw [World.size_alloc] at this; exact this) ty
              clear hx HE
              go_wp2_with (at_builtin; refine wpList_app rfl (.tmp 51) (.tmp 58) 25 25 rfl _ _ rfl rfl _ HA.out ?_; intro v' w2 hR)
              go_roundw
              case rel => exact ⟨0, l' ++ [((n3 : Int) % 256)], rfl, by omega, hR.1, by rw [← HE2.out, List.append_assoc]; rfl, KK.out.trans' hR.2, by rw [List.length_append, List.length_singleton]; omega⟩
              case measure => simp only [intOf]; decide
            · have hx : be 2 n3 = ((n3 : Int) / 256 % 256) :: be 1 n3 := by
                show (((n3 / 256 % 256 : Nat) : Int)) :: be 1 n3 = _
                congr 1 <;> omega
              have HE2 : Hid (l' ++ (((n3 : Int) / 256 % 256) :: be 1 n3) = (be 8 n1 ++ be 4 n2) ++ be 4 n3) := by
                show _ = _
                rw [← hx]
                exact HE.out
              rw [show dOf 2 = 256 from rfl]
              have HA : Hid (∀ ty, _) := fun ty => app_one ((n3 : Int) / 256 % 256) OO.out (by omega) (by have := KK.out.size; rw [World.size_alloc] at this; exact this) ty
              clear hx HE
              go_wp2_with (at_builtin; refine wpList_app rfl (.tmp 51) (.tmp 58) 25 25 rfl _ _ rfl rfl _ HA.out ?_; intro v' w2 hR)
              go_roundw
              case rel => exact ⟨1, l' ++ [((n3 : Int) / 256 % 256)], rfl, by omega, hR.1, by rw [← HE2.out, List.append_assoc]; rfl, KK.out.trans' hR.2, by rw [List.length_append, List.length_singleton]; omega⟩
              case measure => simp only [intOf]; decide
            · have hx : be 3 n3 = ((n3 : Int) / 65536 % 256) :: be 2 n3 := by
                show (((n3 / 65536 % 256 : Nat) : Int)) :: be 2 n3 = _
                congr 1 <;> omega
              have HE2 : Hid (l' ++ (((n3 : Int) / 65536 % 256) :: be 2 n3) = (be 8 n1 ++ be 4 n2) ++ be 4 n3) := by
                show _ = _
                rw [← hx]
                exact HE.out
              rw [show dOf 3 = 65536 from rfl]
              have HA : Hid (∀ ty, _) := fun ty => app_one ((n3 : Int) / 65536 % 256) OO.out (by omega) (by have := KK.out.size; rw [World.size_alloc] at this; exact this) ty
              clear hx HE
              go_wp2_with (at_builtin; refine wpList_app rfl (.tmp 51) (.tmp 58) 25 25 rfl _ _ rfl rfl _ HA.out ?_; intro v' w2 hR)
              go_roundw
              case rel => exact ⟨2, l' ++ [((n3 : Int) / 65536 % 256)], rfl, by omega, hR.1, by rw [← HE2.out, List.append_assoc]; rfl, KK.out.trans' hR.2, by rw [List.length_append, List.length_singleton]; omega⟩
              case measure => simp only [intOf]; decide
            · have hx : be 4 n3 = ((n3 : Int) / 16777216 % 256) :: be 3 n3 := by
                show (((n3 / 16777216 % 256 : Nat) : Int)) :: be 3 n3 = _
                congr 1 <;> omega
              have HE2 : Hid (l' ++ (((n3 : Int) / 16777216 % 256) :: be 3 n3) = (be 8 n1 ++ be 4 n2) ++ be 4 n3) := by
                show _ = _
                rw [← hx]
                exact HE.out
              rw [show dOf 4 = 16777216 from rfl]
              have HA : Hid (∀ ty, _) := fun ty => app_one ((n3 : Int) / 16777216 % 256) OO.out (by omega) (by have := KK.out.size; rw [World.size_alloc] at this; exact this) ty
              clear hx HE
              go_wp2_with (at_builtin; refine wpList_app rfl (.tmp 51) (.tmp 58) 25 25 rfl _ _ rfl rfl _ HA.out ?_; intro v' w2 hR)
              go_roundw
              case rel => exact ⟨3, l' ++ [((n3 : Int) / 16777216 % 256)], rfl, by omega, hR.1, by rw [← HE2.out, List.append_assoc]; rfl, KK.out.trans' hR.2, by rw [List.length_append, List.length_singleton]; omega⟩
              case measure => simp only [intOf]; decide

        · have hx : be 1 n2 = ((n2 : Int) % 256) :: be 0 n2 := by
            show (((n2 / 1 % 256 : Nat) : Int)) :: be 0 n2 = _
            congr 1 <;> omega
          have HE2 : Hid (l' ++ (((n2 : Int) % 256) :: be 0 n2) = be 8 n1 ++ be 4 n2) := by
            show _ = _
            rw [← hx]
            exact HE.out
          rw [show dOf 1 = 1 from rfl]
          have HA : Hid (∀ ty, _) := fun ty => app_one ((n2 : Int) % 256) OO.out (by omega) (by have := KK.out.size; rw [World.size_alloc] at this; exact this) ty
          clear hx HE
          go_wp2_with (at_builtin; refine wpList_app rfl (.tmp 38) (.tmp 45) 25 25 rfl _ _ rfl rfl _ HA.out ?_; intro v' w2 hR)
          go_roundw
          case rel => exact ⟨0, l' ++ [((n2 : Int) % 256)], rfl, by omega, hR.1, by rw [← HE2.out, List.append_assoc]; rfl, KK.out.trans' hR.2, by rw [List.length_append, List.length_singleton]; omega⟩
          case measure => simp only [intOf]; decide
        · have hx : be 2 n2 = ((n2 : Int) / 256 % 256) :: be 1 n2 := by
            show (((n2 / 256 % 256 : Nat) : Int)) :: be 1 n2 = _
            congr 1 <;> omega
          have HE2 : Hid (l' ++ (((n2 : Int) / 256 % 256) :: be 1 n2) = be 8 n1 ++ be 4 n2) := by
            show _ = _
            rw [← hx]
            exact HE.out
          rw [show dOf 2 = 256 from rfl]
          have HA : Hid (∀ ty, _) := fun ty => app_one ((n2 : Int) / 256 % 256) OO.out (by omega) (by have := KK.out.size; rw [World.size_alloc] at this; exact this) ty
          clear hx HE
          go_wp2_with (at_builtin; refine wpList_app rfl (.tmp 38) (.tmp 45) 25 25 rfl _ _ rfl rfl _ HA.out ?_; intro v' w2 hR)
          go_roundw
          case rel => exact ⟨1, l' ++ [((n2 : Int) / 256 % 256)], rfl, by omega, hR.1, by rw [← HE2.out, List.append_assoc]; rfl, KK.out.trans' hR.2, by rw [List.length_append, List.length_singleton]; omega⟩
          case measure => simp only [intOf]; decide
        · have hx : be 3 n2 = ((n2 : Int) / 65536 % 256) :: be 2 n2 := by
            show (((n2 / 65536 % 256 : Nat) : Int)) :: be 2 n2 = _
            congr 1 <;> omega
          have HE2 : Hid (l' ++ (((n2 : Int) / 65536 % 256) :: be 2 n2) = be 8 n1 ++ be 4 n2) := by
            show _ = _
            rw [← hx]
            exact HE.out
          rw [show dOf 3 = 65536 from rfl]
          have HA : Hid (∀ ty, _) := fun ty => app_one ((n2 : Int) / 65536 % 256) OO.out (by omega) (by have := KK.out.size; rw [World.size_alloc] at this; exact this) ty
          clear hx HE
          go_wp2_with (at_builtin; refine wpList_app rfl (.tmp 38) (.tmp 45) 25 25 rfl _ _ rfl rfl _ HA.out ?_; intro v' w2 hR)
          go_roundw
          case rel => exact ⟨2, l' ++ [((n2 : Int) / 65536 % 256)], rfl, by omega, hR.1, by rw [← HE2.out, List.append_assoc]; rfl, KK.out.trans' hR.2, by rw [List.length_append, List.length_singleton]; omega⟩
          case measure => simp only [intOf]; decide
        · have hx : be 4 n2 = ((n2 : Int) / 16777216 % 256) :: be 3 n2 := by
            show (((n2 / 16777216 % 256 : Nat) : Int)) :: be 3 n2 = _
            congr 1 <;> omega
          have HE2 : Hid (l' ++ (((n2 : Int) / 16777216 % 256) :: be 3 n2) = be 8 n1 ++ be 4 n2) := by
            show _ = _
            rw [← hx]
            exact HE.out
          rw [show dOf 4 = 16777216 from rfl]
          have HA : Hid (∀ ty, _) := fun ty => app_one ((n2 : Int) / 16777216 % 256) OO.out (by omega) (by have := KK.out.size; rw [World.size_alloc] at this; exact this) ty
          clear hx HE
          go_wp2_with (at_builtin; refine wpList_app rfl (.tmp 38) (.tmp 45) 25 25 rfl _ _ rfl rfl _ HA.out ?_; intro v' w2 hR)
          go_roundw
          case rel => exact ⟨3, l' ++ [((n2 : Int) / 16777216 % 256)], rfl, by omega, hR.1, by rw [← HE2.out, List.append_assoc]; rfl, KK.out.trans' hR.2, by rw [List.length_append, List.length_singleton]; omega⟩
          case measure => simp only [intOf]; decide

    · have hx : be 1 n1 = ((n1 : Int) % 256) :: be 0 n1 := by
        show (((n1 / 1 % 256 : Nat) : Int)) :: be 0 n1 = _
        congr 1 <;> omega
      have HE2 : Hid (l' ++ (((n1 : Int) % 256) :: be 0 n1) = [] ++ be 8 n1) := by
        show _ = _
        rw [← hx]
        exact HE.out
      rw [show dOf 1 = 1 from rfl]
      have HA : Hid (∀ ty, _) := fun ty => app_one ((n1 : Int) % 256) OO.out (by omega) (by have := KK.out.size; rw [World.size_alloc] at this; exact this) ty
      clear hx HE
      go_wp2_with (at_builtin; refine wpList_app rfl (.tmp 13) (.tmp 20) 25 25 rfl _ _ rfl rfl _ HA.out ?_; intro v' w2 hR)
      go_roundw
      case rel => exact ⟨0, l' ++ [((n1 : Int) % 256)], rfl, by omega, hR.1, by rw [← HE2.out, List.append_assoc]; rfl, KK.out.trans' hR.2, by rw [List.length_append, List.length_singleton]; omega⟩
      case measure => simp only [intOf]; decide
    · have hx : be 2 n1 = ((n1 : Int) / 256 % 256) :: be 1 n1 := by
        show (((n1 / 256 % 256 : Nat) : Int)) :: be 1 n1 = _
        congr 1 <;> omega
      have HE2 : Hid (l' ++ (((n1 : Int) / 256 % 256) :: be 1 n1) = [] ++ be 8 n1) := by
        show _ = _
        rw [← hx]
        exact HE.out
      rw [show dOf 2 = 256 from rfl]
      have HA : Hid (∀ ty, _) := fun ty => app_one ((n1 : Int) / 256 % 256) OO.out (by omega) (by have := KK.out.size; rw [World.size_alloc] at this; exact this) ty
      clear hx HE
      go_wp2_with (at_builtin; refine wpList_app rfl (.tmp 13) (.tmp 20) 25 25 rfl _ _ rfl rfl _ HA.out ?_; intro v' w2 hR)
      go_roundw
      case rel => exact ⟨1, l' ++ [((n1 : Int) / 256 % 256)], rfl, by omega, hR.1, by rw [← HE2.out, List.append_assoc]; rfl, KK.out.trans' hR.2, by rw [List.length_append, List.length_singleton]; omega⟩
      case measure => simp only [intOf]; decide
    · have hx : be 3 n1 = ((n1 : Int) / 65536 % 256) :: be 2 n1 := by
        show (((n1 / 65536 % 256 : Nat) : Int)) :: be 2 n1 = _
        congr 1 <;> omega
      have HE2 : Hid (l' ++ (((n1 : Int) / 65536 % 256) :: be 2 n1) = [] ++ be 8 n1) := by
        show _ = _
        rw [← hx]
        exact HE.out
      rw [show dOf 3 = 65536 from rfl]
      have HA : Hid (∀ ty, _) := fun ty => app_one ((n1 : Int) / 65536 % 256) OO.out (by omega) (by have := KK.out.size; rw [World.size_alloc] at this; exact this) ty
      clear hx HE
      go_wp2_with (at_builtin; refine wpList_app rfl (.tmp 13) (.tmp 20) 25 25 rfl _ _ rfl rfl _ HA.out ?_; intro v' w2 hR)
      go_roundw
      case rel => exact ⟨2, l' ++ [((n1 : Int) / 65536 % 256)], rfl, by omega, hR.1, by rw [← HE2.out, List.append_assoc]; rfl, KK.out.trans' hR.2, by rw [List.length_append, List.length_singleton]; omega⟩
      case measure => simp only [intOf]; decide
    · have hx : be 4 n1 = ((n1 : Int) / 16777216 % 256) :: be 3 n1 := by
        show (((n1 / 16777216 % 256 : Nat) : Int)) :: be 3 n1 = _
        congr 1 <;> omega
      have HE2 : Hid (l' ++ (((n1 : Int) / 16777216 % 256) :: be 3 n1) = [] ++ be 8 n1) := by
        show _ = _
        rw [← hx]
        exact HE.out
      rw [show dOf 4 = 16777216 from rfl]
      have HA : Hid (∀ ty, _) := fun ty => app_one ((n1 : Int) / 16777216 % 256) OO.out (by omega) (by have := KK.out.size; rw [World.size_alloc] at this; exact this) ty
      clear hx HE
      go_wp2_with (at_builtin; refine wpList_app rfl (.tmp 13) (.tmp 20) 25 25 rfl _ _ rfl rfl _ HA.out ?_; intro v' w2 hR)
      go_roundw
      case rel => exact ⟨3, l' ++ [((n1 : Int) / 16777216 % 256)], rfl, by omega, hR.1, by rw [← HE2.out, List.append_assoc]; rfl, KK.out.trans' hR.2, by rw [List.length_append, List.length_singleton]; omega⟩
      case measure => simp only [intOf]; decide
    · have hx : be 5 n1 = ((n1 : Int) / 4294967296 % 256) :: be 4 n1 := by
        show (((n1 / 4294967296 % 256 : Nat) : Int)) :: be 4 n1 = _
        congr 1 <;> omega
      have HE2 : Hid (l' ++ (((n1 : Int) / 4294967296 % 256) :: be 4 n1) = [] ++ be 8 n1) := by
        show _ = _
        rw [← hx]
        exact HE.out
      rw [show dOf 5 = 4294967296 from rfl]
      have HA : Hid (∀ ty, _) := fun ty => app_one ((n1 : Int) / 4294967296 % 256) OO.out (by omega) (by have := KK.out.size; rw [World.size_alloc] at this; exact this) ty
      clear hx HE
      go_wp2_with (at_builtin; refine wpList_app rfl (.tmp 13) (.tmp 20) 25 25 rfl _ _ rfl rfl _ HA.out ?_; intro v' w2 hR)
      go_roundw
      case rel => exact ⟨4, l' ++ [((n1 : Int) / 4294967296 % 256)], rfl, by omega, hR.1, by rw [← HE2.out, List.append_assoc]; rfl, KK.out.trans' hR.2, by rw [List.length_append, List.length_singleton]; omega⟩
      case measure => simp only [intOf]; decide
    · have hx : be 6 n1 = ((n1 : Int) / 1099511627776 % 256) :: be 5 n1 := by
        show (((n1 / 1099511627776 % 256 : Nat) : Int)) :: be 5 n1 = _
        congr 1 <;> omega
      have HE2 : Hid (l' ++ (((n1 : Int) / 1099511627776 % 256) :: be 5 n1) = [] ++ be 8 n1) := by
        show _ = _
        rw [← hx]
        exact HE.out
      rw [show dOf 6 = 1099511627776 from rfl]
      have HA : Hid (∀ ty, _) := fun ty => app_one ((n1 : Int) / 1099511627776 % 256) OO.out (by omega) (by have := KK.out.size; rw [World.size_alloc] at this; exact this) ty
      clear hx HE
      go_wp2_with (at_builtin; refine wpList_app rfl (.tmp 13) (.tmp 20) 25 25 rfl _ _ rfl rfl _ HA.out ?_; intro v' w2 hR)
      go_roundw
      case rel => exact ⟨5, l' ++ [((n1 : Int) / 1099511627776 % 256)], rfl, by omega, hR.1, by rw [← HE2.out, List.append_assoc]; rfl, KK.out.trans' hR.2, by rw [List.length_append, List.length_singleton]; omega⟩
      case measure => simp only [intOf]; decide
    · have hx : be 7 n1 = ((n1 : Int) / 281474976710656 % 256) :: be 6 n1 := by
        show (((n1 / 281474976710656 % 256 : Nat) : Int)) :: be 6 n1 = _
        congr 1 <;> omega
      have HE2 : Hid (l' ++ (((n1 : Int) / 281474976710656 % 256) :: be 6 n1) = [] ++ be 8 n1) := by
        show _ = _
        rw [← hx]
        exact HE.out
      rw [show dOf 7 = 281474976710656 from rfl]
      have HA : Hid (∀ ty, _) := fun ty => app_one ((n1 : Int) / 281474976710656 % 256) OO.out (by omega) (by have := KK.out.size; rw [World.size_alloc] at this; exact this) ty
      clear hx HE
      go_wp2_with (at_builtin; refine wpList_app rfl (.tmp 13) (.tmp 20) 25 25 rfl _ _ rfl rfl _ HA.out ?_; intro v' w2 hR)
      go_roundw
      case rel => exact ⟨6, l' ++ [((n1 : Int) / 281474976710656 % 256)], rfl, by omega, hR.1, by rw [← HE2.out, List.append_assoc]; rfl, KK.out.trans' hR.2, by rw [List.length_append, List.length_singleton]; omega⟩
      case measure => simp only [intOf]; decide
    · have hx : be 8 n1 = ((n1 : Int) / 72057594037927936 % 256) :: be 7 n1 := by
        show (((n1 / 72057594037927936 % 256 : Nat) : Int)) :: be 7 n1 = _
        congr 1 <;> omega
      have HE2 : Hid (l' ++ (((n1 : Int) / 72057594037927936 % 256) :: be 7 n1) = [] ++ be 8 n1) := by
        show _ = _
        rw [← hx]
        exact HE.out
      rw [show dOf 8 = 72057594037927936 from rfl]
      have HA : Hid (∀ ty, _) := fun ty => app_one ((n1 : Int) / 72057594037927936 % 256) OO.out (by omega) (by have := KK.out.size; rw [World.size_alloc] at this; exact this) ty
      clear hx HE
      go_wp2_with (at_builtin; refine wpList_app rfl (.tmp 13) (.tmp 20) 25 25 rfl _ _ rfl rfl _ HA.out ?_; intro v' w2 hR)
      go_roundw
      case rel => exact ⟨7, l' ++ [((n1 : Int) / 72057594037927936 % 256)], rfl, by omega, hR.1, by rw [← HE2.out, List.append_assoc]; rfl, KK.out.trans' hR.2, by rw [List.length_append, List.length_singleton]; omega⟩
      case measure => simp only [intOf]; decide
end Go.Proofs.Ytnbmokchdnkloab
