/- What is proved: Encode of a list of transactions that lies in memory; the bounds that a machine's memory sets. -/
import Derived.Test.YtflemfohnpjeaaaLPiece
import Derived.Test.YtflemfohnpjeaaaLTxs
import Derived.Lib.SlBytesConst
namespace Go.Proofs.Ytflemfohnpjeaaa
open Go.RowKit

/-- The place and the error of the first transaction that isn't right. -/
def bad7 : List TxM → Nat → Nat × Int
  | [], _ => (0, 0)
  | t :: r, i => if valid t ≠ 0 then (i, valid t) else bad7 r (i + 1)
def check7 (l : List TxM) : Nat × Int := if 4096 < l.length then (0, 71) else bad7 l 0
theorem bad7_ok : ∀ {l : List TxM} {i : Nat}, (bad7 l i).2 = 0 ↔ ∀ t ∈ l, Right t := by
  intro l
  induction l with
  | nil => intro i; exact ⟨fun _ t h => (by cases h), fun _ => rfl⟩
  | cons t r ih =>
    intro i
    unfold bad7
    by_cases c : valid t ≠ 0
    · rw [if_pos c]
      exact ⟨fun h => absurd h c, fun h => absurd (valid_zero.2 (h t (by simp))) c⟩
    · rw [if_neg c, ih]
      have c' : valid t = 0 := by simpa using c
      refine ⟨fun h x hx => ?_, fun h x hx => h x (by simp [hx])⟩
      rcases List.mem_cons.1 hx with rfl | hx
      · exact valid_zero.1 c'
      · exact h x hx
theorem bad7_zero : ∀ {l : List TxM} {i : Nat}, (bad7 l i).2 = 0 → (bad7 l i).1 = 0 := by
  intro l
  induction l with
  | nil => intro i _; rfl
  | cons t r ih =>
    intro i h
    unfold bad7 at h ⊢
    by_cases c : valid t ≠ 0
    · rw [if_pos c] at h
      exact absurd h c
    · rw [if_neg c] at h ⊢
      exact ih h
theorem check7_ok {l : List TxM} : (check7 l).2 = 0 ↔ (∀ t ∈ l, Right t) ∧ l.length ≤ 4096 := by
  unfold check7
  by_cases c : 4096 < l.length
  · rw [if_pos c]
    exact ⟨fun h => absurd h (by decide), fun h => absurd h.2 (by omega)⟩
  · rw [if_neg c, bad7_ok]
    exact ⟨fun h => ⟨h, by omega⟩, fun h => h.1⟩
theorem check7_zero {l : List TxM} (h : (check7 l).2 = 0) : check7 l = (0, 0) := by
  have h1 : (check7 l).1 = 0 := by
    unfold check7 at h ⊢
    by_cases c : 4096 < l.length
    · rw [if_pos c]
    · rw [if_neg c] at h ⊢
      exact bad7_zero h
  exact Prod.ext h1 h
theorem bad7_at {l : List TxM} : ∀ {i j : Nat} {t : TxM}, l[i]? = some t → (∀ x ∈ l.take i, Right x) → valid t ≠ 0 → bad7 l j = (j + i, valid t) := by
  induction l with
  | nil => intro i j t h; simp at h
  | cons a r ih =>
    intro i j t h hr hv
    cases i with
    | zero =>
      simp only [List.getElem?_cons_zero, Option.some.injEq] at h
      subst h
      unfold bad7
      rw [if_pos hv]
      rfl
    | succ i =>
      simp only [List.getElem?_cons_succ] at h
      unfold bad7
      rw [if_neg (by simpa using valid_zero.2 (hr a (by simp))), ih h (fun x hx => hr x (by simp [hx])) hv]
      congr 1
      omega
theorem ents_append (a b : List TxM) : ents (a ++ b) = ents a ++ ents b := by
  induction a with
  | nil => rfl
  | cons t a ih => simp [ents, ih]
/-- A row that may be a literal without room. -/
def RowX (base : Nat) (w : World) (v : Value) (xs : List Int) : Prop :=
  OwnB base w v xs ∨ ∃ g, v = .slice (some ⟨g, 0, none⟩) xs.length xs.length ∧ base ≤ g ∧ g < w.heap.size ∧ BytesAt w (some ⟨g, 0, none⟩) xs
theorem RowX.val {base : Nat} {w : World} {v : Value} {xs : List Int} (h : RowX base w v xs) : ∃ a c, v = .slice a xs.length c := by
  rcases h with h | ⟨g, rfl, -⟩
  · obtain ⟨a, c, e, -⟩ := OwnB.bytes h
    exact ⟨a, c, e⟩
  · exact ⟨_, _, rfl⟩
theorem RowX.on {base : Nat} {w w' : World} {v : Value} {xs : List Int} (h : RowX base w v xs) (k : Kept w w') : RowX base w' v xs := by
  rcases h with h | ⟨g, rfl, h1, h2, h3⟩
  · exact .inl (h.kept k fun _ _ h => h)
  · exact .inr ⟨g, rfl, h1, Nat.lt_of_lt_of_le h2 k.size, h3.kept k fun _ _ h => h⟩
theorem RowX.block {base : Nat} {w : World} {v : Value} {xs : List Int} (h : RowX base w v xs) {k : Nat} (hk : v.ownBlock = some k) : base ≤ k ∧ k < w.heap.size := by
  rcases h with h | ⟨g, rfl, h1, h2, h3⟩
  · exact h.block hk
  · cases hk
    exact ⟨h1, h2⟩
/-- append of something onto a literal without room. -/
theorem app_full {w : World} {g : Nat} {xs l : List Int} {oa : Option Addr} {c : Nat} (hx : BytesAt w (some ⟨g, 0, none⟩) xs) (hl : BytesAt w oa l) (hnil : oa = none → l.length = 0 ∧ c = 0) (h0 : 0 < l.length) (hb : xs.length + l.length ≤ 140737488355328) (ty : TypeId) :
    ∃ v' w', (Builtin.append_ #[27, 27] ty #[.slice (some ⟨g, 0, none⟩) xs.length xs.length, .slice oa l.length c]).run Try.prog w = .ok v' w' ∧ OwnB w.heap.size w' v' (xs ++ l) ∧ Kept w w' := by
  obtain ⟨i0, hi0, hz0, hz1, hz2⟩ := info_parts Try.infoByte
  have hsl : xs.length + l.length ≤ maxLen := by unfold maxLen; omega
  cases oa with
  | none =>
    have := (hnil rfl).1
    omega
  | some ad =>
    have hn : ∀ j u, (byt l)[j]? = some u → w.cell? (ad.add j) = some u := fun j u hu => by
      rw [byt_get] at hu
      obtain ⟨x, hx, rfl⟩ := Option.map_eq_some_iff.1 hu
      obtain ⟨b', off', e, _, hc⟩ := hl _ _ hx
      cases e
      rw [Addr.add_lit]
      exact hc
    have ho : ∀ j u, (byt xs)[j]? = some u → w.cell? ((⟨g, 0, none⟩ : Addr).add j) = some u := fun j u hu => by
      rw [byt_get] at hu
      obtain ⟨x, hx', rfl⟩ := Option.map_eq_some_iff.1 hu
      obtain ⟨b', off', e, _, hc⟩ := hx _ _ hx'
      cases e
      rw [Addr.add_lit]
      exact hc
    have hr := run_append_grow (P := Try.prog) w 27 ty 5 i0 _ Try.underlying27 hi0 hz0 ⟨g, 0, none⟩ xs.length xs.length (byt xs) (by rw [hz1, length_byt, Nat.mul_one]) ho ad l.length c (byt l) (by rw [hz1, length_byt, Nat.mul_one]) hn (by omega) (by omega) (growslice_fits (by omega) (by rw [hz2]; omega))
    have hge := grownCap_ge w (xs.length + l.length) xs.length 5
    have hcm : grownCap w (xs.length + l.length) xs.length 5 ≤ maxLen := grownCap_le_maxLen w _ _ _ hsl
    refine ⟨_, _, hr, ⟨by rw [length_byt, Nat.mul_one], .inr ⟨w.heap.size, _, _, by rw [List.length_append], Nat.le_refl _, heap_alloc_new w.drew _, by rw [List.length_append]; exact hge, hcm, ?_, ?_⟩⟩, (Same.refl _ w).drew.alloc _⟩
    · simp only [Array.size_append, List.size_toArray, size_zeroCells, length_byt]
      show xs.length + l.length + (_ - _) * 1 = _
      omega
    · simp only [Array.toList_append, List.append_assoc, List.length_append, Nat.mul_one]
      rw [← List.append_assoc, ← byt_append]
      exact List.take_left' (by rw [length_byt, List.length_append])
theorem RowX.app {base : Nat} {w : World} {va : Option Addr} {vc : Nat} {xs l : List Int} {oa : Option Addr} {c : Nat} (h : RowX base w (.slice va xs.length vc) xs) (hl : BytesAt w oa l) (hnil : oa = none → l.length = 0 ∧ c = 0) (h0 : 0 < l.length) (hb : xs.length + l.length ≤ 140737488355328) (hbase : base ≤ w.heap.size) (ty : TypeId) :
    ∃ v' w', (Builtin.append_ #[27, 27] ty #[.slice va xs.length vc, .slice oa l.length c]).run Try.prog w = .ok v' w' ∧ AppK base w (.slice va xs.length vc) (xs ++ l) v' w' := by
  rcases h with h | ⟨g, e, h1, h2, h3⟩
  · exact app_bytesK h hl hnil hb hbase ty
  · cases e
    obtain ⟨v', w', hr, o, k⟩ := app_full h3 hl hnil h0 hb ty
    exact ⟨v', w', hr, o.lower hbase, Kept.to k _, fun i hi => .inr (o.block hi).1⟩
set_option maxRecDepth 100000 in
set_option maxHeartbeats 800000 in
theorem put7_any {base : Nat} {w : World} {v : Value} {xs : List Int} (n : Nat) (hown : RowX base w v xs) (hb : xs.length + 8 ≤ 140737488355328) (hn : n ≤ 72057594037927935) (hbase : base ≤ w.heap.size) :
    Calls Try.prog 18 #[v, .int .i64 (n : Int)] w fun e w' => ∃ v', e = .returned v' ∧ AppK base w v (xs ++ form n) v' w' := by
  have HA : Hid _ := append_any w none 0 [] n (BytesAt.nil _ _) (fun _ => ⟨rfl, rfl⟩) (by decide) hn
  have HO : Hid _ := hown
  have HB : Hid _ := hb
  have HBS : Hid _ := hbase
  have H8 : Hid _ := form8 hn
  obtain ⟨va, vc, rfl⟩ := hown.val
  have hni : (n : Int) ≤ 72057594037927935 := by omega
  clear hown hb hbase hn
  go_enter Try.func18, Try.ntmps18
  go_wp2_with fail
  refine Calls.mono HA.out ?_
  rintro x w1 ⟨f, rfl, o1, k1⟩
  rw [List.nil_append] at o1
  obtain ⟨fa, fc, rfl, d1, -, n1, -, -⟩ := OwnB.bytes o1
  have HR : Hid (∀ ty, _) := fun ty => RowX.app (c := fc) (RowX.on HO.out k1) d1 n1 (form_pos n) (by have := HB.out; have := H8.out; omega) (Nat.le_trans HBS.out k1.size) ty
  have K1 : Hid _ := k1
  clear o1 d1 n1 k1 HA
  go_wp2_with (at_builtin; refine wpList_app rfl (.tmp 12) (.tmp 13) 27 27 rfl _ _ rfl rfl _ HR.out ?_; intro v2 w2 hR; have R2 : Hid _ := AppK.old hR K1.out; clear hR)
  go_ret
  exact ⟨_, rfl, R2.out⟩
/-- What Encode answers and leaves. -/
def EncR (w : World) (l : List TxM) (x : Ending) (w' : World) : Prop :=
  Kept w w' ∧ if (check7 l).2 = 0 then ∃ v, x = .returned (.tuple #[v, .int .i64 0, .int .i64 0]) ∧ OwnB w.heap.size w' v (log7 l)
    else x = .returned (.tuple #[.slice none 0 0, .int .i64 ((check7 l).1 : Int), .int .i64 (check7 l).2])
section
variable {w : World} {oa : Option Addr} {c : Nat} {l : List TxR}
/-- What stands at the head of the loop: k transactions are written. -/
structure Wrt (w W : World) (l : List TxR) (v : Value) (k : Nat) : Prop where
  own : RowX w.heap.size W v (head4 ++ ents ((l.take k).map TxR.t))
  right : ∀ t ∈ (l.take k).map TxR.t, Right t
  kept : Kept w W
theorem Wrt.len {W : World} {v : Value} {k : Nat} (h : Wrt w W l v k) (hl : l.length ≤ 4096) : (head4 ++ ents ((l.take k).map TxR.t)).length ≤ 1908740 := by
  have h1 := (ents_len h.right).1
  have h2 : ((l.take k).map TxR.t).length ≤ 4096 := by rw [List.length_map, List.length_take]; omega
  rw [List.length_append]
  have : head4.length = 4 := rfl
  omega
theorem EncR.wrong {w' : World} {k : Nat} {W : World} {v : Value} {r : TxR} (h : Wrt w W l v k) (hl : l.length ≤ 4096) (hr : l[k]? = some r) (hv : valid r.t ≠ 0) (hk : Kept W w') : EncR w (l.map TxR.t) (.returned (.tuple #[.slice none 0 0, .int .i64 (k : Int), .int .i64 (valid r.t)])) w' := by
  have hb : check7 (l.map TxR.t) = (k, valid r.t) := by
    unfold check7
    rw [if_neg (by rw [List.length_map]; omega), bad7_at (i := k) (j := 0) (t := r.t) (by rw [List.getElem?_map, hr]; rfl) (by rw [← List.map_take]; exact h.right) hv, Nat.zero_add]
  refine ⟨h.kept.trans' hk, ?_⟩
  rw [hb, if_neg hv]
theorem EncR.done {w' : World} {v : Value} (hr : ∀ t ∈ l.map TxR.t, Right t) (hl : l.length ≤ 4096) (hk : Kept w w') (ho : OwnB w.heap.size w' v (log7 (l.map TxR.t))) : EncR w (l.map TxR.t) (.returned (.tuple #[v, .int .i64 0, .int .i64 0])) w' := by
  refine ⟨hk, ?_⟩
  rw [if_pos (check7_ok.2 ⟨hr, by rw [List.length_map]; exact hl⟩)]
  exact ⟨v, rfl, ho⟩
theorem Wrt.next {W w1 w2 w3 : World} {v v2 v3 : Value} {k : Nat} {r : TxR} (h : Wrt w W l v k) (hr : l[k]? = some r) (hrt : Right r.t) (k1 : Kept W w1) (h2 : AppK w.heap.size w1 v (head4 ++ ents ((l.take k).map TxR.t) ++ form (body r.t).length) v2 w2) (h3 : AppK w.heap.size w2 v2 (head4 ++ ents ((l.take k).map TxR.t) ++ form (body r.t).length ++ body r.t) v3 w3) : Wrt w w3 l v3 (k + 1) := by
  have ht : l.take (k + 1) = l.take k ++ [r] := by rw [List.take_add_one, hr]; rfl
  have hv : ∀ i, v.ownBlock = some i → w.heap.size ≤ i := fun i e => (h.own.block e).1
  have hk2 : Kept w w2 := (h.kept.trans' k1).trans h2.2.1 (fun i hi e => absurd (hv i e) (Nat.not_le.2 hi))
  have hv2 : ∀ i, v2.ownBlock = some i → w.heap.size ≤ i := fun i e => (h2.1.block e).1
  refine ⟨?_, ?_, hk2.trans h3.2.1 (fun i hi e => absurd (hv2 i e) (Nat.not_le.2 hi))⟩
  · have e : head4 ++ ents ((l.take (k + 1)).map TxR.t) = head4 ++ ents ((l.take k).map TxR.t) ++ form (body r.t).length ++ body r.t := by
      rw [ht, List.map_append, ents_append]
      simp [ents]
    rw [e]
    exact .inl h3.1
  · intro t hx
    rw [ht, List.map_append] at hx
    rcases List.mem_append.1 hx with hx | hx
    · exact h.right t hx
    · obtain rfl : t = r.t := by simpa using hx
      exact hrt
def headO : Obj := .cells #[.int .u8 80, .int .u8 82, .int .u8 79, .int .u8 1] 5 (4, 5)
theorem lit_head (w : World) : BytesAt (w.alloc headO) (some ⟨w.heap.size, 0, none⟩) head4 := fun i x hx => by
  refine ⟨w.heap.size, 0, rfl, by simp [World.size_alloc], ?_⟩
  have hi := (List.getElem?_eq_some_iff.1 hx).1
  have hh : (w.alloc headO).heap[w.heap.size]? = some headO := heap_new w _
  have hc : ∀ o, (w.alloc headO).cell? ⟨w.heap.size, o, none⟩ = (#[.int .u8 80, .int .u8 82, .int .u8 79, .int .u8 1] : Array Value)[o]? := fun o => by
    unfold World.cell?
    simp only [hh]
    rfl
  rw [hc]
  match i, hi with
  | 0, _ => simp [head4] at hx; simp [← hx]
  | 1, _ => simp [head4] at hx; simp [← hx]
  | 2, _ => simp [head4] at hx; simp [← hx]
  | 3, _ => simp [head4] at hx; simp [← hx]
theorem Wrt.start (w : World) (l : List TxR) : Wrt w (w.alloc headO) l (.slice (some ⟨w.heap.size, 0, none⟩) 4 4) 0 := by
  have e : head4 ++ ents ((l.take 0).map TxR.t) = head4 := by simp [ents]
  refine ⟨?_, fun t h => (by simp at h), (Same.refl _ w).alloc _⟩
  rw [e]
  exact .inr ⟨w.heap.size, rfl, Nat.le_refl _, by simp [World.size_alloc], lit_head w⟩
set_option maxRecDepth 100000 in
set_option maxHeartbeats 1600000 in
theorem encode7_any (hd : TxsAt w oa l) (hdp : Deep w l) (hlen : l.length ≤ 140737488355328) : Calls Try.prog 7 #[.slice oa l.length c] w fun x w' => EncR w (l.map TxR.t) x w' := by
  have HD : Hid _ := hd
  have HDP : Hid _ := hdp
  obtain ⟨L, eL⟩ : ∃ L, L = l.length := ⟨_, rfl⟩
  have EL : Hid _ := eL
  by_cases hl : 4096 < l.length
  · have hl2 : 4096 < (L : Int) := by omega
    have hl3 : decide ((L : Int) > 4096) = true := decide_eq_true (by omega)
    have HL : Hid _ := hl
    rw [← eL]
    clear hd hdp hl eL
    go_enter Try.func7, Try.ntmps7
    go_wp2_with fail
    go_ret3
    refine ⟨Same.refl _ _, ?_⟩
    have hc : check7 (l.map TxR.t) = (0, 71) := by unfold check7; rw [if_pos (by rw [List.length_map]; exact HL.out)]
    rw [hc]
    exact rfl
  · have hl3 : decide ((L : Int) > 4096) = false := decide_eq_false (by omega)
    have hLi : (L : Int) ≤ 4096 := by omega
    have HL : Hid (l.length ≤ 4096) := Nat.not_lt.1 hl
    have hcv : (convert 27 27 (.slice (some ⟨w.heap.size, 0, none⟩) 4 4)).run Try.prog (w.alloc (.cells #[.int .u8 80, .int .u8 82, .int .u8 79, .int .u8 1] 5)) = .ok (.slice (some ⟨w.heap.size, 0, none⟩) 4 4) (w.alloc headO) := Lib.run_convert_bytes_const (P := Try.prog) w 27 5 #[.int .u8 80, .int .u8 82, .int .u8 79, .int .u8 1] 4 4 Try.underlying27 Try.underlying5
    have HS : Hid _ := Wrt.start w l
    rw [← eL]
    clear hd hdp hl eL
    go_enter Try.func7, Try.ntmps7
    go_wp2_with fail
    generalize w.alloc headO = w0 at HS ⊢
    clear hcv
    go_wp2_with fail
    go_loopw [5, 17] (fun v i W => ∃ k : Nat, i = .int .i64 k ∧ k ≤ L ∧ Wrt w W l v k) (fun _ i _ => L - (intOf i).toNat)
    case atStart => exact ⟨0, rfl, Nat.zero_le _, HS.out⟩
    case round =>
      obtain ⟨k, rfl, hk, hw⟩ := hrel
      have HW : Hid _ := hw
      have hlen2 := hw.len HL.out
      obtain ⟨xs, exs⟩ : ∃ xs, xs = head4 ++ ents ((l.take k).map TxR.t) := ⟨_, rfl⟩
      have hown := hw.own
      rw [← exs] at hown hlen2
      obtain ⟨va, vc, rfl⟩ := hown.val
      have HOW : Hid _ := hown
      have EXS : Hid _ := exs
      have HLN : Hid _ := hlen2
      have hsz := hw.kept.size
      clear hw HS hlen2 hown exs
      by_cases hkl : k < L
      · have d1 : decide ((k : Int) < (L : Int)) = true := decide_eq_true (by omega)
        have hkl2 : (k : Int) < (L : Int) := by omega
        obtain ⟨r, hr⟩ : ∃ r, l[k]? = some r := ⟨_, List.getElem?_eq_getElem (by rw [← EL.out]; exact hkl)⟩
        obtain ⟨b, off, rfl, hbl, -⟩ := HD.out _ _ hr
        obtain ⟨x0, x1, x2, x3, x4, x5, x6, x7⟩ := TxsAt.get (TxsAt.on HD.out HW.out.kept) hr
        have hbl2 : b < wr.heap.size := Nat.lt_of_lt_of_le hbl hsz
        have TA : Hid _ := TxA.on (Deep.get HDP.out hr) HW.out.kept
        have HR : Hid _ := hr
        have HKL : Hid _ := hkl
        clear hr hbl hkl
        by_cases hv : valid r.t = 0
        · have HRT : Hid (Right r.t) := valid_zero.1 hv
          have HEN : Hid (∀ W, Kept wr W → _) := fun W (k1 : Kept wr W) => encode_ok W r.t r.v (TxA.on TA.out k1) HRT.out
          clear hv
          go_wp2_with fail
          refine Calls.mono (HEN.out _ ((Same.refl _ wr).alloc _)) ?_
          rintro x w1 ⟨u, rfl, o1, k1⟩
          obtain ⟨ua, uc, rfl, d1, -, n1, -, -⟩ := OwnB.bytes o1
          have K1 : Hid (Kept wr w1) := ((Same.refl _ wr).alloc _).trans' k1
          obtain ⟨bl1, bl2⟩ := body_len HRT.out
          have BL : Hid _ := bl1
          have HP : Hid _ := put7_any (body r.t).length (RowX.on HOW.out K1.out) (by have := HLN.out; omega) (by omega) (Nat.le_trans hsz K1.out.size)
          have O1 : Hid (OwnB (wr.heap.size + 1) w1 (.slice ua (body r.t).length uc) (body r.t)) := by rw [World.size_alloc] at o1; exact o1
          obtain ⟨BN, eBN⟩ : ∃ BN, BN = (body r.t).length := ⟨_, rfl⟩
          have EB : Hid _ := eBN
          rw [← eBN] at HP ⊢
          have hbn : (BN : Int) ≤ 512 := by omega
          clear o1 k1 d1 n1 eBN bl1 bl2 HEN
          go_wp2_with fail
          refine Calls.mono HP.out ?_
          rintro x w2 ⟨v2, rfl, r2⟩
          have hvb : ∀ i, (Value.slice va xs.length vc).ownBlock = some i → i < wr.heap.size := fun i e => (RowX.block HOW.out e).2
          have o2 := OwnB.kept O1.out r2.2.1 (fun i e e2 => by have := hvb i e2; have := (OwnB.block O1.out e).1; omega)
          obtain ⟨ua', uc', e2, d2, -, n2, -, -⟩ := OwnB.bytes o2
          simp only [Value.slice.injEq, true_and] at e2
          obtain ⟨rfl, rfl⟩ := e2
          have R2 : Hid _ := r2
          have hro := r2.1
          obtain ⟨xs2, exs2⟩ : ∃ xs2, xs2 = xs ++ form BN := ⟨_, rfl⟩
          have EX2 : Hid _ := exs2
          rw [← exs2] at hro
          have hx2 : xs2.length ≤ 1908748 := by
            have h1 := HLN.out
            have h2 := form_two (n := BN) (by omega)
            rw [exs2, List.length_append]
            omega
          have HR2 : Hid (∀ ty, _) := fun ty => app_bytesK (c := uc) hro d2 n2 (by have := BL.out; omega) (Nat.le_trans hsz (Nat.le_trans K1.out.size r2.2.1.size)) ty
          rw [← EB.out] at HR2
          obtain ⟨va2, vc2, rfl, -⟩ := OwnB.bytes hro
          clear r2 o2 d2 n2 hro exs2 hvb HP
          go_wp2_with (at_builtin; refine wpList_app rfl (.tmp 35) (.tmp 36) 27 27 rfl _ _ rfl rfl _ HR2.out ?_; intro v3 w3 hR; have R3 : Hid _ := hR; clear hR)
          go_roundw
          case rel =>
            refine ⟨k + 1, by congr 1, HKL.out, Wrt.next HW.out HR.out HRT.out K1.out (v2 := .slice va2 xs2.length vc2) (w2 := w2) ?_ ?_⟩
            · rw [← EXS.out, ← EB.out]
              exact R2.out
            · rw [← EXS.out, ← EB.out, ← EX2.out]
              exact R3.out
          case measure => simp only [intOf]; have := HKL.out; omega
        · have HV : Hid _ := hv
          have HEN : Hid (∀ W, Kept wr W → _) := fun W (k1 : Kept wr W) => encode_no W r.t r.v (TxA.on TA.out k1) hv
          have hv' : (valid r.t != 0) = true := by simpa using hv
          clear hv
          go_wp2_with fail
          refine Calls.mono (HEN.out _ ((Same.refl _ wr).alloc _)) ?_
          rintro x w1 ⟨rfl, k1⟩
          have K1 : Hid (Kept wr w1) := ((Same.refl _ wr).alloc _).trans' k1
          clear k1
          go_wp2_with fail
          go_ret3
          exact EncR.wrong HW.out HL.out HR.out HV.out K1.out
      · obtain rfl : k = L := by omega
        have d1 : decide ((k : Int) < (k : Int)) = false := decide_eq_false (by omega)
        have HP : Hid (Calls Try.prog 18 #[.slice va xs.length vc, .int .i64 0] wr _) := put7_any 0 HOW.out (by have := HLN.out; omega) (by decide) hsz
        clear hkl hk
        go_wp2_with fail
        refine Calls.mono HP.out ?_
        rintro x w1 ⟨v1, rfl, r1⟩
        obtain ⟨xs1, exs1⟩ : ∃ xs1, xs1 = xs ++ form 0 := ⟨_, rfl⟩
        have EX1 : Hid _ := exs1
        have hx1 : xs1.length ≤ 1908748 := by
          have h1 := HLN.out
          rw [exs1, List.length_append, form_small (by decide)]
          simp
          omega
        rw [← exs1] at r1
        have R1 : Hid _ := r1
        have HP2 : Hid _ := put7_any k (.inl r1.1) (by omega) (by omega) (Nat.le_trans hsz r1.2.1.size)
        obtain ⟨va1, vc1, rfl, -⟩ := OwnB.bytes r1.1
        clear r1 exs1 HP
        go_wp2_with fail
        refine Calls.mono HP2.out ?_
        rintro x w2 ⟨v2, rfl, r2⟩
        obtain ⟨ys, eys⟩ : ∃ ys, ys = xs1 ++ form k := ⟨_, rfl⟩
        have EY : Hid _ := eys
        rw [← eys] at r2
        have R2 : Hid _ := r2
        obtain ⟨va2, vc2, rfl, -⟩ := OwnB.bytes r2.1
        clear r2 HP2 eys
        go_wp2_with fail
        go_ret3
        have hall : l.take k = l := by rw [EL.out]; exact List.take_length
        have hright := HW.out.right
        rw [hall] at hright
        have hv0 : ∀ i, (Value.slice va xs.length vc).ownBlock = some i → w.heap.size ≤ i := fun i e => (RowX.block HOW.out e).1
        have hv1 : ∀ i, (Value.slice va1 xs1.length vc1).ownBlock = some i → w.heap.size ≤ i := fun i e => (OwnB.block R1.out.1 e).1
        refine EncR.done hright HL.out ((HW.out.kept.trans R1.out.2.1 (fun i hi e => absurd (hv0 i e) (Nat.not_le.2 hi))).trans R2.out.2.1 (fun i hi e => absurd (hv1 i e) (Nat.not_le.2 hi))) ?_
        have e3 : log7 (l.map TxR.t) = ys := by
          rw [log7, EY.out, EX1.out, EXS.out, hall, form_small (n := 0) (by decide), List.length_map, EL.out]
          simp
        rw [e3]
        exact R2.out.1
end
end Go.Proofs.Ytflemfohnpjeaaa
