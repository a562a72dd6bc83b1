/- What is proved: what Merge answers of lists that are in order: all rows, sorted, those alike as the lists stand, in a row of its own; and the first fault of lists that are not. -/
import Derived.Test.YtolaeiagfnhllaaTAdv
namespace Go.Proofs.Ytolaeiagfnhllaa
open Go.RowKit

theorem OwnR.lower {base base' : Nat} {w : World} {v : Value} {l : List RwM} (h : OwnR base w v l) (hb : base' ≤ base) : OwnR base' w v l := by
  refine ⟨h.1, ?_⟩
  rcases h.2 with h2 | ⟨g, cap, cur, rfl, hb', rest⟩
  · exact .inl h2
  · exact .inr ⟨g, cap, cur, rfl, Nat.le_trans hb hb', rest⟩
theorem mem_flat_le {L : List (List RwM)} {l : List RwM} (h : l ∈ L) : l.length ≤ L.flatten.length := by
  obtain ⟨i, hi, rfl⟩ := List.mem_iff_getElem.1 h
  rw [(split_at hi []).1, List.length_append, List.length_append, List.getD_eq_getElem?_getD, List.getElem?_eq_getElem hi, Option.getD_some]
  omega
theorem take_flat {L : List (List RwM)} {q : Nat} {l : List RwM} (h : L[q]? = some l) : (L.take (q + 1)).flatten.length = (L.take q).flatten.length + l.length := by
  rw [List.take_add_one, h]
  simp
theorem take_flat_le (L : List (List RwM)) (q : Nat) : (L.take q).flatten.length ≤ L.flatten.length := by
  have e := congrArg (fun X : List (List RwM) => X.flatten.length) (List.take_append_drop q L)
  simp only [List.flatten_append, List.length_append] at e
  omega
theorem make_rows0 (w : World) (n : Nat) (hn : n ≤ 2199023255552) : (Instr.makeSlice 39 (.int .i64 0) (.int .i64 (n : Int))).run Try.prog w = .ok (.slice (some ⟨w.heap.size, 0, none⟩) 0 n) (w.alloc (.cells (madeCells (Value.agg #[.int .i64 0, .int .i64 0, .int .i64 0, .int .i64 0, .int .i64 0, .int .i64 0, .string .empty]).cells (n * 7)) 32)) := by
  obtain ⟨i0, hi0, hz0, hz1, hz2⟩ := info_parts Try.infoRow
  have hr := run_make (P := Try.prog) w 39 32 i0 _ Try.underlying39 hi0 hz0 .i64 .i64 0 (n : Int) (by omega) (by omega) (by rw [hz2]; omega) (by omega)
  simp only [Int.toNat_natCast, Int.toNat_zero, hz1] at hr
  exact hr
theorem own_made {base : Nat} {w : World} (hb : base ≤ w.heap.size) (n : Nat) (hn : n ≤ 2199023255552) (z : Array Value) : OwnR base (w.alloc (.cells (madeCells z (n * 7)) 32)) (.slice (some ⟨w.heap.size, 0, none⟩) 0 n) [] :=
  World.ownsRow_made w _ n hb (by unfold maxLen; omega) (by simp [madeCells])
theorem Ad.onS {T : Nat → Prop} {w wr W : World} {b gs gn nb : Nat} {order : Int} {L R : List (List RwM)} {S : List Sr} {N : List Nat} (h : Ad w wr b gs gn nb order L S N R) (k : Same T wr W) (hT : ∀ j, T j → w.heap.size ≤ j ∧ ¬ Ft b gs gn j ∧ j ≠ nb) : Ad w W b gs gn nb order L S N R :=
  ⟨⟨h.tl.tn.onS k (fun e => (hT _ e).2.1 (.inl rfl)) (fun e => (hT _ e).2.1 (.inr (.inl rfl))) (fun e => (hT _ e).2.1 (.inr (.inr rfl))), h.tl.same.trans k fun j _ e => (hT j e).1, h.tl.lb, h.tl.ls, h.tl.ln⟩, h.nx.onS k (fun e => (hT _ e).2.2 rfl), h.lnb, h.nf, h.mg⟩
/-- The least of all comes out. -/
theorem Ad.win {w wr W : World} {b gs gn nb : Nat} {order : Int} {L R : List (List RwM)} {S : List Sr} {N : List Nat} (h : Ad w wr b gs gn nb order L S N R) (k : Kept wr W) (hp : ∀ i, i < L.length → (L.getD i []).Pairwise fun a b => bef order b a = false) (hw : ∀ j, j < L.length → (S.getD j .wait).wt = false) (hR : R.flatten ≠ []) :
    Calls Try.prog 19 #[.pointer (some ⟨b, 0, none⟩)] W fun e w' => ∃ (x : Nat) (r : RwM), e = .returned (.tuple #[.int .i64 (x : Int), rowV r, .int .i64 0]) ∧ x < L.length ∧ (∃ R', Ad w w' b gs gn nb order L (S.set x .wait) N R' ∧ srt (bef order) R.flatten = r :: srt (bef order) R'.flatten) ∧ Same (Ft b gs gn) wr w' := by
  refine Calls.mono (win11 (h.tl.tn.on k)) fun _ w' ⟨x, r, c, S', h1, h2, h3, h4⟩ => ?_
  have hw' : ∀ j, j < S.length → (S.getD j .wait).wt = false := fun j hj => hw j (by rw [← h.mg.ls]; exact hj)
  cases h2 with
  | wait h5 => rw [wts_zero.2 hw'] at h5; omega
  | dry h5 => exact absurd (h.mg.dry h5) hR
  | ok h5 hx hr hb =>
    obtain ⟨R', m1, m2⟩ := h.mg.win hp hx hr hw' hb
    have k4 := (k.to (Ft b gs gn)).trans' h4
    exact ⟨x, r, h1, by rw [← h.mg.ls]; exact hx, ⟨R', ⟨h.tl.step h3 k4, h.nx.onS k4 h.nf, h.lnb, h.nf, m1⟩, m2⟩, k4⟩
theorem Ad.start {w wr : World} {b gs gn : Nat} {order : Int} {L : List (List RwM)} (h : Tl w wr b gs gn order (List.replicate L.length .wait)) : Ad w (wr.alloc (.cells (inz (List.replicate L.length 0)).toArray 3)) b gs gn wr.heap.size order L (List.replicate L.length .wait) (List.replicate L.length 0) L := by
  obtain ⟨l1, l2, l3⟩ := h.tn.lt
  refine ⟨h.on ((Same.refl _ wr).alloc _), ?_, h.same.size, fun e => ?_, Mg11.start L⟩
  · have := heap_new wr (.cells (inz (List.replicate L.length 0)).toArray 3)
    unfold Nx
    rw [List.map_replicate]
    exact this
  · rcases e with e | e | e <;> omega
set_option maxRecDepth 100000 in
set_option maxHeartbeats 1000000 in
theorem merge11_ok {order : Int} (ho : order = 1 ∨ order = 2) {w : World} {a : Option Addr} {cap : Nat} {L : List (List RwM)} (h0 : 1 ≤ L.length) (h1 : L.length ≤ 64) (hl : ListsAt w a L) (hk : ∀ l ∈ L, lookF order none l = 0) (hn : L.flatten.length ≤ 2199023255552) :
    Calls Try.prog 14 #[.int .i64 order, .slice a L.length cap] w fun e w' => ∃ v, e = .returned (.tuple #[v, .int .i64 0]) ∧ OwnR w.heap.size w' v (srt (bef order) L.flatten) ∧ Kept w w' := by
  have HL : Hid _ := hl
  have HNEW : Hid (Calls _ _ _ _ _) := Tl.new ho h0 h1 (Same.refl _ w)
  have HLOOK : Hid (∀ (l : List RwM) (x : Option Addr) (c : Nat) (W : World), l ∈ L → RowsAt W x l → Calls Try.prog 27 #[.int .i64 order, .slice x l.length c] W fun e w' => e = .returned (.int .i64 0) ∧ Kept W w') := fun l x c W hm hr => by
    have := look11 order (cap := c) hr (Nat.le_trans (mem_flat_le hm) hn)
    rwa [hk l hm] at this
  have HADV : Hid (∀ (wr : World) (b gs gn nb : Nat) (S : List Sr) (N : List Nat) (R : List (List RwM)) (i : Nat), Ad w wr b gs gn nb order L S N R → i < L.length → (S.getD i .wait).wt = true → _) := fun wr b gs gn nb S N R i ad hi hw => advance11 ad cap hl (fun l hm r hr => (lookF_ok l none (hk l hm)).1 r hr) (fun l hm => Nat.le_trans (mem_flat_le hm) hn) hi hw
  have HPW : Hid (∀ i, i < L.length → (L.getD i []).Pairwise fun a b => bef order b a = false) := fun i hi => by
    rw [List.getD_eq_getElem?_getD, List.getElem?_eq_getElem hi]
    exact (lookF_ok _ none (hk _ (List.getElem_mem hi))).2.1
  have hmI : ∀ W : World, (Instr.makeSlice 49 (.int .i64 (L.length : Int)) (.int .i64 (L.length : Int))).run Try.prog W = .ok (.slice (some ⟨W.heap.size, 0, none⟩) L.length L.length) (W.alloc (.cells (inz (List.replicate L.length 0)).toArray 3)) := fun W => make_ints W L.length (by omega)
  have hmR : ∀ W : World, _ := fun W => make_rows0 W L.flatten.length hn
  have HST : Hid (∀ (wr : World) (b gs gn : Nat), Tl w wr b gs gn order (List.replicate L.length .wait) → Ad w (wr.alloc (.cells (inz (List.replicate L.length 0)).toArray 3)) b gs gn wr.heap.size order L (List.replicate L.length .wait) (List.replicate L.length 0) L) := fun wr b gs gn t => Ad.start t
  have HOM : Hid (∀ W : World, OwnR W.heap.size (W.alloc (.cells (madeCells (Value.agg #[.int .i64 0, .int .i64 0, .int .i64 0, .int .i64 0, .int .i64 0, .int .i64 0, .string .empty]).cells (L.flatten.length * 7)) 32)) (.slice (some ⟨W.heap.size, 0, none⟩) 0 L.flatten.length) []) := fun W => own_made (Nat.le_refl _) _ hn _
  obtain ⟨n, en⟩ : ∃ n, n = L.length := ⟨_, rfl⟩
  obtain ⟨tot, et⟩ : ∃ tot, tot = L.flatten.length := ⟨_, rfl⟩
  have hn2 : tot ≤ 2199023255552 := by rw [et]; exact hn
  rw [← en] at HNEW HADV hmI HST h1 HPW ⊢
  rw [← et] at hmR HOM
  generalize (inz (List.replicate n 0)).toArray = AI at *
  generalize madeCells (Value.agg #[.int .i64 0, .int .i64 0, .int .i64 0, .int .i64 0, .int .i64 0, .int .i64 0, .string .empty]).cells (tot * 7) = AR at *
  have EN : Hid _ := en
  have ET : Hid _ := et
  clear hl h0 hk hn en et ho
  go_enter Try.func14, Try.ntmps14
  go_wp2_with fail
  refine Calls.mono HNEW.out ?_
  rintro e w1 ⟨b, gs, gn, rfl, t1⟩
  have T1 : Hid _ := t1
  clear t1 HNEW
  go_wp2_with fail
  go_loopw [8, 30] (fun t i wr => ∃ q : Nat, q ≤ n ∧ i = .int .i64 (q : Int) ∧ t = .int .i64 (((L.take q).flatten.length : Nat) : Int) ∧ Tl w wr b gs gn order (List.replicate n .wait)) (fun _ i _ => n - (intOf i).toNat)
  case atStart => exact ⟨0, Nat.zero_le _, rfl, rfl, T1.out⟩
  case round =>
    clear T1
    obtain ⟨q, hq, rfl, rfl, tl⟩ := hrel
    by_cases hlt : q < n
    · have e1 : decide ((q : Int) < (n : Int)) = true := decide_eq_true (by omega)
      have e1' : (q : Int) < (n : Int) := by omega
      obtain ⟨l, hlq⟩ : ∃ l, L[q]? = some l := ⟨_, List.getElem?_eq_getElem (by rw [← EN.out]; exact hlt)⟩
      obtain ⟨bb, off, x, c, rfl, hbb, cl, hrow⟩ := (ListsAt.on HL.out tl.kept) q l hlq
      have HK : Hid (∀ W, _) := fun W (k : Kept wr W) => HLOOK.out l x c W (List.mem_of_getElem? hlq) (hrow.on k)
      have HTK : Hid _ := take_flat hlq
      have hle := take_flat_le L (q + 1)
      rw [take_flat hlq, ← ET.out] at hle
      have hww : IntKind.i64.wrap ((((L.take q).flatten.length : Nat) : Int) + ((l.length : Nat) : Int)) = (((L.take q).flatten.length : Nat) : Int) + ((l.length : Nat) : Int) := by rw [IntKind.wrap_i64]; omega
      have TL : Hid _ := tl
      have HQ : Hid _ := hlt
      generalize (L.take q).flatten.length = z at *
      generalize l.length = m at *
      clear tl hrow hlq hbb HLOOK HADV HPW HST HOM hmI hmR
      go_wp2_with fail
      refine Calls.mono (HK.out _ (by (repeat (first | assumption | exact Same.refl _ _ | apply Same.alloc | apply Same.drew | apply Same.drewN)); done)) ?_
      rintro e w2 ⟨rfl, k2⟩
      have T2 : Hid _ := TL.out.on k2
      clear k2 HK TL cl
      go_wp2_with fail
      go_roundw
      case rel => exact ⟨q + 1, HQ.out, by rw [Int.natCast_add]; rfl, by rw [HTK.out, Int.natCast_add], T2.out⟩
      case measure => simp only [intOf]; omega
    · obtain rfl : n = q := by omega
      have e1 : decide ((n : Int) < (n : Int)) = false := by simp
      have et2 : (L.take n).flatten.length = tot := by rw [EN.out, List.take_length, ET.out]
      rw [et2]
      have A1 : Hid _ := HST.out _ _ _ _ tl
      clear tl HLOOK HST hq hlt et2
      go_wp2_with fail
      generalize wr.heap.size = nb at *
      go_loopw [50] (fun i wr => ∃ (q : Nat) (S : List Sr) (N : List Nat), q ≤ n ∧ i = .int .i64 (q : Int) ∧ Ad w wr b gs gn nb order L S N L ∧ ∀ j, j < n → (S.getD j .wait).wt = decide (q ≤ j)) (fun i _ => n - (intOf i).toNat)
      case atStart => exact ⟨0, _, _, Nat.zero_le _, rfl, A1.out, fun j hj => by rw [List.getD_eq_getElem?_getD, List.getElem?_replicate, if_pos hj]; simp [Sr.wt]⟩
      case round =>
        clear A1
        obtain ⟨q, S, N, hq, rfl, ad, hwt⟩ := hrel
        by_cases hlt : q < n
        · have e1 : decide ((q : Int) < (n : Int)) = true := decide_eq_true (by omega)
          have HA : Hid _ := HADV.out _ _ _ _ _ _ _ _ q ad hlt (by rw [hwt q hlt]; simp)
          have HSL : Hid (S.length = n) := by have := ad.mg.ls; rw [← EN.out] at this; exact this
          have HWT : Hid _ := hwt
          have HQ : Hid _ := hlt
          clear ad hwt HADV HPW HOM hmI hmR
          go_wp2_with fail
          refine Calls.mono HA.out ?_
          rintro e w3 ⟨rfl, ⟨s, N', hs, ad3⟩, -⟩
          have A3 : Hid _ := ad3
          have S3 : Hid _ := hs
          clear ad3 HA hs
          go_wp2_with fail
          go_roundw
          case rel =>
            refine ⟨q + 1, _, N', HQ.out, by rw [Int.natCast_add]; rfl, A3.out, fun j hj => ?_⟩
            by_cases e : q = j
            · subst e
              rw [getD_set_eq' (by rw [HSL.out]; exact hj), S3.out, decide_eq_false (by omega)]
            · rw [getD_set_ne' e, HWT.out j hj]
              by_cases h : q ≤ j
              · rw [decide_eq_true h, decide_eq_true (by omega)]
              · rw [decide_eq_false h, decide_eq_false (by omega)]
          case measure => simp only [intOf]; omega
        · obtain rfl : n = q := by omega
          have e1 : decide ((n : Int) < (n : Int)) = false := by simp
          have A1 : Hid _ := ad.on ((Same.refl _ wr).alloc (.cells AR 32))
          have W1 : Hid (∀ j, j < n → (S.getD j .wait).wt = false) := fun j hj => by rw [hwt j hj]; exact decide_eq_false (by omega)
          have O1 : Hid _ := HOM.out wr
          have HLT : Hid (w.heap.size ≤ wr.heap.size ∧ b < wr.heap.size ∧ gs < wr.heap.size ∧ gn < wr.heap.size ∧ nb < wr.heap.size) := ⟨ad.tl.same.size, ad.tl.tn.lt.1, ad.tl.tn.lt.2.1, ad.tl.tn.lt.2.2, (ad.nx.frz 0).2⟩
          clear ad hwt HOM hmI hq hlt
          go_wp2_with fail
          obtain ⟨B, eB⟩ : ∃ B, B = wr.heap.size := ⟨_, rfl⟩
          rw [← eB] at O1 HLT ⊢
          have SZ : Hid (B ≤ (wr.alloc (.cells AR 32)).heap.size) := by
            have := World.size_alloc wr (.cells AR 32)
            show B ≤ _
            omega
          clear eB
          go_loopw [14, 62] (fun v i wr => ∃ (q : Nat) (S : List Sr) (N : List Nat) (R : List (List RwM)) (O : List RwM), q ≤ tot ∧ i = .int .i64 (q : Int) ∧ Ad w wr b gs gn nb order L S N R ∧ (∀ j, j < n → (S.getD j .wait).wt = false) ∧ OwnR B wr v O ∧ O.length = q ∧ O ++ srt (bef order) R.flatten = srt (bef order) L.flatten ∧ B ≤ wr.heap.size) (fun _ i _ => tot - (intOf i).toNat)
          case atStart => exact ⟨0, _, _, _, [], Nat.zero_le _, rfl, A1.out, W1.out, O1.out, rfl, rfl, SZ.out⟩
          case round =>
            clear A1 W1 O1 SZ
            obtain ⟨q, S, N, R, O, hq, rfl, ad, hwt, own, hol, hos, hB⟩ := hrel
            have hlens := congrArg List.length hos
            rw [List.length_append, srt_len, srt_len, ← ET.out, hol] at hlens
            by_cases hlt : q < tot
            · have e1 : decide ((q : Int) < (tot : Int)) = true := decide_eq_true (by omega)
              have hR : R.flatten ≠ [] := fun e => by
                rw [e, List.length_nil] at hlens
                omega
              have HW : Hid _ := ad.win (Same.refl _ wr) (fun i hi => HPW.out i (by rw [EN.out]; exact hi)) (fun j hj => hwt j (by rw [EN.out]; exact hj)) hR
              rw [← EN.out] at HW
              have HSL : Hid (S.length = n) := by have := ad.mg.ls; rw [← EN.out] at this; exact this
              have HWT : Hid _ := hwt
              have HQ : Hid _ := hlt
              have hnF : ∀ j, B ≤ j → ¬ Ft b gs gn j := fun j hj e => by
                obtain ⟨q0, q1, q2, q3, q4⟩ := HLT.out
                rcases e with e | e | e <;> omega
              have HAX : Hid (∀ (r : RwM) (W : World), Same (Ft b gs gn) wr W → ∀ ty, _) := fun r W (k : Same (Ft b gs gn) wr W) ty => app_row_one r (own.kept k (fun j hj => hnF j (own.block hj).1)) (by rw [hol]; omega) (Nat.le_trans hB k.size) ty
              have HOB : Hid (∀ j, u14.ownBlock = some j → w.heap.size ≤ j ∧ ¬ Ft b gs gn j ∧ j ≠ nb) := fun j hj => by
                have h1 := (own.block hj).1
                obtain ⟨q0, q1, q2, q3, q4⟩ := HLT.out
                exact ⟨by omega, hnF j h1, by omega⟩
              have HOS : Hid _ := hos
              have HOL : Hid _ := hol
              have HBW : Hid _ := hB
              have HKP : Hid (∀ (W W' : World) (v : Value) (P : List RwM), OwnR B W v P → Same (fun k => Ft b gs gn k ∨ k = nb) W W' → OwnR B W' v P) := fun W W' v P o k => o.kept k fun j hj e => by
                have h1 := (o.block hj).1
                obtain ⟨q0, q1, q2, q3, q4⟩ := HLT.out
                rcases e with e | e
                · exact hnF j h1 e
                · omega
              clear ad hwt own hol hos hB hlens hR hnF hlt HPW
              go_wp2_with fail
              refine Calls.mono HW.out ?_
              rintro e w3 ⟨x, r, rfl, hx, ⟨R', ad3, hsr⟩, k3⟩
              have A3 : Hid _ := ad3
              have X3 : Hid _ := hx
              have R3 : Hid _ := hsr
              have K3 : Hid _ := k3
              have HA3 : Hid (∀ W, Same (Ft b gs gn) wr W → ∀ ty, _) := HAX.out r
              have ER : Hid (∃ r', r' = r) := ⟨r, rfl⟩
              obtain ⟨rr, er⟩ := ER.out
              rw [← er] at R3 HA3
              have ERR : Hid _ := er
              clear ad3 hx hsr k3 HW HAX ER er
              obtain ⟨kind, time, seq, index, frm, til, body⟩ := r
              have HA4 : Hid (∀ g, g = (w3.alloc (.cells #[.int .i64 kind, .int .i64 time, .int .i64 seq, .int .i64 index, .int .i64 frm, .int .i64 til, .string body] 32)).heap.size → ∀ ty, ∃ v' w', (Builtin.append_ #[39, 39] ty #[u14, .slice (some ⟨g, 0, none⟩) 1 1]).run Try.prog ((w3.alloc (.cells #[.int .i64 kind, .int .i64 time, .int .i64 seq, .int .i64 index, .int .i64 frm, .int .i64 til, .string body] 32)).alloc (.cells #[.int .i64 kind, .int .i64 time, .int .i64 seq, .int .i64 index, .int .i64 frm, .int .i64 til, .string body] 32)) = .ok v' w' ∧ (OwnR B w' v' (O ++ [rr]) ∧ Ad w w' b gs gn nb order L (S.set x .wait) N R' ∧ B ≤ w'.heap.size)) := fun g hg ty => by
                have kk : Kept w3 (w3.alloc (.cells #[.int .i64 kind, .int .i64 time, .int .i64 seq, .int .i64 index, .int .i64 frm, .int .i64 til, .string body] 32)) := (Same.refl _ w3).alloc _
                have k4 := K3.out.trans' (kk.to (Ft b gs gn))
                obtain ⟨v', w', h1, h2, h3, -⟩ := HA3.out _ k4 ty
                rw [ERR.out, ← hg] at h1
                exact ⟨v', w', h1, h2, Ad.onS (A3.out.on kk) h3 HOB.out, Nat.le_trans HBW.out (Nat.le_trans k4.size h3.size)⟩
              clear HA3
              simp only [rowV]
              go_wp2_with (at_builtin; refine wpList_app rfl (.tmp 70) (.tmp 72) 39 39 rfl u14 (.slice (some ⟨_, 0, none⟩) 1 1) rfl rfl _ (HA4.out _ (by first | rfl | simp [World.size_alloc])) ?_; rintro v5 w5 ⟨o5, a5, z5⟩; have R5 : Hid _ := And.intro o5 a5; have Z5 : Hid _ := z5; clear o5 a5 z5)
              have HC : Hid _ := HADV.out _ _ _ _ _ _ _ _ x R5.out.2 X3.out (by rw [getD_set_eq' (by rw [HSL.out]; exact X3.out)]; rfl)
              refine Calls.mono HC.out ?_
              rintro e w6 ⟨rfl, ⟨s, N', hs, ad6⟩, k6⟩
              have A6 : Hid _ := ad6
              have O6 : Hid _ := HKP.out _ _ _ _ R5.out.1 k6
              have S6 : Hid _ := hs
              have Z6 : Hid _ := Nat.le_trans Z5.out k6.size
              clear ad6 k6 hs HC R5 HKP HOB HA4
              go_wp2_with fail
              go_roundw
              case rel =>
                refine ⟨q + 1, _, N', R', O ++ [rr], HQ.out, by rw [Int.natCast_add]; rfl, A6.out, fun j hj => ?_, O6.out, by rw [List.length_append, HOL.out]; rfl, ?_, Z6.out⟩
                · rw [List.set_set]
                  by_cases e : x = j
                  · subst e
                    rw [getD_set_eq' (by rw [HSL.out]; exact hj), S6.out]
                  · rw [getD_set_ne' e, HWT.out j hj]
                · rw [← HOS.out, R3.out, List.append_assoc]
                  rfl
              case measure => simp only [intOf]; omega
            · obtain rfl : tot = q := by omega
              have e1 : decide ((tot : Int) < (tot : Int)) = false := by simp
              have hRn : R.flatten = [] := List.eq_nil_of_length_eq_zero (by omega)
              rw [hRn] at hos
              have hO : O = srt (bef order) L.flatten := by rw [← hos]; exact (List.append_nil O).symm
              rw [hO] at own
              have R1 : Hid _ := (⟨own.lower HLT.out.1, ad.tl.kept⟩ : _ ∧ _)
              clear ad hwt own hol hos hB hlens hRn hO hq hlt
              go_wp2_with fail
              go_ret2
              exact ⟨_, rfl, R1.out⟩
end Go.Proofs.Ytolaeiagfnhllaa
