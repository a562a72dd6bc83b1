/- What is proved: what Win of the document's tree answers and leaves; the tree is one that its New made. -/
import Derived.Test.YtolaeiagfnhllaaTRef
import Derived.Test.YtolaeiagfnhllaaTWin
import Derived.Deep.RegionHeld3
namespace Go.Proofs.Ytolaeiagfnhllaa
open Go.RowKit

/-- What the loop has found among the first q sources. -/
def Bst (order : Int) (S : List Sr) (q : Nat) (b : Int) : Prop :=
  (∀ j, j < q → (S.getD j .wait).wt = false) ∧ ((b = -1 ∧ ∀ j, j < q → S.getD j .wait = .fin) ∨ ∃ (x : Nat) (r : RwM), b = (x : Int) ∧ x < q ∧ S.getD x .wait = .fed r ∧ ∀ j, j < q → bt order S j x = false)
theorem Bst.zero (order : Int) (S : List Sr) : Bst order S 0 (-1) := ⟨fun j h => by omega, .inl ⟨rfl, fun j h => by omega⟩⟩
theorem Bst.fin {order : Int} {S : List Sr} {q : Nat} {b : Int} (h : Bst order S q b) (hq : S.getD q .wait = .fin) : Bst order S (q + 1) b := by
  refine ⟨fun j hj => ?_, ?_⟩
  · by_cases e : j = q
    · subst e; rw [hq]; rfl
    · exact h.1 j (by omega)
  · rcases h.2 with ⟨h1, h2⟩ | ⟨x, r, h1, h2, h3, h4⟩
    · refine .inl ⟨h1, fun j hj => ?_⟩
      by_cases e : j = q
      · subst e; exact hq
      · exact h2 j (by omega)
    · refine .inr ⟨x, r, h1, by omega, h3, fun j hj => ?_⟩
      by_cases e : j = q
      · subst e; unfold bt; rw [hq]
      · exact h4 j (by omega)
theorem Bst.first {order : Int} {S : List Sr} {q : Nat} (h : Bst order S q (-1)) {s : RwM} (hq : S.getD q .wait = .fed s) : Bst order S (q + 1) (q : Int) := by
  refine ⟨fun j hj => ?_, .inr ⟨q, s, rfl, by omega, hq, fun j hj => ?_⟩⟩
  · by_cases e : j = q
    · subst e; rw [hq]; rfl
    · exact h.1 j (by omega)
  · by_cases e : j = q
    · subst e; exact (bt_swo _ _).irr _
    · rcases h.2 with ⟨h1, h2⟩ | ⟨x, r, h1, h2, h3, h4⟩
      · unfold bt
        rw [h2 j (by omega)]
      · omega
theorem Bst.less {order : Int} {S : List Sr} {q x : Nat} (h : Bst order S q (x : Int)) {s r : RwM} (hq : S.getD q .wait = .fed s) (hx : S.getD x .wait = .fed r) (hb : bef order s r = true) : Bst order S (q + 1) (q : Int) := by
  have hb2 : bt order S q x = true := by unfold bt; rw [hq, hx]; simp [hb]
  refine ⟨fun j hj => ?_, .inr ⟨q, s, rfl, by omega, hq, fun j hj => ?_⟩⟩
  · by_cases e : j = q
    · subst e; rw [hq]; rfl
    · exact h.1 j (by omega)
  · by_cases e : j = q
    · subst e; exact (bt_swo _ _).irr _
    · rcases h.2 with ⟨h1, h2⟩ | ⟨y, r', h1, h2, h3, h4⟩
      · omega
      · obtain rfl : x = y := by omega
        exact (bt_swo _ _).ntr (h4 j (by omega)) ((bt_swo _ _).asym hb2)
theorem Bst.more {order : Int} {S : List Sr} {q x : Nat} (h : Bst order S q (x : Int)) {s r : RwM} (hq : S.getD q .wait = .fed s) (hx : S.getD x .wait = .fed r) (hb : bef order s r = false) : Bst order S (q + 1) (x : Int) := by
  refine ⟨fun j hj => ?_, ?_⟩
  · by_cases e : j = q
    · subst e; rw [hq]; rfl
    · exact h.1 j (by omega)
  · rcases h.2 with ⟨h1, h2⟩ | ⟨y, r', h1, h2, h3, h4⟩
    · omega
    · obtain rfl : x = y := by omega
      refine .inr ⟨x, r', rfl, by omega, h3, fun j hj => ?_⟩
      by_cases e : j = q
      · subst e
        unfold bt
        rw [hq, hx]
        simp only [hb, Bool.false_or]
        rw [decide_eq_false (by omega), Bool.and_false]
      · exact h4 j (by omega)
theorem loadVar_rowD {w : World} {b : Nat} {r : RwM} {ty : TypeId} (hty : ty = 32 ∨ ty = 41) (h : w.heap[b]? = some (.cells #[.int .i64 r.kind, .int .i64 r.time, .int .i64 r.seq, .int .i64 r.index, .int .i64 r.frm, .int .i64 r.til, .string r.body] ty (0, 0))) : (loadVar ty ⟨b, 0, none⟩).run Try.prog w.drew = .ok (rowV r) w.drew := loadVar_row hty h
/-- A row written over. -/
def putR (w : World) (g : Nat) (r : RwM) : World := ((((((w.setCell ⟨g, 0, none⟩ (.int .i64 r.kind)).setCell ⟨g, 1, none⟩ (.int .i64 r.time)).setCell ⟨g, 2, none⟩ (.int .i64 r.seq)).setCell ⟨g, 3, none⟩ (.int .i64 r.index)).setCell ⟨g, 4, none⟩ (.int .i64 r.frm)).setCell ⟨g, 5, none⟩ (.int .i64 r.til)).setCell ⟨g, 6, none⟩ (.string r.body)
theorem putR_same (w : World) (g : Nat) (r : RwM) : Same (fun k => k = g) w (putR w g r) :=
  (((((((Same.refl (fun k => k = g) w).setCell ⟨g, 0, none⟩ (.inr rfl) _).setCell ⟨g, 1, none⟩ (.inr rfl) _).setCell ⟨g, 2, none⟩ (.inr rfl) _).setCell ⟨g, 3, none⟩ (.inr rfl) _).setCell ⟨g, 4, none⟩ (.inr rfl) _).setCell ⟨g, 5, none⟩ (.inr rfl) _).setCell ⟨g, 6, none⟩ (.inr rfl) _
theorem putR_at {w : World} {g : Nat} {v0 v1 v2 v3 v4 v5 v6 : Value} {ty : TypeId} (h : w.heap[g]? = some (.cells #[v0, v1, v2, v3, v4, v5, v6] ty (0, 0))) (r : RwM) : (putR w g r).heap[g]? = some (.cells #[.int .i64 r.kind, .int .i64 r.time, .int .i64 r.seq, .int .i64 r.index, .int .i64 r.frm, .int .i64 r.til, .string r.body] ty (0, 0)) := by
  unfold putR
  rw [setCell_at (setCell_at (setCell_at (setCell_at (setCell_at (setCell_at (setCell_at h _ _) _ _) _ _) _ _) _ _) _ _) _ _]
  rfl
set_option maxRecDepth 100000 in
set_option maxHeartbeats 1000000 in
theorem rwin11 {w : World} {rb rs rr : Nat} {order : Int} {S : List Sr} {R : List RwM} (h : RT w rb rs rr order S R) :
    Calls Try.prog 25 #[.pointer (some ⟨rb, 0, none⟩)] w fun e w' => ∃ x r c S', e = .returned (.tuple #[.int .i64 ((x : Nat) : Int), rowV r, .int .i64 c]) ∧ WinR order S x r c S' ∧ (∃ R', RT w' rb rs rr order S' R') ∧ Same (RF rb rs rr) w w' := by
  have TR : Hid _ := h
  have hk1 := h.k1
  obtain ⟨n, en⟩ : ∃ n, n = S.length := ⟨_, rfl⟩
  rw [← en] at hk1
  have EN : Hid _ := en
  have BX : Hid _ := heap_new w (.cells #[.int .i64 0, .int .i64 0, .int .i64 0, .int .i64 0, .int .i64 0, .int .i64 0, .string ⟨#[]⟩] 41)
  have KB : Hid (Kept w (w.alloc (.cells #[.int .i64 0, .int .i64 0, .int .i64 0, .int .i64 0, .int .i64 0, .int .i64 0, .string ⟨#[]⟩] 41))) := (Same.refl _ _).alloc _
  clear h en
  go_enter Try.func25, Try.ntmps25
  go_wp2_with fail
  go_loopw [5, 6] (fun bb i wr => ∃ (q : Nat) (z : Int), q ≤ n ∧ i = .int .i64 (q : Int) ∧ bb = .int .i64 z ∧ Bst order S q z ∧ Kept w wr ∧ wr.heap[w.heap.size]? = some (.cells #[.int .i64 0, .int .i64 0, .int .i64 0, .int .i64 0, .int .i64 0, .int .i64 0, .string ⟨#[]⟩] 41 (0, 0))) (fun _ i _ => n - (intOf i).toNat)
  case atStart => exact ⟨0, -1, Nat.zero_le _, rfl, rfl, Bst.zero _ _, KB.out, BX.out⟩
  case round =>
    clear BX KB
    obtain ⟨q, z, hq, rfl, rfl, bs, ks, bx⟩ := hrel
    have KS : Hid _ := ks
    have BX : Hid _ := bx
    have BS : Hid _ := bs
    have tr := TR.out.on ks
    obtain ⟨⟨c0, c1, c2⟩, hb, hrs, hrr⟩ := tr.cells
    rw [← EN.out] at c1 c2
    have hbl := lt_of_heap bx
    obtain ⟨⟨y0, y1, y2, y3, y4, y5, y6⟩, z0, z1, z2, z3, z4, z5, z6⟩ := row_obj bx
    have hsl : rb < w.heap.size ∧ rs < w.heap.size ∧ rr < w.heap.size := TR.out.cells.2
    obtain ⟨hsb, hss, hsr⟩ := hsl
    have nb : w.heap.size ≠ rb := by omega
    have ns : w.heap.size ≠ rs := by omega
    have nr : w.heap.size ≠ rr := by omega
    by_cases hlt : q < n
    · have e1 : decide ((q : Int) < (n : Int)) = true := decide_eq_true (by omega)
      have e1' : (q : Int) < (n : Int) := by omega
      have hqS : q < S.length := by rw [← EN.out]; exact hlt
      obtain ⟨p0, pf⟩ := tr.st_at hqS
      have hlt2 : Hid _ := hlt
      cases hsq : S.getD q .wait with
      | wait =>
        rw [hsq] at p0
        simp only [Sr.code] at p0
        have WR : Hid (WinR order S 0 r0 113 S) := WinR.wait (by
          by_cases e : wts S = 0
          · have := wts_zero.1 e q hqS
            rw [hsq] at this; cases this
          · omega)
        have KP : Hid (Kept w (putR wr w.heap.size r0)) := ks.trans (putR_same _ _ _) fun i hi e => by omega
        have PA : Hid _ := putR_at bx r0
        clear tr bs hsq ks bx
        go_wp2_with fail
        refine bodyPost_ret (results_tct (a := 3) (t := 41) (u := 2) (s := 4) rfl rfl (loadVar_row (r := r0) (.inr rfl) PA.out)) rfl ?_
        exact ⟨0, r0, 113, S, rfl, WR.out, ⟨R, TR.out.on KP.out⟩, Kept.to KP.out _⟩
      | fin =>
        rw [hsq] at p0
        simp only [Sr.code] at p0
        have B1 : Hid _ := bs.fin hsq
        clear tr bs hsq
        go_wp2_with fail
        go_quiet (fail)
        go_wp2_with fail
        go_roundw
        case rel => exact ⟨q + 1, z, hlt2.out, by rw [Int.natCast_add]; rfl, rfl, B1.out, KS.out.drewN _, BX.out⟩
        case measure => simp only [intOf]; omega
      | fed s =>
        rw [hsq] at p0
        simp only [Sr.code] at p0
        by_cases hz : z = -1
        · subst hz
          have B1 : Hid _ := bs.first hsq
          clear tr bs hsq
          go_wp2_with fail
          go_quiet (fail)
          go_wp2_with fail
          go_roundw
          case rel => exact ⟨q + 1, (q : Int), hlt2.out, by rw [Int.natCast_add]; rfl, rfl, B1.out, KS.out.drewN _, BX.out⟩
          case measure => simp only [intOf]; omega
        · obtain ⟨x, r, rfl, hxq, hsx, -⟩ : ∃ (x : Nat) (r : RwM), z = (x : Int) ∧ x < q ∧ S.getD x .wait = .fed r ∧ True := by
            rcases bs.2 with ⟨e, -⟩ | ⟨x, r, e1, e2, e3, -⟩
            · exact absurd e hz
            · exact ⟨x, r, e1, e2, e3, trivial⟩
          have dx : decide ((x : Int) < 0) = false := decide_eq_false (by omega)
          have dxn : (x : Int) < (n : Int) := by omega
          obtain ⟨a0, a1, a2, a3, a4, a5, a6⟩ := tr.row_at hqS (tr.fed q s hqS hsq)
          obtain ⟨b0, b1, b2, b3, b4, b5, b6⟩ := tr.row_at (by omega) (tr.fed x r (by omega) hsx)
          have HBF : Hid (∀ W, Kept wr W → Calls Try.prog 22 #[.int .i64 order, rowV s, rowV r] W fun e w' => e = .returned (.bool (bef order s r)) ∧ Kept wr w') := fun W k => Calls.mono (before_any order s r W) fun _ _ h => ⟨h.1, k.trans' h.2⟩
          have BL : Hid (bef order s r = true → Bst order S (q + 1) (q : Int)) := fun e => bs.less hsq hsx e
          have BM : Hid (bef order s r = false → Bst order S (q + 1) (x : Int)) := fun e => bs.more hsq hsx e
          generalize bef order s r = bb at *
          obtain ⟨kind, time, seq, index, frm, til, body⟩ := s
          obtain ⟨kind', time', seq', index', frm', til', body'⟩ := r
          unfold rowV at HBF
          simp only at *
          have HT : Hid (∀ W, Kept wr W → Kept wr W ∧ W.cell? ⟨rb, 0, none⟩ = some (.int .i64 order) ∧ W.cell? ⟨rb, 1, none⟩ = some (.slice (some ⟨rs, 0, none⟩) n n) ∧ W.cell? ⟨rb, 2, none⟩ = some (.slice (some ⟨rr, 0, none⟩) n n) ∧ W.cell? ⟨rs, q, none⟩ = some (.int .i64 1) ∧ W.cell? ⟨rr, q * 7, none⟩ = some (.int .i64 kind) ∧ W.cell? ⟨rr, q * 7 + 1, none⟩ = some (.int .i64 time) ∧ W.cell? ⟨rr, q * 7 + 2, none⟩ = some (.int .i64 seq) ∧ W.cell? ⟨rr, q * 7 + 3, none⟩ = some (.int .i64 index) ∧ W.cell? ⟨rr, q * 7 + 4, none⟩ = some (.int .i64 frm) ∧ W.cell? ⟨rr, q * 7 + 5, none⟩ = some (.int .i64 til) ∧ W.cell? ⟨rr, q * 7 + 6, none⟩ = some (.string body) ∧ W.cell? ⟨rr, x * 7, none⟩ = some (.int .i64 kind') ∧ W.cell? ⟨rr, x * 7 + 1, none⟩ = some (.int .i64 time') ∧ W.cell? ⟨rr, x * 7 + 2, none⟩ = some (.int .i64 seq') ∧ W.cell? ⟨rr, x * 7 + 3, none⟩ = some (.int .i64 index') ∧ W.cell? ⟨rr, x * 7 + 4, none⟩ = some (.int .i64 frm') ∧ W.cell? ⟨rr, x * 7 + 5, none⟩ = some (.int .i64 til') ∧ W.cell? ⟨rr, x * 7 + 6, none⟩ = some (.string body')) := fun W k => by
            have tb : ∀ o, W.cell? ⟨rb, o, none⟩ = wr.cell? ⟨rb, o, none⟩ := fun o => k.cell (p := ⟨rb, o, none⟩) hb (fun e => e)
            have ts : ∀ o, W.cell? ⟨rs, o, none⟩ = wr.cell? ⟨rs, o, none⟩ := fun o => k.cell (p := ⟨rs, o, none⟩) hrs (fun e => e)
            have tg : ∀ o, W.cell? ⟨rr, o, none⟩ = wr.cell? ⟨rr, o, none⟩ := fun o => k.cell (p := ⟨rr, o, none⟩) hrr (fun e => e)
            exact ⟨k, (tb _).trans c0, (tb _).trans c1, (tb _).trans c2, (ts _).trans p0, (tg _).trans a0, (tg _).trans a1, (tg _).trans a2, (tg _).trans a3, (tg _).trans a4, (tg _).trans a5, (tg _).trans a6, (tg _).trans b0, (tg _).trans b1, (tg _).trans b2, (tg _).trans b3, (tg _).trans b4, (tg _).trans b5, (tg _).trans b6⟩
          have HF : Hid (∀ W, Kept wr W → Kept w W ∧ W.heap[w.heap.size]? = some (.cells #[.int .i64 0, .int .i64 0, .int .i64 0, .int .i64 0, .int .i64 0, .int .i64 0, .string ⟨#[]⟩] 41 (0, 0))) := fun W k => ⟨ks.trans' k, (k.block _ hbl (fun e => e)).trans bx⟩
          clear tr bs hsq hsx ks bx hqS hz z0 z1 z2 z3 z4 z5 z6
          go_wp2_with fail
          go_region_held3 (fun W => Kept wr W ∧ W.cell? ⟨rb, 0, none⟩ = some (.int .i64 order) ∧ W.cell? ⟨rb, 1, none⟩ = some (.slice (some ⟨rs, 0, none⟩) n n) ∧ W.cell? ⟨rb, 2, none⟩ = some (.slice (some ⟨rr, 0, none⟩) n n) ∧ W.cell? ⟨rs, q, none⟩ = some (.int .i64 1) ∧ W.cell? ⟨rr, q * 7, none⟩ = some (.int .i64 kind) ∧ W.cell? ⟨rr, q * 7 + 1, none⟩ = some (.int .i64 time) ∧ W.cell? ⟨rr, q * 7 + 2, none⟩ = some (.int .i64 seq) ∧ W.cell? ⟨rr, q * 7 + 3, none⟩ = some (.int .i64 index) ∧ W.cell? ⟨rr, q * 7 + 4, none⟩ = some (.int .i64 frm) ∧ W.cell? ⟨rr, q * 7 + 5, none⟩ = some (.int .i64 til) ∧ W.cell? ⟨rr, q * 7 + 6, none⟩ = some (.string body) ∧ W.cell? ⟨rr, x * 7, none⟩ = some (.int .i64 kind') ∧ W.cell? ⟨rr, x * 7 + 1, none⟩ = some (.int .i64 time') ∧ W.cell? ⟨rr, x * 7 + 2, none⟩ = some (.int .i64 seq') ∧ W.cell? ⟨rr, x * 7 + 3, none⟩ = some (.int .i64 index') ∧ W.cell? ⟨rr, x * 7 + 4, none⟩ = some (.int .i64 frm') ∧ W.cell? ⟨rr, x * 7 + 5, none⟩ = some (.int .i64 til') ∧ W.cell? ⟨rr, x * 7 + 6, none⟩ = some (.string body'))
            (exact HT.out _ (by (repeat (first | assumption | exact Same.refl _ _ | apply Same.alloc | apply Same.drew | apply Same.drewN)); done))
            (first
            | (go_at_call 22; refine Calls.mono (HBF.out _ (by (repeat (first | assumption | exact Same.refl _ _ | apply Same.alloc | apply Same.drew | apply Same.drewN)); done)) ?_; rintro r w1 ⟨rfl, k1⟩))
          all_goals
            cases bb with
            | true =>
              go_wp2_with fail
              go_roundw
              case rel => exact ⟨q + 1, (q : Int), hlt2.out, by rw [Int.natCast_add]; rfl, rfl, BL.out rfl, (HF.out _ (by (repeat (first | assumption | exact Same.refl _ _ | apply Same.alloc | apply Same.drew | apply Same.drewN)); done)).1, (HF.out _ (by (repeat (first | assumption | exact Same.refl _ _ | apply Same.alloc | apply Same.drew | apply Same.drewN)); done)).2⟩
              case measure => simp only [intOf]; omega
            | false =>
              go_wp2_with fail
              go_roundw
              case rel => exact ⟨q + 1, (x : Int), hlt2.out, by rw [Int.natCast_add]; rfl, rfl, BM.out rfl, (HF.out _ (by (repeat (first | assumption | exact Same.refl _ _ | apply Same.alloc | apply Same.drew | apply Same.drewN)); done)).1, (HF.out _ (by (repeat (first | assumption | exact Same.refl _ _ | apply Same.alloc | apply Same.drew | apply Same.drewN)); done)).2⟩
              case measure => simp only [intOf]; omega
    · obtain rfl : n = q := by omega
      have e1 : decide ((n : Int) < (n : Int)) = false := by simp
      rcases bs.2 with ⟨rfl, hdr⟩ | ⟨x, r, rfl, hxq, hsx, hbx⟩
      · have WR : Hid (WinR order S 0 r0 114 S) := WinR.dry fun i hi => hdr i (by rw [EN.out]; exact hi)
        have KP : Hid (Kept w (putR wr w.heap.size r0)) := ks.trans (putR_same _ _ _) fun i hi e => by omega
        have PA : Hid _ := putR_at bx r0
        clear tr bs ks bx hdr
        go_wp2_with fail
        refine bodyPost_ret (results_tct (a := 3) (t := 41) (u := 2) (s := 4) rfl rfl (loadVar_row (r := r0) (.inr rfl) PA.out)) rfl ?_
        first
        | exact ⟨0, r0, 114, rfl, S, WR.out, ⟨R, TR.out.on KP.out⟩, Kept.to KP.out _⟩
        | exact ⟨0, r0, 114, S, rfl, WR.out, ⟨R, TR.out.on KP.out⟩, Kept.to KP.out _⟩
      · have hxS : x < S.length := by rw [← EN.out]; exact hxq
        have dx : decide ((x : Int) < 0) = false := decide_eq_false (by omega)
        have dxn : (x : Int) < (n : Int) := by omega
        obtain ⟨b0, b1, b2, b3, b4, b5, b6⟩ := tr.row_at hxS (tr.fed x r hxS hsx)
        obtain ⟨p0, pf⟩ := tr.st_at hxS
        rw [hsx] at p0
        simp only [Sr.code] at p0
        have WR : Hid (WinR order S x r 0 (S.set x .wait)) := WinR.ok (wts_zero.2 fun i hi => bs.1 i (by rw [EN.out]; exact hi)) hxS hsx fun i hi => hbx i (by rw [EN.out]; exact hi)
        obtain ⟨n1, n2, n3⟩ := TR.out.ne
        obtain ⟨R1, R2⟩ := tr.setS (i := x)
        have hs2 := putR_same (wr.setCell ⟨rs, x, none⟩ (.int .i64 0)) w.heap.size r
        have FN : Hid (RT (putR (wr.setCell ⟨rs, x, none⟩ (.int .i64 0)) w.heap.size r) rb rs rr order (S.set x .wait) R ∧ Same (RF rb rs rr) w (putR (wr.setCell ⟨rs, x, none⟩ (.int .i64 0)) w.heap.size r)) := ⟨R1.onS hs2 (Ne.symm nb) (Ne.symm ns) (Ne.symm nr), ((Kept.to ks _).trans' R2).trans hs2 fun i hi e => by omega⟩
        have PA : Hid _ := putR_at (w := wr.setCell ⟨rs, x, none⟩ (.int .i64 0)) ((R2.block _ hbl (fun e => by rcases e with e | e | e <;> omega)).trans bx) r
        generalize S.set x .wait = S' at *
        obtain ⟨kind, time, seq, index, frm, til, body⟩ := r
        unfold putR at *
        simp only at *
        clear tr bs ks bx hbx hsx hxS R1 R2 hs2
        go_wp2_with fail
        go_region
        all_goals (go_wp2_with fail)
        all_goals
          refine bodyPost_ret (results_tct (a := 3) (t := 41) (u := 2) (s := 4) rfl rfl (loadVar_rowD (r := ⟨kind, time, seq, index, frm, til, body⟩) (.inr rfl) PA.out)) rfl ?_
          exact ⟨x, _, 0, S', rfl, WR.out, ⟨R, FN.out.1.on (Same.refl _ _).drew⟩, FN.out.2.drew⟩
end Go.Proofs.Ytolaeiagfnhllaa
