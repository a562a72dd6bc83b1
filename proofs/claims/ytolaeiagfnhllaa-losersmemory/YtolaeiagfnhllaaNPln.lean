/- What is proved: lists of rows turned into the document's, held against them, and whether a list is sorted, as the program answers it; the lists lie in memory. -/
import Derived.Test.YtolaeiagfnhllaaNRef
namespace Go.Proofs.Ytolaeiagfnhllaa
open Go.RowKit

theorem plain_f (k t s i f u : Int) (y : ByteArray) (w : World) : Calls Try.prog 13 #[.agg #[.int .i64 k, .int .i64 t, .int .i64 s, .int .i64 i, .int .i64 f, .int .i64 u, .string y]] w fun e w' => e = .returned (.agg #[.int .i64 k, .int .i64 t, .int .i64 s, .int .i64 i, .int .i64 f, .int .i64 u, .string y]) ∧ Kept w w' := plain_any ⟨k, t, s, i, f, u, y⟩ w
theorem neq_rrow (r : RwM) (w : World) : (binOp .neq 41 (rowV r) (rowV r)).run Try.prog w = .ok (.bool false) w := by
  obtain ⟨kind, time, seq, index, frm, til, body⟩ := r
  unfold rowV
  go_simp
theorem getElem_take_succ {l : List RwM} {j : Nat} {r : RwM} (h : l[j]? = some r) : l.take (j + 1) = l.take j ++ [r] := by rw [List.take_add_one, h]; rfl
set_option maxRecDepth 100000 in
set_option maxHeartbeats 1600000 in
theorem same10_true {w : World} {a b : Option Addr} {ca cb : Nat} {l : List RwM} (ha : RowsAt w a l) (hb : RowsAt w b l) (hn : l.length ≤ 2199023255552) : Calls Try.prog 16 #[.slice a l.length ca, .slice b l.length cb] w fun e w' => e = .returned (.bool true) ∧ Kept w w' := by
  obtain ⟨n, en⟩ : ∃ n, n = l.length := ⟨_, rfl⟩
  rw [← en] at hn ⊢
  have HA : Hid _ := ha
  have HB : Hid _ := hb
  have EN : Hid _ := en
  have HP : Hid (∀ k t s i f u y W, _) := plain_f
  clear ha hb en
  go_enter Try.func16, Try.ntmps16
  go_wp2_with fail
  go_loopw [14] (fun i wr => ∃ j : Nat, j ≤ n ∧ i = .int .i64 j ∧ Kept w wr) (fun i _ => n - (intOf i).toNat)
  case atStart => exact ⟨0, Nat.zero_le _, rfl, Same.refl _ _⟩
  case round =>
    obtain ⟨j, hj, rfl, kk⟩ := hrel
    have KK : Hid _ := kk
    by_cases hlt : j < n
    · have c1 : decide ((j : Int) < (n : Int)) = true := decide_eq_true (by omega)
      have c1' : (j : Int) < (n : Int) := by omega
      obtain ⟨r, hr⟩ : ∃ r, l[j]? = some r := ⟨_, List.getElem?_eq_getElem (by rw [← EN.out]; exact hlt)⟩
      obtain ⟨g, off, ea, hg, x0, x1, x2, x3, x4, x5, x6⟩ := (RowsAt.on HA.out kk) j r hr
      subst ea
      obtain ⟨gb, ob, eb, hgb, y0, y1, y2, y3, y4, y5, y6⟩ := (RowsAt.on HB.out kk) j r hr
      subst eb
      have HQ := neq_rrow r
      have KB : Hid (Kept wr (wr.alloc (.cells #[.int .i64 r.kind, .int .i64 r.time, .int .i64 r.seq, .int .i64 r.index, .int .i64 r.frm, .int .i64 r.til, .string r.body] 32))) := (Same.refl _ wr).alloc _
      have HBX : Hid _ := heap_new wr (.cells #[.int .i64 r.kind, .int .i64 r.time, .int .i64 r.seq, .int .i64 r.index, .int .i64 r.frm, .int .i64 r.til, .string r.body] 32)
      clear hr kk
      obtain ⟨kind, time, seq, index, frm, til, body⟩ := r
      unfold rowV at HQ
      simp only at *
      go_wp2_with fail
      have hlx := lt_of_heap HBX.out
      generalize wr.alloc (.cells #[.int .i64 kind, .int .i64 time, .int .i64 seq, .int .i64 index, .int .i64 frm, .int .i64 til, .string body] 32) = W1 at HBX KB hlx ⊢
      have hgb1 : gb < W1.heap.size := Nat.lt_of_lt_of_le hgb KB.out.size
      obtain ⟨⟨r0, r1, r2, r3, r4, r5, r6⟩, -⟩ := row_obj HBX.out
      have z0 := (KB.out.cell (p := ⟨gb, _, none⟩) hgb (fun e => e)).trans y0
      have z1 := (KB.out.cell (p := ⟨gb, _, none⟩) hgb (fun e => e)).trans y1
      have z2 := (KB.out.cell (p := ⟨gb, _, none⟩) hgb (fun e => e)).trans y2
      have z3 := (KB.out.cell (p := ⟨gb, _, none⟩) hgb (fun e => e)).trans y3
      have z4 := (KB.out.cell (p := ⟨gb, _, none⟩) hgb (fun e => e)).trans y4
      have z5 := (KB.out.cell (p := ⟨gb, _, none⟩) hgb (fun e => e)).trans y5
      have z6 := (KB.out.cell (p := ⟨gb, _, none⟩) hgb (fun e => e)).trans y6
      generalize wr.heap.size = h at *
      have HP1 : Hid (∀ W, Kept W1 W → Calls _ _ _ _ fun e w' => _ ∧ Kept W1 w') := fun W (k : Kept W1 W) => Calls.mono (HP.out kind time seq index frm til body W) fun e w' hh => ⟨hh.1, k.trans' hh.2⟩
      have HT : Hid (∀ W, Kept W1 W → Kept W1 W ∧ W.cell? ⟨h, 0, none⟩ = some (.int .i64 kind) ∧ W.cell? ⟨h, 1, none⟩ = some (.int .i64 time) ∧ W.cell? ⟨h, 2, none⟩ = some (.int .i64 seq) ∧ W.cell? ⟨h, 3, none⟩ = some (.int .i64 index) ∧ W.cell? ⟨h, 4, none⟩ = some (.int .i64 frm) ∧ W.cell? ⟨h, 5, none⟩ = some (.int .i64 til) ∧ W.cell? ⟨h, 6, none⟩ = some (.string body) ∧ W.cell? ⟨gb, ob + j * 7, none⟩ = some (.int .i64 kind) ∧ W.cell? ⟨gb, ob + j * 7 + 1, none⟩ = some (.int .i64 time) ∧ W.cell? ⟨gb, ob + j * 7 + 2, none⟩ = some (.int .i64 seq) ∧ W.cell? ⟨gb, ob + j * 7 + 3, none⟩ = some (.int .i64 index) ∧ W.cell? ⟨gb, ob + j * 7 + 4, none⟩ = some (.int .i64 frm) ∧ W.cell? ⟨gb, ob + j * 7 + 5, none⟩ = some (.int .i64 til) ∧ W.cell? ⟨gb, ob + j * 7 + 6, none⟩ = some (.string body)) := fun W k =>
        ⟨k, (k.cell (p := ⟨h, _, none⟩) hlx (fun e => e)).trans r0, (k.cell (p := ⟨h, _, none⟩) hlx (fun e => e)).trans r1, (k.cell (p := ⟨h, _, none⟩) hlx (fun e => e)).trans r2, (k.cell (p := ⟨h, _, none⟩) hlx (fun e => e)).trans r3, (k.cell (p := ⟨h, _, none⟩) hlx (fun e => e)).trans r4, (k.cell (p := ⟨h, _, none⟩) hlx (fun e => e)).trans r5, (k.cell (p := ⟨h, _, none⟩) hlx (fun e => e)).trans r6, (k.cell (p := ⟨gb, _, none⟩) hgb1 (fun e => e)).trans z0, (k.cell (p := ⟨gb, _, none⟩) hgb1 (fun e => e)).trans z1, (k.cell (p := ⟨gb, _, none⟩) hgb1 (fun e => e)).trans z2, (k.cell (p := ⟨gb, _, none⟩) hgb1 (fun e => e)).trans z3, (k.cell (p := ⟨gb, _, none⟩) hgb1 (fun e => e)).trans z4, (k.cell (p := ⟨gb, _, none⟩) hgb1 (fun e => e)).trans z5, (k.cell (p := ⟨gb, _, none⟩) hgb1 (fun e => e)).trans z6⟩
      clear x0 x1 x2 x3 x4 x5 x6 y0 y1 y2 y3 y4 y5 y6
      go_region_held3 (fun W => Kept W1 W ∧ W.cell? ⟨h, 0, none⟩ = some (.int .i64 kind) ∧ W.cell? ⟨h, 1, none⟩ = some (.int .i64 time) ∧ W.cell? ⟨h, 2, none⟩ = some (.int .i64 seq) ∧ W.cell? ⟨h, 3, none⟩ = some (.int .i64 index) ∧ W.cell? ⟨h, 4, none⟩ = some (.int .i64 frm) ∧ W.cell? ⟨h, 5, none⟩ = some (.int .i64 til) ∧ W.cell? ⟨h, 6, none⟩ = some (.string body) ∧ W.cell? ⟨gb, ob + j * 7, none⟩ = some (.int .i64 kind) ∧ W.cell? ⟨gb, ob + j * 7 + 1, none⟩ = some (.int .i64 time) ∧ W.cell? ⟨gb, ob + j * 7 + 2, none⟩ = some (.int .i64 seq) ∧ W.cell? ⟨gb, ob + j * 7 + 3, none⟩ = some (.int .i64 index) ∧ W.cell? ⟨gb, ob + j * 7 + 4, none⟩ = some (.int .i64 frm) ∧ W.cell? ⟨gb, ob + j * 7 + 5, none⟩ = some (.int .i64 til) ∧ W.cell? ⟨gb, ob + j * 7 + 6, none⟩ = some (.string body))
        (exact HT.out _ (by (repeat (first | assumption | exact Same.refl _ _ | apply Same.alloc | apply Same.drew | apply Same.drewN)); done))
        ((first
        | (go_at_call 13; refine Calls.mono (HP1.out _ (by (repeat (first | assumption | exact Same.refl _ _ | apply Same.alloc | apply Same.drew | apply Same.drewN)); done)) ?_; rintro e w5 ⟨rfl, k5⟩)))
      all_goals
        have KF : Hid (Kept w _) := (Same.trans' KK.out KB.out).trans' k5
        clear k5
        go_wp2_with fail
        go_roundw
        case rel => exact ⟨j + 1, hlt, by rw [Int.natCast_add]; rfl, by first | exact KF.out | exact Same.drew KF.out⟩
        case measure => simp only [intOf]; omega
    · obtain rfl : n = j := by omega
      have c1 : decide ((n : Int) < (n : Int)) = false := by simp
      clear kk
      go_wp2_with fail
      go_ret
      exact ⟨rfl, KK.out⟩
end Go.Proofs.Ytolaeiagfnhllaa
