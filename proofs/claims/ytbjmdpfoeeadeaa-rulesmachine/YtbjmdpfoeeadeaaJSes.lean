/- What is proved: the document's session rows of a log, what it tells of them, and the law's walk over them: the same; the log fits a machine's memory. -/
import Derived.Test.YtbjmdpfoeeadeaaJRpP
import Derived.Test.YtbjmdpfoeeadeaaJTk
import Derived.Test.YtbjmdpfoeeadeaaJRrw
import Derived.Test.YtbjmdpfoeeadeaaLOpenT
namespace Go.Proofs.Ytbjmdpfoeeadeaa.Sw
open Go.RowKit

theorem sesL_take {T : List TxM} {j : Nat} {t : TxM} (h : T[j]? = some t) : (sesL T).take (j + 1) = (sesL T).take j ++ [sesR j t] := by
  obtain ⟨hj, e⟩ := List.getElem?_eq_some_iff.1 (sesL_get h)
  rw [List.take_succ_eq_append_getElem hj, e]
theorem ses_f (i f0 f1 f2 f3 f4 f5 f6 : Int) (a : Option Addr) (n c : Nat) (w : World) : Calls Try.prog 34 #[.int .i64 i, .agg #[.int .i64 f0, .int .i64 f1, .int .i64 f2, .int .i64 f3, .int .i64 f4, .int .i64 f5, .int .i64 f6, .slice a n c]] w fun e w' => e = .returned (.agg #[.int .i64 3, .int .i64 f0, .int .i64 f1, .int .i64 i, .int .i64 f2, .int .i64 f3, .string ⟨#[]⟩]) ∧ Kept w w' := ses17 i ⟨f0, f1, f2, f3, f4, f5, f6, []⟩ a n c w
set_option maxRecDepth 100000 in
set_option maxHeartbeats 3200000 in
theorem sessions17 (w : World) (a : Option Addr) (c : Nat) (l : List TxR) (h : TxsAt w a l) (hn : l.length ≤ 4096) :
    Calls Try.prog 41 #[.slice a l.length c] w fun e w' => ∃ a' c', e = .returned (.slice a' l.length c') ∧ Rw.OwnQ w.heap.size w' (.slice a' l.length c') (SS (l.map TxR.t)) ∧ Kept w w' := by
  have HT : Hid (TxsAt w a l) := h
  obtain ⟨n, en⟩ : ∃ n, n = l.length := ⟨_, rfl⟩
  have EN : Hid (n = l.length) := en
  rw [← en] at hn ⊢
  obtain ⟨T, eT⟩ : ∃ T, T = l.map TxR.t := ⟨_, rfl⟩
  have ET : Hid (T = l.map TxR.t) := eT
  rw [← eT]
  have HTL : Hid (T.length = n) := by show T.length = n; rw [eT, en, List.length_map]
  clear h en eT
  go_enter Try.func41, Try.ntmps41
  go_wp2_with fail
  go_loopw [3, 4] (fun s3 s4 wr => ∃ (j : Nat) (ao : Option Addr) (mo co : Nat), s4 = .int .i64 j ∧ j ≤ n ∧ s3 = .slice ao mo co ∧ Rw.OwnQ w.heap.size wr (.slice ao mo co) ((sesL T).take j) ∧ Kept w wr) (fun _ s4 _ => n - (intOf s4).toNat)
  case atStart => exact ⟨0, none, 0, 0, rfl, Nat.zero_le _, rfl, Rw.OwnQ.nil _ _, Same.refl _ _⟩
  case round =>
    obtain ⟨j, ao, mo, co, rfl, hj, rfl, oj, kj⟩ := hrel
    rename World => WL
    have OJ : Hid (Rw.OwnQ w.heap.size WL (.slice ao mo co) ((sesL T).take j)) := oj
    have KJ : Hid (Kept w WL) := kj
    clear oj kj
    by_cases hlt : j < n
    case pos =>
      have d1 : decide ((j : Int) < (n : Int)) = true := decide_eq_true (by omega)
      have hlt2 : (j : Int) < (n : Int) := by omega
      have hws : IntKind.i64.wrap ((j : Int) + 1) = (j : Int) + 1 := by rw [IntKind.wrap_i64] <;> omega
      obtain ⟨r, hr⟩ : ∃ r, l[j]? = some r := ⟨_, List.getElem?_eq_getElem (by rw [← show n = _ from EN.out]; exact hlt)⟩
      obtain ⟨b, off, ea, hbl, -⟩ := (HT.out.on KJ.out) j r hr
      subst ea
      obtain ⟨q0, q1, q2, q3, q4, q5, q6, q7⟩ := (HT.out.on KJ.out).get hr
      have HTJ : Hid (T[j]? = some r.t) := by show T[j]? = _; rw [ET.out, List.getElem?_map, hr]; rfl
      have HSE : Hid (∀ W, _) := fun W => ses_f j r.t.f0 r.t.f1 r.t.f2 r.t.f3 r.t.f4 r.t.f5 r.t.f6 r.a r.t.ops.length r.c W
      clear hr
      go_wp2_with fail
      refine Calls.mono (HSE.out _) ?_
      rintro e W2 ⟨rfl, k2⟩
      have K2 : Hid (Kept w W2) := KJ.out.trans' k2
      have O2 : Hid (Rw.OwnQ w.heap.size W2 (.slice ao mo co) ((sesL T).take j)) := row_kept OJ.out k2 (fun _ _ e => e)
      clear k2 q0 q1 q2 q3 q4 q5 q6 q7 hbl
      have HAP : Hid (∀ ty, ∃ v' w', (Builtin.append_ #[38, 38] ty #[.slice ao mo co, .slice (some ⟨W2.heap.size, 0, none⟩) 1 1]).run Try.prog (W2.alloc (rwO (sesR j r.t) 43)) = .ok v' w' ∧ Rw.OwnQ w.heap.size w' v' ((sesL T).take (j + 1)) ∧ Kept w w') := fun ty => by
        have hk2 : Kept W2 (W2.alloc (rwO (sesR j r.t) 43)) := (Same.refl _ _).alloc _
        obtain ⟨v', w', r1, r2, r3, -⟩ := Rw.app_q (sesR j r.t) (row_kept O2.out hk2 (fun _ _ h => h)) (heap_new W2 _) (by rw [List.length_take]; omega) (by rw [World.size_alloc]; have := K2.out.size; omega) ty
        refine ⟨v', w', r1, by rw [sesL_take HTJ.out]; exact r2, (K2.out.trans' hk2).trans r3 (fun k hk e => ?_)⟩
        have := (row_block O2.out e).1
        omega
      go_wp2_with (at_builtin; apply Hid.out)
      refine Ch.wpList_app rfl (.tmp 11) (.tmp 18) 38 rfl (.slice ao mo co) (.slice (some ⟨W2.heap.size, 0, none⟩) 1 1) rfl rfl _ HAP.out ?_
      rintro v3 W3 ⟨o3, k3⟩
      obtain ⟨a3, m3, c3, ev⟩ : ∃ a m c, v3 = .slice a m c := by
        obtain ⟨a, c, ev, -⟩ := row_shape o3
        exact ⟨_, _, _, ev⟩
      subst ev
      have O3 : Hid _ := And.intro o3 k3
      clear o3 k3 HAP
      go_wp2_with fail
      go_roundw
      case rel => exact ⟨j + 1, a3, m3, c3, by simp, hlt, rfl, O3.out.1, O3.out.2⟩
      case measure => simp only [intOf]; omega
    obtain rfl : n = j := by omega
    have d1 : decide ((n : Int) < (n : Int)) = false := decide_eq_false (by omega)
    have hO := OJ.out
    rw [List.take_of_length_le (by rw [sesL_len, HTL.out]; exact Nat.le_refl _)] at hO
    obtain ⟨em, hrows⟩ := own_rows hO
    have hmn : mo = n := by rw [em, sesL_len, HTL.out]
    subst hmn
    have HSR : Hid _ := Rw.sorted10 2 ((sesL T).length + 1) (w := WL) (a := ao) (cap := co) (l := sesL T) (Nat.lt_succ_self _) hrows (by
      obtain ⟨a', c', e', h1, -⟩ := row_shape hO
      cases e'
      exact h1) (fun e => by
      obtain ⟨a', c', e', -, h2, -⟩ := row_shape hO
      cases e'
      exact h2 e) (by rw [sesL_len, HTL.out]; omega)
    rw [← em] at HSR
    clear hO em hrows OJ
    go_wp2_with fail
    refine Calls.mono HSR.out ?_
    rintro e W5 ⟨v5, rfl, o5, k5⟩
    have K5 : Hid (Kept w W5) := KJ.out.trans' k5
    obtain ⟨a5, m5, c5, ev, em⟩ : ∃ a m c, v5 = .slice a m c ∧ m = mo := by
      obtain ⟨a, c, ev, -⟩ := row_shape o5
      exact ⟨_, _, _, ev, by rw [Rw.srt_len, sesL_len, HTL.out]⟩
    subst ev
    subst em
    have O5 : Hid (Rw.OwnQ w.heap.size W5 (.slice a5 m5 c5) (SS T)) := row_base o5 KJ.out.size
    clear o5 k5 HSR
    go_wp2_with fail
    go_ret
    exact ⟨_, _, rfl, O5.out, K5.out⟩
end Go.Proofs.Ytbjmdpfoeeadeaa.Sw
