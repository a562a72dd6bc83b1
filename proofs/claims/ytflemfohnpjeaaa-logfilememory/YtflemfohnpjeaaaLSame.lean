/- What is proved: the document's SameList answers true of two lists of transactions in memory that are alike; no condition. -/
import Derived.Test.YtflemfohnpjeaaaLTxs
import Derived.Deep.CutRange
import Derived.Deep.RegionWith
namespace Go.Proofs.Ytflemfohnpjeaaa
open Go.RowKit

set_option maxRecDepth 100000 in
set_option maxHeartbeats 1600000 in
theorem sameL (w : World) (oa ob : Option Addr) (ca cb : Nat) (l m : List TxR) (ha : TxsAt w oa l) (hb : TxsAt w ob m) (da : Deep w l) (db : Deep w m) (he : l.map TxR.t = m.map TxR.t) (hl : l.length ≤ 140737488355328) (hops : ∀ t ∈ l.map TxR.t, t.ops.length ≤ 9223372036854775807) :
    Calls Try.prog 8 #[.slice oa l.length ca, .slice ob m.length cb] w fun e w' => e = .returned (.bool true) ∧ Kept w w' := by
  have hlen : l.length = m.length := by have := congrArg List.length he; simpa using this
  rw [← hlen]
  obtain ⟨n, en⟩ : ∃ n, n = l.length := ⟨_, rfl⟩
  have EN : Hid _ := en
  have HA : Hid _ := ha
  have HB : Hid _ := hb
  have HDA : Hid _ := da
  have HDB : Hid _ := db
  have HE : Hid _ := he
  have HOP : Hid _ := hops
  have hni : (n : Int) ≤ 140737488355328 := by omega
  rw [← en]
  have HLEN : Hid _ := hlen
  clear ha hb da db he hops hlen en
  go_enter Try.func8, Try.ntmps8
  go_wp2_with fail
  go_loopw [5] (fun i W => ∃ k : Nat, i = .int .i64 k ∧ k ≤ n ∧ Kept w W) (fun i _ => n - (intOf i).toNat)
  case atStart => exact ⟨0, rfl, Nat.zero_le _, Same.refl _ _⟩
  case round =>
    obtain ⟨k, rfl, hk, hkw⟩ := hrel
    have KW : Hid _ := hkw
    clear hkw
    by_cases hkn : k < n
    · have d1 : decide ((k : Int) < (n : Int)) = true := decide_eq_true (by omega)
      have hkn2 : (k : Int) < (n : Int) := by omega
      obtain ⟨r, hr⟩ : ∃ r, l[k]? = some r := ⟨_, List.getElem?_eq_getElem (by rw [← EN.out]; exact hkn)⟩
      obtain ⟨q, hq⟩ : ∃ q, m[k]? = some q := ⟨_, List.getElem?_eq_getElem (by rw [← HLEN.out, ← EN.out]; exact hkn)⟩
      have hrq : r.t = q.t := by
        have h1 := congrArg (fun x => x[k]?) HE.out
        simpa [List.getElem?_map, hr, hq] using h1
      obtain ⟨b1, off1, rfl, hb1, -⟩ := HA.out _ _ hr
      obtain ⟨b2, off2, rfl, hb2, -⟩ := HB.out _ _ hq
      obtain ⟨x0, x1, x2, x3, x4, x5, x6, x7⟩ := TxsAt.get (TxsAt.on HA.out KW.out) hr
      obtain ⟨y0, y1, y2, y3, y4, y5, y6, y7⟩ := TxsAt.get (TxsAt.on HB.out KW.out) hq
      have hb1' : b1 < wr.heap.size := Nat.lt_of_lt_of_le hb1 KW.out.size
      have hb2' : b2 < wr.heap.size := Nat.lt_of_lt_of_le hb2 KW.out.size
      have HS : Hid (∀ W, Kept wr W → _) := fun W (kk : Kept wr W) => sameT W r.t r.v q.v (TxA.on (TxA.on (Deep.get HDA.out hr) KW.out) kk) (by rw [hrq]; exact TxA.on (TxA.on (Deep.get HDB.out hq) KW.out) kk) (HOP.out _ (List.mem_map.2 ⟨r, List.mem_of_getElem? hr, rfl⟩))
      clear hr hq hrq hb1 hb2 hk
      go_wp2_with fail
      go_cut [6] from 12 to 28 (fun s6 wx => s6 = .bool true ∧ Kept wr wx)
      case first =>
        go_region_with (go_at_call 14; refine Calls.mono (HS.out _ (by (repeat (first | exact Same.refl _ _ | apply Same.drew | apply Same.drewN)); done)) ?_; rintro e w2 ⟨rfl, k2⟩)
        all_goals
          go_wp2_with fail
          go_meet
          exact ⟨rfl, by (repeat (first | exact Same.refl _ _ | apply Same.drew | refine Same.trans' ?_ k2)); done⟩
      case rest =>
        obtain ⟨rfl, hkc⟩ := hcut
        have KC : Hid (Kept w wc) := KW.out.trans' hkc
        clear hkc
        go_wp2_with fail
        go_roundw
        case rel => exact ⟨k + 1, by congr 1, hkn, KC.out⟩
        case measure => simp only [intOf]; omega
    · obtain rfl : k = n := by omega
      have d1 : decide ((k : Int) < (k : Int)) = false := decide_eq_false (by omega)
      clear hk hkn
      go_wp2_with fail
      go_ret
      exact ⟨rfl, KW.out⟩
end Go.Proofs.Ytflemfohnpjeaaa
