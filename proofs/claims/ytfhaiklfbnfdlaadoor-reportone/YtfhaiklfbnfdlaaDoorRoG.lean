/- What is proved: report's Valid and Render of an outcome that lies in memory; conditions: the list's length, and that the tables lie as their texts lay them. -/
import Derived.Test.YtfhaiklfbnfdlaaDoorRoDa
import Derived.Test.YtfhaiklfbnfdlaaDoorRoDb
import Derived.Test.YtfhaiklfbnfdlaaDoorRoE
namespace Go.Proofs.YtfhaiklfbnfdlaaDoor
open Go.RowKit

theorem valid22 (w : World) (o : OuM) (a : Option Addr) (cap : Nat) (h : Vi.At Vi.vl1 12 w a o.ls) (hlen : o.ls.length ≤ 1172812402961) :
    Calls Tryd.prog 13 #[ouV o (.slice a o.ls.length cap)] w fun e w' => e = .returned (.bool (okO o)) ∧ Vi.Grw w w' := by
  obtain ⟨kd, cd, off, tn, tt, ls⟩ := o
  dsimp only at h hlen
  unfold ouV okO
  dsimp only
  cases t0 : Vi.wi kd 1 9 with
  | false => exact valid22_0 w kd cd off tn tt ls a cap h hlen t0
  | true =>
    cases t1 : fit (hc kd) cd 1 999 with
    | false => exact valid22_1 w kd cd off tn tt ls a cap h hlen t0 t1
    | true =>
      cases t2 : fit (ho kd) off 0 4194304 with
      | false => exact valid22_2 w kd cd off tn tt ls a cap h hlen t0 t1 t2
      | true =>
        cases t3 : fit (ht kd) tn 0 4096 with
        | false => exact valid22_3 w kd cd off tn tt ls a cap h hlen t0 t1 t2 t3
        | true =>
          cases t4 : fit (hl kd) tt 1 1099511627776 with
          | false => exact valid22_4 w kd cd off tn tt ls a cap h hlen t0 t1 t2 t3 t4
          | true =>
            cases t5 : decide ((ls.length : Int) ≤ min tt 10000) with
            | false => exact valid22_5 w kd cd off tn tt ls a cap h hlen t0 t1 t2 t3 t4 t5
            | true =>
              have := valid22_6 w kd cd off tn tt ls a cap h hlen t0 t1 t2 t3 t4 t5
              simpa using this
theorem Tab.up {B : Nat} {w W : World} (h : Tab B w) (hB : B ≤ w.heap.size) (k : Kept w W) : Tab W.heap.size W := fun w' hb => h w' ⟨hb.os.trans k.os, hb.tape.trans k.tape, hb.output.trans k.output, Nat.le_trans k.size hb.size, fun j hj => (hb.block j (Nat.lt_of_lt_of_le (Nat.lt_of_lt_of_le hj hB) k.size)).trans (k.block j (by omega) (fun e => e))⟩
/-- What Render answers. -/
def rendT (o : OuM) : List UInt8 × Int := if okO o = true then (outL o, 0) else ([], 220)
theorem Wds.oth {base : Nat} {w w' : World} (h : Wds w) (hb : w.heap.size ≤ base) (k : Oth base w w') : Wds w' :=
  ⟨fun i s hs => (k.1.cell (p := ⟨0, i, none⟩) (World.block_lt_of_cell? w _ (h.1 i s hs)) (fun e => by have := World.block_lt_of_cell? w _ (h.1 i s hs); exact absurd (Nat.lt_of_lt_of_le this hb) (Nat.not_lt.2 e))).trans (h.1 i s hs), fun i s hs => (k.1.cell (p := ⟨1, i, none⟩) (World.block_lt_of_cell? w _ (h.2 i s hs)) (fun e => by have := World.block_lt_of_cell? w _ (h.2 i s hs); exact absurd (Nat.lt_of_lt_of_le this hb) (Nat.not_lt.2 e))).trans (h.2 i s hs)⟩
theorem at_oth {base : Nat} {w w' : World} {a : Option Addr} {l : List Vi.Vl} (h : Vi.At Vi.vl1 12 w a l) (hb : w.heap.size ≤ base) (k : Oth base w w') : Vi.At Vi.vl1 12 w' a l := h.kept k.1 fun _ _ _ hlt e => absurd (Nat.lt_of_lt_of_le hlt hb) (Nat.not_lt.2 e)
set_option maxRecDepth 100000 in
set_option maxHeartbeats 1600000 in
theorem render22 (w : World) (o : OuM) (a : Option Addr) (cap : Nat) (h : Vi.At Vi.vl1 12 w a o.ls) (hlen : o.ls.length ≤ 1172812402961) (htb : Tab w.heap.size w) (hw : Wds w) :
    Calls Tryd.prog 12 #[ouV o (.slice a o.ls.length cap)] w fun e w' => e = .returned (.tuple #[tx (rendT o).1, .int .i64 (rendT o).2]) ∧ Kept w w' := by
  have HV : Hid (∀ W, Kept w W → _) := fun W (k : Kept w W) => valid22 W o a cap (h.on k) hlen
  have HA : Hid (∀ W, Kept w W → okO o = true → Calls Tryd.prog 23 #[.slice none 0 0, ouV o (.slice a o.ls.length cap)] W fun e w' => ∃ v', e = .returned v' ∧ ApO W.heap.size W ([] ++ nu (outL o)) v' w') := fun W k hx => appOut22 o a cap hx (fun W' k' => at_oth (h.on k) (Nat.le_refl _) k') (OwnB.nil _ _) (by decide) (Nat.le_refl _) (htb.up (Nat.le_refl _) k) (hw.on k) (fun W' k' => (hw.on k).oth (Nat.le_refl _) k')
  have ER : Hid (rendT o = if okO o = true then (outL o, 0) else ([], 220)) := rfl
  clear h hlen htb hw
  generalize rendT o = RT at *
  generalize outL o = OL at *
  obtain ⟨ok, eok⟩ : ∃ ok, ok = okO o := ⟨_, rfl⟩
  rw [← eok] at HV HA ER
  clear eok
  obtain ⟨kd, cd, off, tn, tt, ls⟩ := o
  unfold ouV at HV HA ⊢
  dsimp only at HV HA ⊢
  generalize ls.length = n at *
  have B0 : Hid _ := heap_new w (ouO (.int .i64 kd) (.int .i64 cd) (.int .i64 off) (.int .i64 tn) (.int .i64 tt) (.slice a n cap))
  obtain ⟨c0, c1, c2, c3, c4, c5⟩ := ou_obj B0.out
  have l0 := lt_of_heap B0.out
  go_enter Tryd.func12, Tryd.ntmps12
  go_wp2_with fail
  refine Calls.mono (HV.out _ ((Same.refl _ w).alloc _)) ?_
  rintro e w1 ⟨rfl, k1⟩
  have K1 : Hid (Kept w w1) := ((Same.refl _ w).alloc _).trans' (Vi.Grw.kept k1)
  have B1 : Hid _ := ((Vi.Grw.kept k1).block _ (lt_of_heap B0.out) (fun e => e)).trans B0.out
  clear k1 B0 c0 c1 c2 c3 c4 c5 l0 HV
  cases ok with
  | false =>
    have ER2 : Hid (RT = ([], 220)) := ER.out
    clear ER
    go_wp2_with fail
    go_ret2
    rw [ER2.out]
    exact ⟨rfl, K1.out⟩
  | true =>
    have ER2 : Hid (RT = (OL, 0)) := ER.out
    clear ER
    obtain ⟨c0, c1, c2, c3, c4, c5⟩ := ou_obj B1.out
    have l0 := lt_of_heap B1.out
    go_wp2_with fail
    refine Calls.mono (HA.out _ K1.out (by first | trivial | rfl)) ?_
    rintro e w2 ⟨v2, rfl, o2, k2⟩
    rw [List.nil_append] at o2
    have hst := own_str o2
    have K2 : Hid (Kept w w2) := Same.trans K1.out k2.1 (fun i hi e => by have := K1.out.size; omega)
    clear o2 k2
    go_wp2_with fail
    go_ret2
    rw [ER2.out]
    exact ⟨rfl, K2.out⟩
end Go.Proofs.YtfhaiklfbnfdlaaDoor
