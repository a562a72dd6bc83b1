/- What is proved: the anchor of the laws of chains answers true; a store is filled by the installs of a script; all that was there stays as it was; the script lies in memory. -/
import Derived.Test.YtnjpbagfbklofaaCIns
namespace Go.Proofs.Ytnjpbagfbklofaa
open Go.RowKit

abbrev ka : ByteArray := ⟨#[97]⟩
abbrev xa : Vn := ⟨5, 1, true, ⟨#[120]⟩⟩
theorem code_a : code [] ka xa = 0 := by decide
theorem inst_a : inst [] ka xa = [⟨ka, xa⟩] := by unfold Ytnjpbagfbklofaa.inst; rw [if_pos code_a]; rfl
theorem at_a : atM (ch [⟨ka, xa⟩] ka) 5 = some xa := by rw [ch_one_same rfl]; simp [atM, cnt]
set_option maxRecDepth 100000 in
set_option maxHeartbeats 1600000 in
theorem anchor13_any (w : World) : Calls Try.prog 9 #[] w fun e w' => e = .returned (.bool true) ∧ Kept w w' := by
  have HN : Hid _ := new13 w
  go_enter Try.func9, Try.ntmps9
  go_wp2_with fail
  refine Calls.mono HN.out ?_
  rintro e w1 ⟨rfl, st1, k1⟩
  have HI : Hid _ := install13 st1 ka (by decide) xa (by decide)
  rw [code_a, inst_a] at HI
  have K1 : Hid _ := k1
  have hlt : ∀ b, (w.heap.size ≤ b ∧ b < w.heap.size + 3) → w.heap.size ≤ b := fun b hb => hb.1
  clear st1 k1
  generalize w.heap.size + 2 = sb at *
  go_wp2_with fail
  refine Calls.mono HI.out ?_
  rintro e w2 ⟨rfl, F2, st2, hf2, s2⟩
  have HA : Hid _ := at13 st2 ka (by decide) 5 (by decide)
  rw [at_a, show verV (ans (some xa)) = .agg #[.int .i64 5, .int .i64 1, .bool true, .string ⟨#[120]⟩] from rfl] at HA
  have ST2 : Hid _ := st2
  have K2 : Hid (Kept w w2) := Same.trans K1.out s2 (fun i hi h => by have := h.1; omega)
  clear st2 s2 hf2 HI HN
  go_wp2_with fail
  refine Calls.mono HA.out ?_
  rintro e w3 ⟨rfl, k3⟩
  have st3 := (St.on ST2.out k3).on ((Same.refl _ w3).alloc (.cells #[.int .i64 5, .int .i64 1, .bool true, .string ⟨#[120]⟩] 31 (0, 0)))
  have HC : Hid _ := count13 st3
  have K3 : Hid _ := k3
  clear st3 k3 HA
  go_wp2_with fail
  refine Calls.mono HC.out ?_
  rintro e w4 ⟨rfl, rfl⟩
  go_wp2_with fail
  go_ret
  exact ⟨rfl, (Same.trans' K2.out K3.out).alloc _⟩

/-- A step of a script. -/
structure OpC where
  kind : Int
  time : Int
  key : ByteArray
  x : Vn
instance : Inhabited OpC := ⟨⟨0, 0, ⟨#[]⟩, v0⟩⟩
/-- The steps l lie in w from address a on. -/
def OpsAt (w : World) (a : Option Addr) (l : List OpC) : Prop :=
  ∀ i o, l[i]? = some o → ∃ b off, a = some ⟨b, off, none⟩ ∧ b < w.heap.size ∧ w.cell? ⟨b, off + i * 7, none⟩ = some (.int .i64 o.kind) ∧ w.cell? ⟨b, off + i * 7 + 1, none⟩ = some (.int .i64 o.time) ∧ w.cell? ⟨b, off + i * 7 + 2, none⟩ = some (.string o.key) ∧ w.cell? ⟨b, off + i * 7 + 3, none⟩ = some (.int .i64 o.x.c) ∧ w.cell? ⟨b, off + i * 7 + 4, none⟩ = some (.int .i64 o.x.w) ∧ w.cell? ⟨b, off + i * 7 + 5, none⟩ = some (.bool o.x.f) ∧ w.cell? ⟨b, off + i * 7 + 6, none⟩ = some (.string o.x.v)
theorem OpsAt.on {w w' : World} {a : Option Addr} {l : List OpC} (h : OpsAt w a l) (k : Kept w w') : OpsAt w' a l := fun i o ho => by
  obtain ⟨b, off, rfl, hb, c0, c1, c2, c3, c4, c5, c6⟩ := h i o ho
  have t : ∀ o, w'.cell? ⟨b, o, none⟩ = w.cell? ⟨b, o, none⟩ := fun o => k.cell (p := ⟨b, o, none⟩) hb (fun e => e)
  exact ⟨b, off, rfl, Nat.lt_of_lt_of_le hb k.size, (t _).trans c0, (t _).trans c1, (t _).trans c2, (t _).trans c3, (t _).trans c4, (t _).trans c5, (t _).trans c6⟩
/-- Its keys are strings that a machine can hold. -/
def Small (l : List OpC) : Prop := ∀ o ∈ l, o.key.size ≤ maxLen
def fil1 (A : List En) (o : OpC) : List En := if o.kind = 1 then inst A o.key o.x else A
/-- What the installs of a script leave. -/
def fil (A : List En) (l : List OpC) : List En := l.foldl fil1 A
theorem fil_take {l : List OpC} {j : Nat} {o : OpC} (h : l[j]? = some o) (A : List En) : fil A (l.take (j + 1)) = fil1 (fil A (l.take j)) o := by
  rw [List.take_add_one, h]
  simp [fil, List.foldl_append]
theorem fil1_length (A : List En) (o : OpC) : (fil1 A o).length ≤ A.length + 1 := by
  unfold fil1; split
  · exact inst_length _ _ _
  · omega
theorem fil_length (l : List OpC) (A : List En) : (fil A l).length ≤ A.length + l.length := by
  induction l generalizing A with
  | nil => simp [fil]
  | cons o r ih =>
    have h1 := ih (fil1 A o)
    have h2 := fil1_length A o
    simp only [fil, List.foldl_cons, List.length_cons] at *
    omega
set_option maxRecDepth 100000 in
set_option maxHeartbeats 1600000 in
theorem fill13 {w : World} {a : Option Addr} {l : List OpC} {cap : Nat} (hl : OpsAt w a l) (hs : Small l) (hn : l.length ≤ 2199023255552) :
    Calls Try.prog 13 #[.slice a l.length cap] w fun e w' => ∃ sb F, e = .returned (.pointer (some ⟨sb, 0, none⟩)) ∧ St F w' sb (fil [] l) ∧ (∀ b, F b → w.heap.size ≤ b) ∧ Kept w w' := by
  have HN : Hid _ := new13 w
  have HL : Hid _ := hl
  have HS : Hid _ := hs
  obtain ⟨n, en⟩ : ∃ n, n = l.length := ⟨_, rfl⟩
  rw [← en] at hn ⊢
  have EN : Hid _ := en
  clear hl hs en
  go_enter Try.func13, Try.ntmps13
  go_wp2_with fail
  refine Calls.mono HN.out ?_
  rintro e w1 ⟨rfl, st1, k1⟩
  have ST1 : Hid _ := st1
  have K1 : Hid _ := k1
  clear st1 k1 HN
  generalize w.heap.size + 2 = sb at *
  go_wp2_with fail
  go_loopw [11] (fun i wr => ∃ (j : Nat) (F : Nat → Prop), j ≤ n ∧ i = .int .i64 j ∧ St F wr sb (fil [] (l.take j)) ∧ (∀ b, F b → w.heap.size ≤ b) ∧ Kept w wr) (fun i _ => n - (intOf i).toNat)
  case atStart => exact ⟨0, _, Nat.zero_le _, rfl, ST1.out, fun b hb => hb.1, K1.out⟩
  case round =>
    obtain ⟨j, F, hj, rfl, st, hf, kk⟩ := hrel
    have ST : Hid _ := st
    have HF : Hid _ := hf
    have KK : Hid _ := kk
    clear st hf kk
    by_cases hlt : j < n
    · have c1 : decide ((j : Int) < (n : Int)) = true := by simp only [decide_eq_true_eq]; omega
      have hlt2 : (j : Int) < (n : Int) := by omega
      obtain ⟨o, ho⟩ : ∃ o, l[j]? = some o := ⟨_, List.getElem?_eq_getElem (by rw [← EN.out]; exact hlt)⟩
      obtain ⟨b, off, rfl, hb, q0, q1, q2, q3, q4, q5, q6⟩ := (OpsAt.on HL.out KK.out) j o ho
      have HT : Hid _ := fil_take ho []
      have hfl := fil_length (l.take j) []
      have hsm := (show Small l from HS.out) o (List.mem_of_getElem? ho)
      have k2 : Kept wr (wr.alloc (.cells #[.int .i64 o.kind, .int .i64 o.time, .string o.key, .int .i64 o.x.c, .int .i64 o.x.w, .bool o.x.f, .string o.x.v] 33 (0, 0))) := (Same.refl _ wr).alloc _
      have HI : Hid _ := install13 (St.on ST.out k2) o.key hsm o.x (by simp only [List.length_take, List.length_nil] at hfl; omega)
      have ST2 : Hid _ := St.on ST.out k2
      have K2 : Hid _ := k2
      clear ho hfl hsm k2
      by_cases hk : o.kind = 1
      · have d1 : (o.kind == 1) = true := by simpa using hk
        have HK : Hid _ := hk
        clear hk
        go_wp2_with fail
        refine Calls.mono HI.out ?_
        rintro e w2 ⟨rfl, F2, st2, hf2, s2⟩
        have HQ : Hid (fil [] (l.take (j + 1)) = inst (fil [] (l.take j)) o.key o.x) := (show fil [] (l.take (j + 1)) = _ from HT.out).trans (if_pos HK.out)
        have ST3 : Hid _ := st2
        have HF3 : Hid (∀ b, F2 b → w.heap.size ≤ b) := fun b hb => by
          rcases hf2 b hb with h | h
          · exact HF.out b h
          · have := Same.size (Same.trans' KK.out K2.out)
            omega
        have K3 : Hid (Kept w w2) := Same.trans (Same.trans' KK.out K2.out) s2 (fun i hi h => by have := HF.out i h; omega)
        clear st2 hf2 s2
        go_wp2_with fail
        go_roundw
        case rel => exact ⟨j + 1, F2, by omega, by simp, by rw [show fil [] (l.take (j + 1)) = _ from HQ.out]; exact ST3.out, HF3.out, K3.out⟩
        case measure => simp only [intOf]; omega
      · have d1 : (o.kind == 1) = false := by simpa using hk
        have HQ : Hid (fil [] (l.take (j + 1)) = fil [] (l.take j)) := (show fil [] (l.take (j + 1)) = _ from HT.out).trans (if_neg hk)
        clear hk
        go_wp2_with fail
        go_roundw
        case rel => exact ⟨j + 1, F, by omega, by simp, by rw [show fil [] (l.take (j + 1)) = _ from HQ.out]; exact ST2.out, HF.out, Same.trans' KK.out K2.out⟩
        case measure => simp only [intOf]; omega
    · have c1 : decide ((j : Int) < (n : Int)) = false := by simp only [decide_eq_false_iff_not]; omega
      obtain rfl : j = n := by omega
      go_wp2_with fail
      go_ret
      refine ⟨sb, F, rfl, ?_, HF.out, KK.out⟩
      have := ST.out
      rw [show l.take j = l by rw [show j = l.length from EN.out]; exact List.take_length] at this
      exact this
end Go.Proofs.Ytnjpbagfbklofaa
