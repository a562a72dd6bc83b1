/- What is proved: the document's passes answers as the plain one does; its machine lies in memory. -/
import Derived.Test.YtmghmacgljihcaaKRv
namespace Go.Proofs.Ytmghmacgljihcaa
open Go.RowKit

set_option maxRecDepth 100000 in
set_option maxHeartbeats 3200000 in
theorem rpasses15 {w : World} {rb n : Nat} {fl : Int} {R : Rr} {a : Option Addr} {cap : Nat} {ev : Value} (h : Rd w rb n fl R a cap ev) (hs : Sml R) {i : Nat} (hi : i < R.all.length) :
    Calls Try.prog 36 #[.pointer (some ⟨rb, 0, none⟩), .int .i64 (i : Int)] w fun e w' => e = .returned (.bool (rPass fl R.clock R.all (gR R.all i).t)) ∧ Kept w w' := by
  obtain ⟨b, off, oa, oc, ta, tc, rfl, hb, hR⟩ := h.run i _ (gR_at hi)
  have hn := hs.n
  have hol := (hs.o _ (List.mem_of_getElem? (gR_at hi))).1
  obtain ⟨r, er⟩ : ∃ r, r = gR R.all i := ⟨_, rfl⟩
  rw [← er] at hR hol ⊢
  obtain ⟨rv, erv⟩ : ∃ rv, rv = rPass fl R.clock R.all r.t := ⟨_, rfl⟩
  rw [← erv]
  have HPF : Hid (∀ (o : OpM), o ∈ r.t.ops → late1 R.all R.clock r.t.f2 o = true → fl ≠ 1 → rv = false) := fun o h1 h2 h3 => by
    rw [erv]
    unfold rPass
    rw [List.any_eq_true.2 ⟨o, h1, h2⟩]
    simp [h3]
  have HPT : Hid ((fl = 1 ∨ ∀ o ∈ r.t.ops, late1 R.all R.clock r.t.f2 o = false) → rv = true) := fun h1 => by
    rw [erv]
    unfold rPass
    rcases h1 with h1 | h1
    · simp [h1]
    · rw [List.any_eq_false.2 (fun o ho => by rw [h1 o ho]; decide)]
      simp
  have K0 : Hid (Kept w (w.alloc (txO r.t (.slice oa r.t.ops.length oc)))) := (Same.refl _ w).alloc _
  have G0 : Hid _ := heap_new w (txO r.t (.slice oa r.t.ops.length oc))
  have HSE : Hid (∀ (W' : World) (k : ByteArray), Kept w W' → _) := fun W' k k' => rseen15 (h.on k') hs k R.clock
  have HRD : Hid (Rd w rb n fl R (some ⟨b, off, none⟩) cap ev) := h
  have HRU : Hid (∀ q, q < R.all.length → ∃ oq cq tq dq, Run w b off q (gR R.all q) oq cq tq dq) := fun q hq => by
    obtain ⟨b3, off3, oq, cq, tq, dq, eb, -, h9⟩ := h.run q _ (gR_at hq)
    cases eb
    exact ⟨oq, cq, tq, dq, h9⟩
  have HOP : Hid (OpsAt w oa r.t.ops) := hR.ops
  have HB : Hid (b < w.heap.size) := hb
  have y3 := h.c3
  have hrl := h.lt
  have q0 := hR.c0
  have q1 := hR.c1
  have q2 := hR.c2
  have q3 := hR.c3
  have q4 := hR.c4
  have q5 := hR.c5
  have q6 := hR.c6
  have q7 := hR.c7
  obtain ⟨L, eL⟩ : ∃ L, L = R.all.length := ⟨_, rfl⟩
  rw [← eL] at hn y3 hi
  obtain ⟨ol, eol⟩ : ∃ ol, ol = r.t.ops.length := ⟨_, rfl⟩
  rw [← eol] at hol q7 K0 G0
  have EL : Hid (L = R.all.length) := eL
  have EO : Hid (ol = r.t.ops.length) := eol
  have d3 : (i : Int) < (L : Int) := by omega
  have d4 : (0 : Int) ≤ (i : Int) := by omega
  clear h hs hR er eol eL erv
  go_enter Try.func36, Try.ntmps36
  go_upto_region 2 with fail
  generalize w.alloc (txO r.t (.slice oa ol oc)) = W at *
  generalize hgg : w.heap.size = g at G0 ⊢
  clear hgg q0 q1 q2 q3 q4 q5 q6 q7 y3 hrl d3 d4
  have HC : Hid (∀ W', Kept W W' → (W'.cell? ⟨rb, 1, none⟩ = some (.int .i64 fl) ∧ W'.cell? ⟨rb, 2, none⟩ = some (.int .i64 R.clock) ∧ W'.cell? ⟨rb, 3, none⟩ = some (.slice (some ⟨b, off, none⟩) L cap) ∧ rb < W'.heap.size) ∧ (W'.cell? ⟨g, 2, none⟩ = some (.int .i64 r.t.f2) ∧ W'.cell? ⟨g, 7, none⟩ = some (.slice oa ol oc)) ∧ g < W'.heap.size) := fun W' k' => by
    have hd := HRD.out.on (Same.trans' K0.out k')
    have hg' := (k'.block g (lt_of_heap G0.out) (fun e => e)).trans G0.out
    obtain ⟨-, -, t2, -, -, -, -, t7⟩ := tx_cells hg'
    exact ⟨⟨hd.c1, hd.c2, by rw [show L = _ from EL.out]; exact hd.c3, hd.lt⟩, ⟨t2, t7⟩, lt_of_heap hg'⟩
  go_wp2_with fail
  go_loopw [6] (fun s6 wr => ∃ j : Nat, s6 = .int .i64 j ∧ j ≤ ol ∧ Kept W wr ∧ (fl ≠ 1 → ∀ o ∈ r.t.ops.take j, late1 R.all R.clock r.t.f2 o = false)) (fun s6 _ => ol - (intOf s6).toNat)
  case atStart => exact ⟨0, rfl, Nat.zero_le _, Same.refl _ _, fun _ o ho => by simp at ho⟩
  case round =>
    obtain ⟨j, rfl, hj, kk, hno⟩ := hrel
    have KK : Hid (Kept W wr) := kk
    have HNO : Hid (fl ≠ 1 → ∀ o ∈ r.t.ops.take j, late1 R.all R.clock r.t.f2 o = false) := hno
    obtain ⟨⟨m1, m2, m3, hrl⟩, ⟨t2, t7⟩, hg⟩ := HC.out wr kk
    clear kk hno
    by_cases hlt : j < ol
    · have c1 : decide ((j : Int) < (ol : Int)) = true := by simp only [decide_eq_true_eq]; omega
      have c2 : (j : Int) < (ol : Int) := by omega
      have c3 : (0 : Int) ≤ (j : Int) := by omega
      by_cases hf : fl = 1
      · subst hf
        have HV : Hid (rv = true) := HPT.out (.inl rfl)
        go_wp2_with fail
        go_ret
        exact ⟨by rw [show rv = true from HV.out]; rfl, Same.trans' K0.out KK.out⟩
      · have f1 : (fl != 1) = true := by simpa using hf
        have f2 : ¬ (fl = 1) := hf
        obtain ⟨o, ho⟩ : ∃ o, r.t.ops[j]? = some o := ⟨_, List.getElem?_eq_getElem (by rw [← show ol = _ from EO.out]; exact hlt)⟩
        have HOM : Hid (o ∈ r.t.ops) := List.mem_of_getElem? ho
        have HMO : Hid (late1 R.all R.clock r.t.f2 o = false → ∀ o' ∈ r.t.ops.take (j + 1), late1 R.all R.clock r.t.f2 o' = false) := fun h9 o' ho' => by
          rw [List.take_add_one, ho] at ho'
          rcases List.mem_append.1 ho' with h8 | h8
          · exact HNO.out hf o' h8
          · simp only [Option.toList_some, List.mem_singleton] at h8
            rw [h8]; exact h9
        obtain ⟨bo, offo, rfl, hbo, p0, p1, -, -⟩ := (OpsAt.on HOP.out (Same.trans' K0.out KK.out)) j o ho
        have hlt1 : late1 R.all R.clock r.t.f2 o = (!(o.kind == 1) && aft R.all (rSee R.all o.key R.clock) r.t.f2) := rfl
        rw [hlt1] at HMO
        have HPF2 : Hid _ := HPF.out o HOM.out
        rw [hlt1] at HPF2
        clear ho hlt1
        cases e1 : (o.kind == 1)
        · have HS1 : Hid _ := HSE.out
          obtain ⟨sv, esv⟩ : ∃ sv, sv = rSee R.all o.key R.clock := ⟨_, rfl⟩
          have HSV : Hid (∀ (W' : World), Kept w W' → Calls Try.prog 25 #[.pointer (some ⟨rb, 0, none⟩), .string o.key, .int .i64 R.clock] W' fun e w' => e = .returned (.int .i64 (ix sv)) ∧ Kept W' w') := fun W' k' => by rw [esv]; exact HSE.out W' o.key k'
          have HIN : Hid (∀ q, sv = some q → q < R.all.length) := fun q hq => (rSee_in (by rw [← esv]; exact hq)).1
          rw [← esv] at HMO HPF2
          rw [e1] at HMO HPF2
          have HBX : Hid (∀ W', Kept wr W' → Kept wr W' ∧ (W'.cell? ⟨rb, 2, none⟩ = some (.int .i64 R.clock) ∧ rb < W'.heap.size) ∧ W'.cell? ⟨g, 7, none⟩ = some (.slice (some ⟨bo, offo, none⟩) ol oc) ∧ W'.cell? ⟨bo, offo + j * 4 + 1, none⟩ = some (.string o.key)) := fun W' k' => by
            obtain ⟨⟨-, n2, -, n4⟩, ⟨-, n7⟩, -⟩ := HC.out W' (Same.trans' KK.out k')
            exact ⟨k', ⟨n2, n4⟩, n7, (k'.cell (p := ⟨bo, _, none⟩) hbo (fun e => e)).trans p1⟩
          clear esv HS1
          go_upto_region 6 with fail
          go_cut [7] (fun s7 wx => s7 = .int .i64 (ix sv) ∧ Kept wr wx)
          case first =>
            go_region_held3 (fun W' => Kept wr W' ∧ (W'.cell? ⟨rb, 2, none⟩ = some (.int .i64 R.clock) ∧ rb < W'.heap.size) ∧ W'.cell? ⟨g, 7, none⟩ = some (.slice (some ⟨bo, offo, none⟩) ol oc) ∧ W'.cell? ⟨bo, offo + j * 4 + 1, none⟩ = some (.string o.key))
              (exact HBX.out _ (by (repeat (first | exact Same.refl _ _ | apply Same.drew | apply Same.drewN | refine Same.trans' ?_ kq)); done))
              ((go_at_call 25; refine Calls.mono (HSV.out _ (Same.trans' (Same.trans' K0.out KK.out) (by (repeat (first | exact Same.refl _ _ | apply Same.drew | apply Same.drewN)); done))) ?_; rintro r2 w2 ⟨rfl, kq⟩))
            all_goals
              go_wp2_with fail
              go_meet
              exact ⟨rfl, (by (repeat (first | exact Same.refl _ _ | apply Same.drew | apply Same.drewN | refine Same.trans' ?_ kq)); done)⟩
          case rest =>
            obtain ⟨rfl, kz⟩ := hcut
            rename World => Z
            have KZ : Hid (Kept W Z) := Same.trans' KK.out kz
            clear kz m1 m2 m3 hrl t2 t7 hg p0 p1 hbo HBX HSV
            obtain ⟨⟨m1, m2, m3, hrl⟩, ⟨t2, t7⟩, hg⟩ := HC.out Z KZ.out
            cases sv with
            | none =>
              have HM2 : Hid _ := HMO.out rfl
              rw [show ix none = (-1 : Int) from rfl]
              go_upto_region 7 with fail
              go_quiet (fail)
              go_wp2_with fail
              go_roundw
              case rel => exact ⟨j + 1, by simp, by omega, Same.drewN KZ.out _, fun _ => HM2.out⟩
              case measure => simp only [intOf]; omega
            | some q =>
              have hq := HIN.out q rfl
              obtain ⟨oq, cq, tq, dq, hRq⟩ := HRU.out q hq
              have kwz := Same.trans' K0.out KZ.out
              have z3 := (hRq.on HB.out kwz).c3
              have hbz : b < Z.heap.size := Nat.lt_of_lt_of_le HB.out kwz.size
              have dq1 : (q : Int) < (L : Int) := by have h8 : L = R.all.length := EL.out; omega
              have dq2 : decide ((0 : Int) ≤ (q : Int)) = true := decide_eq_true (by omega)
              have dq3 : (0 : Int) ≤ (q : Int) := by omega
              rw [show ix (some q) = (q : Int) from rfl]
              rw [show aft R.all (some q) r.t.f2 = decide (r.t.f2 < (gR R.all q).t.f3) from rfl] at HMO HPF2
              clear hq hRq kwz
              generalize (gR R.all q).t.f3 = fq at *
              cases e5 : decide (r.t.f2 < fq)
              · rw [e5] at HMO
                have HM2 : Hid _ := HMO.out rfl
                go_upto_region 7 with fail
                go_quiet (fail)
                go_wp2_with fail
                go_roundw
                case rel => exact ⟨j + 1, by simp, by omega, Same.drewN KZ.out _, fun _ => HM2.out⟩
                case measure => simp only [intOf]; omega
              · rw [e5] at HPF2
                have HV : Hid (rv = false) := HPF2.out rfl hf
                go_upto_region 7 with fail
                go_quiet (fail)
                go_wp2_with fail
                go_ret
                exact ⟨by rw [show rv = false from HV.out]; rfl, Same.trans' K0.out (Same.drewN KZ.out _)⟩
        · rw [e1] at HMO
          have HM2 : Hid _ := HMO.out rfl
          go_wp2_with fail
          go_roundw
          case rel => exact ⟨j + 1, by simp, by omega, KK.out, fun _ => HM2.out⟩
          case measure => simp only [intOf]; omega
    · have c1 : decide ((j : Int) < (ol : Int)) = false := by simp only [decide_eq_false_iff_not]; omega
      have HV : Hid (rv = true) := HPT.out (by
        by_cases hf : fl = 1
        · exact .inl hf
        · refine .inr fun o ho => HNO.out hf o ?_
          rw [List.take_of_length_le (by rw [← show ol = _ from EO.out]; omega)]
          exact ho)
      go_wp2_with fail
      go_ret
      exact ⟨by rw [show rv = true from HV.out]; rfl, Same.trans' K0.out KK.out⟩
end Go.Proofs.Ytmghmacgljihcaa
