/- What is proved: DeviceInput returns true where New makes a device; the arguments lie in memory. -/
import Derived.Test.YtipfoognpenafaaDSet
import Derived.Deep.DeepCutAuto
namespace Go.Proofs.Ytipfoognpenafaa
open Go.RowKit

/-- A step of a script. -/
structure St where
  k : Int
  at' : Int
  da : Option Addr
  dc : Nat
  d : List Int
/-- The steps ls lie in w from address a on. -/
def StepsAt (w : World) (a : Option Addr) (ls : List St) : Prop :=
  ∀ i o, ls[i]? = some o → ∃ b off, a = some ⟨b, off, none⟩ ∧ b < w.heap.size ∧ w.cell? ⟨b, off + i * 3, none⟩ = some (.int .i64 o.k) ∧ w.cell? ⟨b, off + i * 3 + 1, none⟩ = some (.int .i64 o.at') ∧ w.cell? ⟨b, off + i * 3 + 2, none⟩ = some (.slice o.da o.d.length o.dc) ∧
    BytesAt w o.da o.d ∧ (o.da = none → o.d.length = 0 ∧ o.dc = 0) ∧ o.d.length ≤ 140737488355328
/-- The plain device of DeviceInput: no faults, never down. -/
structure II (B S : Nat) (l : List Int) (m : M) (kk : Nat) : Prop where
  B : m.B = B
  S : m.S = S
  inp : m.inp = l
  F : m.F = []
  down : m.down = false
  k : m.k ≤ kk
theorem II.more {B S : Nat} {l : List Int} {m : M} {kk k2 : Nat} (h : II B S l m kk) (hk : kk ≤ k2) : II B S l m k2 := ⟨h.B, h.S, h.inp, h.F, h.down, Nat.le_trans h.k hk⟩
theorem ii_read {B S : Nat} {l : List Int} {m : M} {kk : Nat} (h : II B S l m kk) (b : Int) : II B S l (m.readIn b).2.2 (kk + 3) := by
  have hh : Hits m.F 1 b (m.R 1 b + 1) = false := by rw [h.F]; rfl
  unfold M.readIn M.readR
  rw [if_neg (by rw [h.down]; decide)]
  by_cases ho : b < 0 ∨ ((nblk m.inp.length m.B : Nat) : Int) ≤ b
  · rw [if_pos ho]
    exact h.more (by omega)
  · rw [if_neg ho, if_neg (by rw [hh]; decide)]
    exact ⟨h.B, h.S, h.inp, h.F, h.down, by have := h.k; show m.k + 1 + 1 ≤ _; omega⟩
theorem ii_block {B S : Nat} {l : List Int} {m : M} {kk : Nat} (h : II B S l m kk) (n : Nat) (hn : n < nblk l.length B) : (m.readIn n).1 = 0 ∧ (m.readIn n).2.1 = cut B l n := by
  have hh : Hits m.F 1 n (m.R 1 n + 1) = false := by rw [h.F]; rfl
  unfold M.readIn M.readR
  rw [if_neg (by rw [h.down]; decide), h.inp, h.B, if_neg (by omega), if_neg (by rw [hh]; decide)]
  exact ⟨rfl, rfl⟩
theorem ii_write {B S : Nat} {l : List Int} {m : M} {kk : Nat} (h : II B S l m kk) (b : Int) (d : List Int) : II B S l (m.write b d).2 (kk + 3) := by
  unfold M.write
  rw [if_neg (by rw [h.down]; decide)]
  by_cases ho : b < 0 ∨ (m.S : Int) ≤ b
  · rw [if_pos ho]
    exact h.more (by omega)
  · rw [if_neg ho]
    by_cases hl : d.length ≠ m.B
    · rw [if_pos hl]
      exact h.more (by omega)
    · rw [if_neg hl, h.F]
      exact ⟨h.B, h.S, h.inp, h.F, rfl, by have := h.k; show m.k + 1 ≤ _; omega⟩
theorem row_kept {w w' : World} {v : Value} {n : Nat} {xs : List Value} {base : Nat} {e : TypeId} {size : Nat} (h : w.ownsRow base e size v n xs) (hg : ∀ k, v.ownBlock = some k → w'.heap[k]? = w.heap[k]?) : w'.ownsRow base e size v n xs := by
  refine ⟨h.1, ?_⟩
  rcases h.2 with hn | ⟨g, cap, cur, rfl, hb, hgg, rest⟩
  · exact .inl hn
  · exact .inr ⟨g, cap, cur, rfl, hb, (hg g rfl).trans hgg, rest⟩
theorem take_cut (l : List Int) (B q : Nat) : l.take (q * B) ++ cut B l q = l.take ((q + 1) * B) := by
  rw [Nat.succ_mul, List.take_add]
  rfl

set_option maxRecDepth 100000 in
set_option maxHeartbeats 3200000 in
theorem input_yes (B S : Nat) (ia ga fa sa : Option Addr) (ic gc nf fc sc : Nat) (l lg : List Int) (ls : List St) (w : World) (hl : BytesAt w ia l) (hg : BytesAt w ga lg) (hs0 : StepsAt w sa ls) (hnl : ia = none → l.length = 0 ∧ ic = 0) (hng : ga = none → lg.length = 0 ∧ gc = 0)
    (b1 : l.length ≤ 140737488355328) (b2 : lg.length ≤ 140737488355328) (b3 : ls.length ≤ 140737488355328) (hc : chk B S l.length lg.length [] = 0) :
    Calls Try.prog 4 #[setupV B S ia ga fa l.length ic lg.length gc nf fc, .slice sa ls.length sc] w fun e w' => e = .returned (.bool true) ∧ Kept w w' := by
  have HS0 : Hid _ := hs0
  have hls : ls.length ≤ 140737488355328 := b3
  obtain ⟨n, en⟩ : ∃ n, n = ls.length := ⟨_, rfl⟩
  rw [← en] at hls ⊢
  have EN : Hid _ := en
  clear hs0 b3 en
  have hnot : ∀ (x : Bool) (w : World), (Op.unary .not (.bool x)).run Try.prog w = .ok (.bool (!x)) w := fun _ _ => rfl
  have HB0 : Hid ((w.alloc (setupO B S ia ga fa l.length ic lg.length gc nf fc)).heap[w.heap.size]? = some (setupO B S ia ga fa l.length ic lg.length gc nf fc)) := heap_new w _
  have HA : Hid (∀ w', _) := fun w' => anchor_any w'
  have CI : Hid (∀ w1 (b : Addr), Kept w w1 → ∀ ty, ∃ v' w', (Builtin.append_ #[22, 22] ty #[.slice (some b) 0 0, .slice ia l.length ic]).run Try.prog w1 = .ok v' w' ∧ CloneB w1 l v' w') := fun w1 b k1 ty => clone_at b (hl.kept k1 (fun _ _ h => h)) hnl b1 ty
  have CG : Hid (∀ w1 (b : Addr), Kept w w1 → ∀ ty, ∃ v' w', (Builtin.append_ #[22, 22] ty #[.slice (some b) 0 0, .slice ga lg.length gc]).run Try.prog w1 = .ok v' w' ∧ CloneB w1 lg v' w') := fun w1 b k1 ty => clone_at b (hg.kept k1 (fun _ _ h => h)) hng b2 ty
  have HN : Hid (∀ w5 a3 c3 a4 c4, BytesAt w5 a3 l → (a3 = none → l.length = 0 ∧ c3 = 0) → BytesAt w5 a4 lg → Calls Try.prog 12 #[.agg #[.int .i64 B, .int .i64 S], .slice a3 l.length c3, .slice a4 lg.length c4, .slice none 0 0] w5 fun e w6 => ∃ p, e = .returned (.tuple #[.pointer (some ⟨p.db, 0, none⟩), .int .i64 0]) ∧ Dv w6 (M.made B S l lg []) p ∧ (∀ k, Foot (M.made B S l lg []) p k → w5.heap.size ≤ k) ∧ Kept w5 w6) := fun w5 a3 c3 a4 c4 r1 r2 r3 =>
    new_yes B S a3 a4 none c3 c4 0 l lg [] w5 r1 r3 (FaultsAt.nil _ _) r2 (fun _ => ⟨rfl, rfl⟩) hc
  obtain ⟨q1, q2, q3, q4, q5⟩ := made_good hc
  have HLS : Hid _ := hl
  clear hg hl hnl hng b1 b2 hc
  unfold setupV
  go_enter Try.func4, Try.ntmps4
  go_wp2_with fail
  refine Calls.mono (HA.out _) ?_
  rintro e w2 ⟨rfl, k2⟩
  have k02 : Kept w w2 := ((Same.refl _ w).alloc _).trans' k2
  have hb2 : w2.heap[w.heap.size]? = some (setupO B S ia ga fa l.length ic lg.length gc nf fc) := (k2.block _ (by simp) (fun h => h)).trans HB0.out
  have HBX : Hid (∀ w3, Kept w w3 ∧ Kept w2 w3 → (Kept w w3 ∧ Kept w2 w3) ∧ w3.cell? ⟨w.heap.size, 0, none⟩ = some (.int .i64 B) ∧ w3.cell? ⟨w.heap.size, 1, none⟩ = some (.int .i64 S) ∧ w3.cell? ⟨w.heap.size, 2, none⟩ = some (.slice ia l.length ic) ∧ w3.cell? ⟨w.heap.size, 3, none⟩ = some (.slice ga lg.length gc)) := fun w3 k3 => by
    obtain ⟨x0, x1, x2, x3, x4⟩ := setup_cells ((k3.2.block _ (lt_of_heap hb2) (fun h => h)).trans hb2)
    exact ⟨k3, x0, x1, x2, x3⟩
  have HB2 : Hid _ := hb2
  clear HA k2 hb2
  go_wp2_with fail
  go_cut [5, 6] (fun s7 s8 wx => ∃ p, s7 = .pointer (some ⟨p.db, 0, none⟩) ∧ s8 = .int .i64 0 ∧ Dv wx (M.made B S l lg []) p ∧ (∀ k, Foot (M.made B S l lg []) p k → w2.heap.size ≤ k) ∧ Kept w2 wx)
  case first =>
    go_region_held3 (fun w' => (Kept w w' ∧ Kept w2 w') ∧ w'.cell? ⟨w.heap.size, 0, none⟩ = some (.int .i64 B) ∧ w'.cell? ⟨w.heap.size, 1, none⟩ = some (.int .i64 S) ∧ w'.cell? ⟨w.heap.size, 2, none⟩ = some (.slice ia l.length ic) ∧ w'.cell? ⟨w.heap.size, 3, none⟩ = some (.slice ga lg.length gc))
      (exact HBX.out _ ⟨(by (repeat (first | exact k02 | exact Same.refl _ _ | apply Same.alloc | apply Same.drew | refine Same.trans' ?_ kx3 | refine Same.trans' ?_ ky4 | refine Same.trans' ?_ kn)); done), (by (repeat (first | exact k02 | exact Same.refl _ _ | apply Same.alloc | apply Same.drew | refine Same.trans' ?_ kx3 | refine Same.trans' ?_ ky4 | refine Same.trans' ?_ kn)); done)⟩)
      (first
        | (go_at_call 12; refine Calls.mono (HN.out _ _ _ _ _ (BytesAt.kept (S := fun _ => False) b3 (by (repeat (first | exact k02 | exact Same.refl _ _ | apply Same.alloc | apply Same.drew | refine Same.trans' ?_ kx3 | refine Same.trans' ?_ ky4 | refine Same.trans' ?_ kn)); done) (fun _ _ h => h)) nil3 (BytesAt.kept (S := fun _ => False) b4 (by (repeat (first | exact k02 | exact Same.refl _ _ | apply Same.alloc | apply Same.drew | refine Same.trans' ?_ kx3 | refine Same.trans' ?_ ky4 | refine Same.trans' ?_ kn)); done) (fun _ _ h => h))) ?_; rintro e w6 ⟨p, rfl, dn, fn, kn⟩)
        | (refine step_app rfl (.tmp 21) (.tmp 23) 22 rfl (.slice (some ⟨_, 0, none⟩) 0 0) (.slice ia l.length ic) rfl rfl _ (CI.out _ _ (by (repeat (first | exact k02 | exact Same.refl _ _ | apply Same.alloc | apply Same.drew | refine Same.trans' ?_ kx3 | refine Same.trans' ?_ ky4 | refine Same.trans' ?_ kn)); done)) ?_; rintro v3 w3 ⟨a3, c3, rfl, b3, cap3, nil3, fr3, kx3⟩)
        | (refine step_app rfl (.tmp 25) (.tmp 27) 22 rfl (.slice (some ⟨_, 0, none⟩) 0 0) (.slice ga lg.length gc) rfl rfl _ (CG.out _ _ (by (repeat (first | exact k02 | exact Same.refl _ _ | apply Same.alloc | apply Same.drew | refine Same.trans' ?_ kx3 | refine Same.trans' ?_ ky4 | refine Same.trans' ?_ kn)); done)) ?_; rintro v4 w4 ⟨a4, c4, rfl, b4, cap4, nil4, fr4, ky4⟩))
    all_goals
      go_wp2_with fail
      go_meet
      refine ⟨p, rfl, rfl, dn, fun k hk => Nat.le_trans (Same.size (S := fun _ => False) (by (repeat (first | exact k02 | exact Same.refl _ _ | apply Same.alloc | apply Same.drew | refine Same.trans' ?_ kx3 | refine Same.trans' ?_ ky4 | refine Same.trans' ?_ kn)); done)) (fn k hk), (by (repeat (first | exact k02 | exact Same.refl _ _ | apply Same.alloc | apply Same.drew | refine Same.trans' ?_ kx3 | refine Same.trans' ?_ ky4 | refine Same.trans' ?_ kn)); done)⟩
  case rest =>
    obtain ⟨p, rfl, rfl, hd, hf, kc⟩ := hcut
    have HII : Hid (II B S l (M.made B S l lg []) 0) := ⟨rfl, rfl, rfl, rfl, rfl, Nat.le_refl _⟩
    have HD : Hid _ := hd
    have KC0 : Hid _ := kc
    have HOW : Hid (∀ k, Own p k → w2.heap.size ≤ k) := fun k e => hf k (.inl e)
    have HIA : Hid (∀ k, InB p.ia l.length k → w2.heap.size ≤ k ∧ k < wc.heap.size) := fun k e => ⟨hf k (.inr (.inl e)), hd.lt (.inr (.inl e))⟩
    have HOL : Hid (∀ k, Own p k → k < wc.heap.size) := fun k e => hd.lt (.inl e)
    have HSX : Hid (∀ wr, Kept w2 wr → ∀ i o, ls[i]? = some o → ∃ b off, sa = some ⟨b, off, none⟩ ∧ b < wr.heap.size ∧ wr.cell? ⟨b, off + i * 3, none⟩ = some (.int .i64 o.k) ∧ wr.cell? ⟨b, off + i * 3 + 1, none⟩ = some (.int .i64 o.at') ∧ wr.cell? ⟨b, off + i * 3 + 2, none⟩ = some (.slice o.da o.d.length o.dc) ∧ BytesAt wr o.da o.d ∧ (o.da = none → o.d.length = 0 ∧ o.dc = 0) ∧ o.d.length ≤ 140737488355328) := fun wr kr i o ho => by
      obtain ⟨b, off, e, hb, c0, c1, c2, c3, c4, c5⟩ := HS0.out i o ho
      have kk : Kept w wr := k02.trans' kr
      exact ⟨b, off, e, Nat.lt_of_lt_of_le hb kk.size, (kk.cell (p := ⟨b, _, none⟩) hb (fun h => h)).trans c0, (kk.cell (p := ⟨b, _, none⟩) hb (fun h => h)).trans c1, (kk.cell (p := ⟨b, _, none⟩) hb (fun h => h)).trans c2, c3.kept kk (fun _ _ h => h), c4, c5⟩
    clear hd hf kc HN CI CG HBX
    go_wp2_with fail
    go_loopw [46] (fun i wr => ∃ (j : Nat) (m : M), j ≤ n ∧ i = .int .i64 j ∧ Dv wr m p ∧ II B S l m (3 * j) ∧ Kept w2 wr ∧ wc.heap.size ≤ wr.heap.size) (fun i _ => n - (intOf i).toNat)
    case atStart => exact ⟨0, _, Nat.zero_le _, rfl, HD.out, HII.out, KC0.out, Nat.le_refl _⟩
    case round =>
      obtain ⟨j, m, hj, rfl, hd, hii, kr, hsz⟩ := hrel
      have HDr : Hid _ := hd
      have HIr : Hid _ := hii
      have KR : Hid _ := kr
      clear hd hii
      by_cases hlt : j < n
      · have c1 : decide ((j : Int) < (n : Int)) = true := by simp only [decide_eq_true_eq]; omega
        have hlt2 : (j : Int) < (n : Int) := by omega
        obtain ⟨o, ho⟩ : ∃ o, ls[j]? = some o := ⟨_, List.getElem?_eq_getElem (by rw [← EN.out]; exact hlt)⟩
        obtain ⟨b, off, rfl, hb, y0, y1, y2, y3, y4, y5⟩ := HSX.out wr kr j o ho
        generalize hW : wr.alloc (.cells #[.int .i64 o.k, .int .i64 o.at', .slice o.da o.d.length o.dc] 40) = W
        have kW : Kept wr W := hW ▸ (Same.refl _ wr).alloc _
        have hbW : W.heap[wr.heap.size]? = some (.cells #[.int .i64 o.k, .int .i64 o.at', .slice o.da o.d.length o.dc] 40 (0, 0)) := hW ▸ heap_new wr _
        have z0 : W.cell? ⟨wr.heap.size, 0, none⟩ = some (.int .i64 o.k) := (cell_of hbW 0).trans rfl
        have z1 : W.cell? ⟨wr.heap.size, 1, none⟩ = some (.int .i64 o.at') := (cell_of hbW 1).trans rfl
        have z2 : W.cell? ⟨wr.heap.size, 2, none⟩ = some (.slice o.da o.d.length o.dc) := (cell_of hbW 2).trans rfl
        have hdW := Dv.kept0 HDr.out kW
        have KW : Hid _ := kW
        have HBW : Hid _ := hbW
        have HW : Hid _ := hW
        have hszW : wr.heap.size < W.heap.size := lt_of_heap hbW
        have HDW : Hid _ := hdW
        have HY3 : Hid (BytesAt W o.da o.d) := y3.kept kW (fun _ _ h => h)
        have HY4 : Hid _ := y4
        have HY5 : Hid _ := y5
        clear ho kW hbW y3 y4 y5 hdW kr
        by_cases e1 : o.k = 1
        · have e1a : (o.k == 1) = true := by simpa using e1
          have e3a : (o.k == 3) = false := by rw [e1]; rfl
          have HR1 : Hid _ := readInput_any HDW.out o.at' (by have := HIr.out.k; omega)
          clear e1
          go_wp2_with fail
          refine Calls.mono HR1.out ?_
          rintro e w4 ⟨ra, rc, rfl, -, -, d4, s4⟩
          have hb4 : w4.heap[wr.heap.size]? = some (.cells #[.int .i64 o.k, .int .i64 o.at', .slice o.da o.d.length o.dc] 40 (0, 0)) := (s4.block _ hszW (fun e => by have := HOL.out _ e; omega)).trans HBW.out
          have z4 : w4.cell? ⟨wr.heap.size, 0, none⟩ = some (.int .i64 o.k) := (cell_of hb4 0).trans rfl
          have D4 : Hid _ := d4
          have K4 : Hid (Kept w2 w4) := Same.trans (S' := Own p) (Same.trans' KR.out KW.out) s4 (fun i hi e => by have := HOW.out i e; omega)
          have hz4 : wc.heap.size ≤ w4.heap.size := Nat.le_trans hsz (Nat.le_trans (Nat.le_of_lt hszW) s4.size)
          clear d4 s4 hb4
          go_wp2_with fail
          go_roundw
          case rel => exact ⟨j + 1, _, hlt, by rw [Int.natCast_add]; rfl, D4.out, (ii_read HIr.out o.at').more (by omega), K4.out, hz4⟩
          case measure => simp only [intOf]; omega
        · have e1a : (o.k == 1) = false := by simpa using e1
          by_cases e3 : o.k = 3
          · have e3a : (o.k == 3) = true := by simpa using e3
            have CD : Hid (∀ w1 (b : Addr), Kept W w1 → ∀ ty, ∃ v' w', (Builtin.append_ #[22, 22] ty #[.slice (some b) 0 0, .slice o.da o.d.length o.dc]).run Try.prog w1 = .ok v' w' ∧ CloneB w1 o.d v' w') := fun w1 b k1 ty => clone_at b (BytesAt.kept HY3.out k1 (fun _ _ h => h)) HY4.out HY5.out ty
            have HWR : Hid (∀ w5 a5 c5, Kept W w5 → BytesAt w5 a5 o.d → o.d.length ≤ c5 → (∀ k, InB a5 o.d.length k → W.heap.size ≤ k) → Calls Try.prog 14 #[.pointer (some ⟨p.db, 0, none⟩), .int .i64 o.at', .slice a5 o.d.length c5] w5 fun e w' => e = .returned (.int .i64 (m.write o.at' o.d).1) ∧ Dv w' (m.write o.at' o.d).2 p ∧ Same (Own p) w5 w') := fun w5 a5 c5 k5 r1 r2 r3 =>
              write_any (Dv.kept0 HDW.out k5) o.at' a5 c5 o.d r1 r2 (fun k hk e => by have := r3 k hk; have := HOL.out k (.inl e); omega) (by have := HIr.out.k; omega)
            have HBX2 : Hid (∀ w5, Kept W w5 → Kept W w5 ∧ w5.cell? ⟨wr.heap.size, 1, none⟩ = some (.int .i64 o.at') ∧ w5.cell? ⟨wr.heap.size, 2, none⟩ = some (.slice o.da o.d.length o.dc)) := fun w5 k5 => by
              have e := (k5.block _ hszW (fun h => h)).trans HBW.out
              exact ⟨k5, (cell_of e 1).trans rfl, (cell_of e 2).trans rfl⟩
            have HBX3 : Hid (∀ w5 w6, Kept W w5 → Same (Own p) w5 w6 → w6.cell? ⟨wr.heap.size, 1, none⟩ = some (.int .i64 o.at') ∧ w6.cell? ⟨wr.heap.size, 2, none⟩ = some (.slice o.da o.d.length o.dc)) := fun w5 w6 k5 s6 => by
              have e0 := (k5.block _ hszW (fun h => h)).trans HBW.out
              have e := (s6.block _ (lt_of_heap e0) (fun e => by have := HOL.out _ e; omega)).trans e0
              exact ⟨(cell_of e 1).trans rfl, (cell_of e 2).trans rfl⟩
            clear e1 e3
            go_wp2_with fail
            go_region_held3 (fun w' => w'.cell? ⟨wr.heap.size, 1, none⟩ = some (.int .i64 o.at') ∧ w'.cell? ⟨wr.heap.size, 2, none⟩ = some (.slice o.da o.d.length o.dc))
              (first
                | (refine (HBX2.out _ ?_).2; (repeat (first | exact Same.refl _ _ | apply Same.alloc | apply Same.drew | refine Same.trans' ?_ kx3)); done)
                | (refine HBX3.out _ _ ?_ sn; (repeat (first | exact Same.refl _ _ | apply Same.alloc | apply Same.drew | refine Same.trans' ?_ kx3)); done))
              (first
                | (go_at_call 14; refine Calls.mono (HWR.out _ _ _ (by (repeat (first | exact Same.refl _ _ | apply Same.alloc | apply Same.drew | refine Same.trans' ?_ kx3)); done) (BytesAt.kept (S := fun _ => False) b3 (by (repeat (first | exact Same.refl _ _ | apply Same.alloc | apply Same.drew | refine Same.trans' ?_ kx3)); done) (fun _ _ h => h)) cap3 (fun k hk => Nat.le_trans (Same.size (S := fun _ => False) (by (repeat (first | exact Same.refl _ _ | apply Same.alloc | apply Same.drew | refine Same.trans' ?_ kx3)); done)) (fr3 k hk))) ?_; rintro e w6 ⟨rfl, dn, sn⟩)
                | (refine step_app rfl (.tmp 63) (.tmp 65) 22 rfl (.slice (some ⟨_, 0, none⟩) 0 0) (.slice o.da o.d.length o.dc) rfl rfl _ (CD.out _ _ (by (repeat (first | exact Same.refl _ _ | apply Same.alloc | apply Same.drew | refine Same.trans' ?_ kx3)); done)) ?_; rintro v3 w3 ⟨a3, c3, rfl, b3, cap3, nil3, fr3, kx3⟩))
            have kW3 : Kept W w3 := by ((repeat (first | exact Same.refl _ _ | apply Same.alloc | apply Same.drew | refine Same.trans' ?_ kx3)); done)
            have DN : Hid _ := dn
            have KN : Hid (Kept w2 w6) := Same.trans (S' := Own p) (Same.trans' (Same.trans' KR.out KW.out) kW3) sn (fun i hi e => by have := HOW.out i e; omega)
            have hz6 : wc.heap.size ≤ w6.heap.size := by have := sn.size; have := kW3.size; omega
            clear dn sn kW3 kx3 b3 cap3 nil3 fr3
            go_wp2_with fail
            go_roundw
            case rel => exact ⟨j + 1, _, hlt, by rw [Int.natCast_add]; rfl, DN.out, (ii_write HIr.out o.at' o.d).more (by omega), KN.out, hz6⟩
            case measure => simp only [intOf]; omega
          · have e3a : (o.k == 3) = false := by simpa using e3
            clear e1 e3
            go_wp2_with fail
            go_roundw
            case rel => exact ⟨j + 1, m, hlt, by rw [Int.natCast_add]; rfl, HDW.out, HIr.out.more (by omega), Same.trans' KR.out KW.out, Nat.le_trans hsz (Nat.le_of_lt hszW)⟩
            case measure => simp only [intOf]; omega
      · have ej : j = n := by omega
        subst ej
        have c1 : decide ((j : Int) < (j : Int)) = false := by simp
        clear kr
        obtain ⟨nb, enb⟩ : ∃ nb, nb = nblk l.length B := ⟨_, rfl⟩
        have ENB : Hid _ := enb
        have hnbb : nb ≤ 4195328 := by rw [enb]; exact Nat.le_trans (Nat.div_le_self _ _) (by omega)
        clear enb
        go_wp2_with fail
        go_loopw [9, 10] (fun sv bv wx => ∃ (q : Nat) (m : M) (av : Value), q ≤ nb ∧ bv = .int .i64 q ∧ av = sv ∧ wx.ownsRow 0 5 1 av (l.take (q * B)).length (byt (l.take (q * B))) ∧ (∀ k, av.ownBlock = some k → wc.heap.size ≤ k) ∧ Dv wx m p ∧ II B S l m (3 * j + 3 * q) ∧ Kept w2 wx ∧ wc.heap.size ≤ wx.heap.size) (fun _ bv _ => nb - (intOf bv).toNat)
        case atStart => exact ⟨0, m, _, Nat.zero_le _, rfl, rfl, (by simp only [Nat.zero_mul, List.take_zero]; exact World.ownsRow_nil wr 0 5 1), (fun k e => by simp [Value.ownBlock] at e), HDr.out, HIr.out, KR.out, hsz⟩
        case round =>
          obtain ⟨q, m2, av, hq, rfl, rfl, hrow, hrb, hd, hii, kx, hzx⟩ := hrel
          have HRW : Hid _ := hrow
          have HRB : Hid _ := hrb
          have HDq : Hid _ := hd
          have HIq : Hid _ := hii
          have KXq : Hid _ := kx
          have HBK : Hid (Calls Try.prog 15 #[.pointer (some ⟨p.db, 0, none⟩)] wr fun e w' => e = .returned (.int .i64 nb) ∧ Kept wr w') := by
            have := blocks_any hd
            rw [hii.inp, hii.B] at this
            rw [ENB.out]
            exact this
          clear hrow hrb hd hii kx HDr HIr
          by_cases hqn : q < nb
          · have d1 : decide ((q : Int) < (nb : Int)) = true := by simp only [decide_eq_true_eq]; omega
            have d1' : (q : Int) < (nb : Int) := by omega
            obtain ⟨i1, i2⟩ := ii_block HIq.out q (by rw [← ENB.out]; exact hqn)
            have hqB : q * B < l.length := (lt_nblk (show 0 < B by omega)).1 (by rw [← ENB.out]; exact hqn)
            have hcl : (cut B l q).length = min B (l.length - q * B) := length_cut B l q
            obtain ⟨y1, ey1⟩ : ∃ y, y = m2.readIn q := ⟨_, rfl⟩
            have HI2 : Hid (II B S l y1.2.2 (3 * j + 3 * (q + 1))) := by rw [ey1]; exact (ii_read HIq.out (q : Int)).more (by omega)
            have HRD : Hid (∀ w4, Kept wr w4 → Calls Try.prog 13 #[.pointer (some ⟨p.db, 0, none⟩), .int .i64 q] w4 (RPost p w4 y1)) := fun w4 k4 => by
              rw [ey1]
              exact readInput_any (Dv.kept0 HDq.out k4) q (by have := HIq.out.k; omega)
            rw [← ey1] at i1 i2
            obtain ⟨yc, yb, ym⟩ := y1
            simp only at i1 i2
            subst i1 i2
            obtain ⟨L, eL⟩ : ∃ L, L = (cut B l q).length := ⟨_, rfl⟩
            have d2 : decide ((L : Int) < 1) = false := by simp only [decide_eq_false_iff_not]; omega
            have EL : Hid _ := eL
            have HTC : Hid _ := take_cut l B q
            have hll : l.length ≤ 4194304 := q4
            clear ey1 hcl
            go_wp2_with fail
            refine Calls.mono HBK.out ?_
            rintro e w4 ⟨rfl, k4⟩
            have K4 : Hid _ := k4
            clear k4
            go_wp2_with fail
            refine Calls.mono (HRD.out w4 K4.out) ?_
            rintro e w5 ⟨ra, rc, rfl, g5, f5, d5, s5⟩
            have hrow5 : w5.ownsRow 0 5 1 av (l.take (q * B)).length (byt (l.take (q * B))) := by
              refine row_kept HRW.out fun k hk => ?_
              have h1 := HRB.out k hk
              have h2 := (World.ownsRow.lt HRW.out k hk).2
              exact (s5.block k (Nat.lt_of_lt_of_le h2 K4.out.size) (fun e => by have := HOL.out k e; omega)).trans (K4.out.block k h2 (fun h => h))
            have HAPP : Hid _ := app_bytes (c := rc) hrow5 g5 (fun e => by
              obtain ⟨b', o', e', _⟩ := g5 0 ((cut B l q)[0]'(by rw [← eL]; have := d2; simp only [decide_eq_false_iff_not] at this; omega)) (List.getElem?_eq_getElem _)
              rw [e] at e'
              cases e') (by rw [List.length_take, length_cut]; omega) (Nat.zero_le _)
            have D5 : Hid _ := d5
            have K5 : Hid (Kept w2 w5) := Same.trans (S' := Own p) (Same.trans' KXq.out K4.out) s5 (fun i hi e => by have := HOW.out i e; omega)
            have hz5 : wc.heap.size ≤ w5.heap.size := by have := s5.size; have := K4.out.size; omega
            clear g5 f5 d5 s5 hrow5
            rw [← eL] at HAPP ⊢
            clear eL
            go_wp2_with (at_builtin; refine wpList_app rfl (.tmp 88) (.tmp 89) 22 rfl av (.slice ra L rc) rfl rfl _ HAPP.out ?_; rintro v6 w6 ⟨r6, g6, o6⟩)
            rw [HTC.out] at r6
            have D6 : Hid (Dv w6 ym p) := by
              refine Dv.kept (S := fun k => av.ownBlock = some k) D5.out (Same.of_grown g6 (fun k e => e)) (fun k hk e => ?_)
              have h1 := HRB.out k e
              rcases hk with hk | hk | hk
              · have := HOL.out k hk; omega
              · have := (HIA.out k (by rw [← HI2.out.inp]; exact hk)).2; omega
              · have := hk.1; rw [HI2.out.F] at this; simp at this
            have K6 : Hid (Kept w2 w6) := Same.trans (S' := fun k => av.ownBlock = some k) K5.out (Same.of_grown g6 (fun k e => e)) (fun i hi e => by
              have h1 := HRB.out i e
              have h2 := KC0.out.size
              omega)
            have R6 : Hid _ := r6
            have O6 : Hid (∀ k, v6.ownBlock = some k → wc.heap.size ≤ k) := fun k e => by
              rcases o6 with h | h
              · exact HRB.out k (h ▸ e)
              · rw [h] at e
                cases e
                exact hz5
            have hz6 : wc.heap.size ≤ w6.heap.size := Nat.le_trans hz5 g6.size
            clear r6 g6 o6
            go_wp2_with fail
            go_roundw
            case rel => exact ⟨q + 1, ym, _, hqn, by rw [Int.natCast_add]; rfl, rfl, R6.out, O6.out, D6.out, HI2.out, K6.out, hz6⟩
            case measure => simp only [intOf]; omega
          · have eq : q = nb := by omega
            have hall : l.take (q * B) = l := List.take_of_length_le (by
              by_cases h : l.length ≤ q * B
              · exact h
              · have := (lt_nblk (n := l.length) (B := B) (b := q) (by omega)).2 (by omega)
                rw [← ENB.out] at this
                omega)
            have hrow := HRW.out
            rw [hall] at hrow
            obtain ⟨aa, ca, rfl, gA, -⟩ := BytesAt.of_row hrow
            have GA : Hid _ := gA
            subst eq
            have d1 : decide ((q : Int) < (q : Int)) = false := by simp
            clear hall hrow gA
            go_wp2_with fail
            refine Calls.mono HBK.out ?_
            rintro e w4 ⟨rfl, k4⟩
            have hb4 : w4.heap[w.heap.size]? = some (setupO B S ia ga fa l.length ic lg.length gc nf fc) := (Same.block (S := fun _ => False) (Same.trans' KXq.out k4) _ (lt_of_heap HB2.out) (fun h => h)).trans HB2.out
            have HBX4 : Hid (∀ w5, Kept w4 w5 → w5.cell? ⟨w.heap.size, 2, none⟩ = some (.slice ia l.length ic)) := fun w5 k5 => (setup_cells ((k5.block _ (lt_of_heap hb4) (fun h => h)).trans hb4)).2.2.1
            have HSA : Hid (∀ w5 oa ca, Kept w4 w5 → BytesAt w5 oa l → Calls Try.prog 16 #[.slice oa l.length ca, .slice ia l.length ic] w5 fun e w' => e = .returned (.bool true) ∧ w' = w5) := fun w5 oa ca k5 g5 =>
              same_true w5 oa ia ca ic l g5 (BytesAt.kept (S := fun _ => False) HLS.out (Same.trans' (Same.trans' (Same.trans' k02 KXq.out) k4) k5) (fun _ _ h => h)) (by omega)
            have HINP : Hid (∀ w5, Kept w4 w5 → Calls Try.prog 17 #[.pointer (some ⟨p.db, 0, none⟩)] w5 fun e w' => ∃ a cap, e = .returned (.slice a l.length cap) ∧ BytesAt w' a l ∧ Kept w5 w') := fun w5 k5 => by
              have := input_any (Dv.kept0 HDq.out (Same.trans' k4 k5))
              rw [HIq.out.inp] at this
              refine this.mono ?_
              rintro e w' ⟨a, cap, he, h1, h2, h3⟩
              exact ⟨a, cap, he, h1, h3⟩
            have GA4 : Hid (BytesAt w4 aa l) := BytesAt.kept (S := fun _ => False) GA.out k4 (fun _ _ h => h)
            have K4 : Hid _ := k4
            have c2 := HBX4.out w4 (Same.refl _ _)
            clear k4 hb4
            go_wp2_with fail
            go_region_held3 (fun w' => w'.cell? ⟨w.heap.size, 2, none⟩ = some (.slice ia l.length ic))
              ((refine HBX4.out _ ?_; (repeat (first | exact Same.refl _ _ | apply Same.alloc | apply Same.drew | refine Same.trans' ?_ kx7)); done))
              (first
                | (go_at_call 17; refine Calls.mono (HINP.out _ (by (repeat (first | exact Same.refl _ _ | apply Same.alloc | apply Same.drew | refine Same.trans' ?_ kx7)); done)) ?_; rintro e w7 ⟨a7, c7, rfl, g7, kx7⟩)
                | (go_at_call 16; refine Calls.mono (HSA.out _ _ _ (by (repeat (first | exact Same.refl _ _ | apply Same.alloc | apply Same.drew | refine Same.trans' ?_ kx7)); done) g7) ?_; rintro e w8 ⟨rfl, hw8⟩; subst w8)
                | (go_at_call 16; refine Calls.mono (HSA.out _ _ _ (by (repeat (first | exact Same.refl _ _ | apply Same.alloc | apply Same.drew | refine Same.trans' ?_ kx7)); done) (BytesAt.kept (S := fun _ => False) GA4.out (by (repeat (first | exact Same.refl _ _ | apply Same.alloc | apply Same.drew | refine Same.trans' ?_ kx7)); done) (fun _ _ h => h))) ?_; rintro e w8 ⟨rfl, hw8⟩; subst w8))
            all_goals
              go_wp2_with fail
              go_ret
              exact ⟨rfl, Same.trans' (Same.trans' (Same.trans' k02 KXq.out) K4.out) (by (repeat (first | exact Same.refl _ _ | apply Same.alloc | apply Same.drew | refine Same.trans' ?_ kx7)); done)⟩
end Go.Proofs.Ytipfoognpenafaa
