/- What is proved: DeviceKeeps returns true where the block and the data fit; the arguments lie in memory. -/
import Derived.Test.YtipfoognpenafaaDSet
namespace Go.Proofs.Ytipfoognpenafaa
open Go.RowKit

set_option maxRecDepth 100000 in
set_option maxHeartbeats 1600000 in
theorem keeps_fit (B S : Nat) (n : Nat) (ia ga fa da : Option Addr) (ic gc nf fc dc : Nat) (l lg ld : List Int) (w : World) (hl : BytesAt w ia l) (hg : BytesAt w ga lg) (hd0 : BytesAt w da ld) (hnl : ia = none → l.length = 0 ∧ ic = 0) (hng : ga = none → lg.length = 0 ∧ gc = 0) (hnd : da = none → ld.length = 0 ∧ dc = 0)
    (b1 : l.length ≤ 140737488355328) (b2 : lg.length ≤ 140737488355328) (b3 : ld.length ≤ 140737488355328) (hc : chk B S l.length lg.length [] = 0) (hfit : n < S ∧ ld.length = B) :
    Calls Try.prog 5 #[setupV B S ia ga fa l.length ic lg.length gc nf fc, .int .i64 n, .slice da ld.length dc] w fun e w' => e = .returned (.bool true) ∧ Kept w w' := by
  have CD : Hid (∀ w1 (b : Addr), Kept w w1 → ∀ ty, ∃ v' w', (Builtin.append_ #[22, 22] ty #[.slice (some b) 0 0, .slice da ld.length dc]).run Try.prog w1 = .ok v' w' ∧ CloneB w1 ld v' w') := fun w1 b k1 ty => clone_at b (hd0.kept k1 (fun _ _ h => h)) hnd b3 ty
  have HD0 : Hid _ := hd0
  have hld : ld.length ≤ 140737488355328 := b3
  clear hd0 hnd b3
  have HFT : Hid _ := hfit
  clear hfit
  have hnot : ∀ (x : Bool) (w : World), (Op.unary .not (.bool x)).run Try.prog w = .ok (.bool (!x)) w := fun _ _ => rfl
  have HB0 : Hid ((w.alloc (setupO B S ia ga fa l.length ic lg.length gc nf fc)).heap[w.heap.size]? = some (setupO B S ia ga fa l.length ic lg.length gc nf fc)) := heap_new w _
  have HA : Hid (∀ w', _) := fun w' => anchor_any w'
  have CI : Hid (∀ w1 (b : Addr), Kept w w1 → ∀ ty, ∃ v' w', (Builtin.append_ #[22, 22] ty #[.slice (some b) 0 0, .slice ia l.length ic]).run Try.prog w1 = .ok v' w' ∧ CloneB w1 l v' w') := fun w1 b k1 ty => clone_at b (hl.kept k1 (fun _ _ h => h)) hnl b1 ty
  have CG : Hid (∀ w1 (b : Addr), Kept w w1 → ∀ ty, ∃ v' w', (Builtin.append_ #[22, 22] ty #[.slice (some b) 0 0, .slice ga lg.length gc]).run Try.prog w1 = .ok v' w' ∧ CloneB w1 lg v' w') := fun w1 b k1 ty => clone_at b (hg.kept k1 (fun _ _ h => h)) hng b2 ty
  have HN : Hid (∀ w5 a3 c3 a4 c4, BytesAt w5 a3 l → (a3 = none → l.length = 0 ∧ c3 = 0) → BytesAt w5 a4 lg → Calls Try.prog 12 #[.agg #[.int .i64 B, .int .i64 S], .slice a3 l.length c3, .slice a4 lg.length c4, .slice none 0 0] w5 fun e w6 => ∃ p, e = .returned (.tuple #[.pointer (some ⟨p.db, 0, none⟩), .int .i64 0]) ∧ Dv w6 (M.made B S l lg []) p ∧ (∀ k, Foot (M.made B S l lg []) p k → w5.heap.size ≤ k) ∧ Kept w5 w6) := fun w5 a3 c3 a4 c4 r1 r2 r3 =>
    new_yes B S a3 a4 none c3 c4 0 l lg [] w5 r1 r3 (FaultsAt.nil _ _) r2 (fun _ => ⟨rfl, rfl⟩) hc
  obtain ⟨q1, q2, q3, q4, q5⟩ := made_good hc
  have HLS : Hid _ := hl
  clear hg hl hnl hng b1 b2 hc
  unfold setupV
  go_enter Try.func5, Try.ntmps5
  go_wp2_with fail
  refine Calls.mono (HA.out _) ?_
  rintro e w2 ⟨rfl, k2⟩
  have k02 : Kept w w2 := ((Same.refl _ w).alloc _).trans' k2
  have hb2 : w2.heap[w.heap.size]? = some (setupO B S ia ga fa l.length ic lg.length gc nf fc) := (k2.block _ (by simp) (fun h => h)).trans HB0.out
  have HBX : Hid (∀ w3, Kept w w3 ∧ Kept w2 w3 → (Kept w w3 ∧ Kept w2 w3) ∧ w3.cell? ⟨w.heap.size, 0, none⟩ = some (.int .i64 B) ∧ w3.cell? ⟨w.heap.size, 1, none⟩ = some (.int .i64 S) ∧ w3.cell? ⟨w.heap.size, 2, none⟩ = some (.slice ia l.length ic) ∧ w3.cell? ⟨w.heap.size, 3, none⟩ = some (.slice ga lg.length gc)) := fun w3 k3 => by
    obtain ⟨x0, x1, x2, x3, x4⟩ := setup_cells ((k3.2.block _ (lt_of_heap hb2) (fun h => h)).trans hb2)
    exact ⟨k3, x0, x1, x2, x3⟩
  have HB2 : Hid _ := hb2
  clear HA k2 hb2
  go_wp2_with fail
  go_cut [7, 8] (fun s7 s8 wx => ∃ p, s7 = .pointer (some ⟨p.db, 0, none⟩) ∧ s8 = .int .i64 0 ∧ Dv wx (M.made B S l lg []) p ∧ (∀ k, Foot (M.made B S l lg []) p k → w2.heap.size ≤ k) ∧ Kept w2 wx)
  case first =>
    go_region_held3 (fun w' => (Kept w w' ∧ Kept w2 w') ∧ w'.cell? ⟨w.heap.size, 0, none⟩ = some (.int .i64 B) ∧ w'.cell? ⟨w.heap.size, 1, none⟩ = some (.int .i64 S) ∧ w'.cell? ⟨w.heap.size, 2, none⟩ = some (.slice ia l.length ic) ∧ w'.cell? ⟨w.heap.size, 3, none⟩ = some (.slice ga lg.length gc))
      (exact HBX.out _ ⟨(by (repeat (first | exact k02 | exact Same.refl _ _ | apply Same.alloc | apply Same.drew | refine Same.trans' ?_ kx3 | refine Same.trans' ?_ ky4 | refine Same.trans' ?_ kn)); done), (by (repeat (first | exact k02 | exact Same.refl _ _ | apply Same.alloc | apply Same.drew | refine Same.trans' ?_ kx3 | refine Same.trans' ?_ ky4 | refine Same.trans' ?_ kn)); done)⟩)
      (first
        | (go_at_call 12; refine Calls.mono (HN.out _ _ _ _ _ (BytesAt.kept (S := fun _ => False) b3 (by (repeat (first | exact k02 | exact Same.refl _ _ | apply Same.alloc | apply Same.drew | refine Same.trans' ?_ kx3 | refine Same.trans' ?_ ky4 | refine Same.trans' ?_ kn)); done) (fun _ _ h => h)) nil3 (BytesAt.kept (S := fun _ => False) b4 (by (repeat (first | exact k02 | exact Same.refl _ _ | apply Same.alloc | apply Same.drew | refine Same.trans' ?_ kx3 | refine Same.trans' ?_ ky4 | refine Same.trans' ?_ kn)); done) (fun _ _ h => h))) ?_; rintro e w6 ⟨p, rfl, dn, fn, kn⟩)
        | (refine step_app rfl (.tmp 25) (.tmp 27) 22 rfl (.slice (some ⟨_, 0, none⟩) 0 0) (.slice ia l.length ic) rfl rfl _ (CI.out _ _ (by (repeat (first | exact k02 | exact Same.refl _ _ | apply Same.alloc | apply Same.drew | refine Same.trans' ?_ kx3 | refine Same.trans' ?_ ky4 | refine Same.trans' ?_ kn)); done)) ?_; rintro v3 w3 ⟨a3, c3, rfl, b3, cap3, nil3, fr3, kx3⟩)
        | (refine step_app rfl (.tmp 29) (.tmp 31) 22 rfl (.slice (some ⟨_, 0, none⟩) 0 0) (.slice ga lg.length gc) rfl rfl _ (CG.out _ _ (by (repeat (first | exact k02 | exact Same.refl _ _ | apply Same.alloc | apply Same.drew | refine Same.trans' ?_ kx3 | refine Same.trans' ?_ ky4 | refine Same.trans' ?_ kn)); done)) ?_; rintro v4 w4 ⟨a4, c4, rfl, b4, cap4, nil4, fr4, ky4⟩))
    all_goals
      go_wp2_with fail
      go_meet
      refine ⟨p, rfl, rfl, dn, fun k hk => Nat.le_trans (Same.size (S := fun _ => False) (by (repeat (first | exact k02 | exact Same.refl _ _ | apply Same.alloc | apply Same.drew | refine Same.trans' ?_ kx3 | refine Same.trans' ?_ ky4 | refine Same.trans' ?_ kn)); done)) (fn k hk), (by (repeat (first | exact k02 | exact Same.refl _ _ | apply Same.alloc | apply Same.drew | refine Same.trans' ?_ kx3 | refine Same.trans' ?_ ky4 | refine Same.trans' ?_ kn)); done)⟩
  case rest =>
    obtain ⟨p, rfl, rfl, hd, hf, kc⟩ := hcut
    have hsl : (M.made B S l lg []).scr.length = B * S := made_len B S l lg [] q5
    obtain ⟨t, et⟩ : ∃ t, t = B * S := ⟨_, rfl⟩
    have hbs : (B : Int) * (S : Int) = (t : Int) := by rw [et]; simp
    have hbs2 : t ≤ 4194304 := by rw [et]; exact Nat.le_trans (Nat.mul_le_mul q2 q3) (by decide)
    have HI : Hid (∀ w1, Kept wc w1 → Calls Try.prog 18 #[.pointer (some ⟨p.db, 0, none⟩)] w1 fun e w' => ∃ a cap, e = .returned (.slice a t cap) ∧ BytesAt w' a (M.made B S l lg []).scr ∧ (∀ k, InB a t k → w1.heap.size ≤ k) ∧ Kept w1 w') := fun w1 k1 => by
      have := image_any (hd.kept0 k1)
      rw [hsl, ← et] at this
      exact this
    have ET : Hid _ := et
    have HSL : Hid _ := hsl
    have HD : Hid _ := hd
    have HF : Hid _ := hf
    have KC0 : Hid _ := kc
    have hlt2 := lt_of_heap HB2.out
    clear hd hf kc et hsl HN CI CG HBX
    go_wp2_with fail
    refine Calls.mono (HI.out wc (Same.refl _ _)) ?_
    rintro e w7 ⟨ab, cb, rfl, g7, f7, k7⟩
    have G7 : Hid _ := g7
    have F7 : Hid _ := f7
    have K7 : Hid _ := k7
    clear g7 f7 k7
    go_wp2_with (at_builtin; refine wpList_app rfl (.tmp 52) (.tmp 53) 22 rfl (.slice (some ⟨_, 0, none⟩) 0 0) (.slice da ld.length dc) rfl rfl _ (CD.out _ _ (((k02.trans' KC0.out).trans' K7.out).alloc _)) ?_; rintro v8 w8 ⟨a8, c8, rfl, b8, cap8, nil8, fr8, k8⟩)
    have k78 : Kept w7 w8 := ((Same.refl _ w7).alloc _).trans' k8
    have hd8 := HD.out.kept0 (Same.trans' K7.out k78)
    have HW : Hid _ := write_any hd8 n a8 c8 ld b8 cap8 (fun k hk e => by
      have h1 := fr8 k hk
      have h2 := hd8.lt (.inl (.inl rfl)) (k := p.db)
      have h3 := HD.out.lt (.inl (.inl rfl)) (k := p.db)
      have h4 := K7.out.size
      simp only [World.size_alloc] at h1
      omega) (show 0 + 1 < _ by decide)
    have hn : n < S := HFT.out.1
    have hlB : ld.length = B := HFT.out.2
    have hwr := write_fit (m := M.made B S l lg []) (n := n) (d := ld) rfl hn hlB rfl
    have hfb : n * B + B ≤ t := by rw [ET.out, Nat.mul_comm n]; exact (Nat.mul_succ B n) ▸ Nat.mul_le_mul_left _ hn
    obtain ⟨m', em⟩ : ∃ m', m' = (M.made B S l lg []).cW1.torn (n * B) ld false := ⟨_, rfl⟩
    have hwr' : (M.made B S l lg []).write n ld = (0, m') := by rw [em]; exact hwr
    have hms : m'.scr = splice (M.made B S l lg []).scr (n * B) ld := by rw [em]; rfl
    have hmB : m'.B = B := by rw [em]; rfl
    have hmS : m'.S = S := by rw [em]; rfl
    have hmd : m'.down = false := by rw [em]; rfl
    have hmF : m'.F = [] := by rw [em]; rfl
    have hmk : m'.k = 1 := by rw [em]; rfl
    have hml : m'.scr.length = t := by rw [hms, length_splice _ _ _ (by rw [HSL.out, ← ET.out, hlB]; exact hfb), HSL.out, ET.out]
    have hcut : cut m'.B m'.scr n = ld := by rw [hmB, hms]; exact cut_splice _ _ _ _ hlB (by rw [HSL.out, ← ET.out]; exact hfb)
    have hrd := readSc_fit (m := m') (n := n) hmd (by rw [hmS]; exact hn) hmF
    rw [hcut] at hrd
    rw [hwr'] at HW
    have K78 : Hid _ := k78
    have HLB : Hid _ := hlB
    have HMS : Hid _ := hms
    have HML : Hid _ := hml
    have HFB : Hid _ := hfb
    clear hlB hwr hwr' em hms hmB hmS hmd hmF hcut hd8 b8 cap8 nil8 fr8 k8 k78 CD hml
    refine Calls.mono HW.out ?_
    rintro e w9 ⟨rfl, hd9, s9⟩
    have k29 : ∀ k, k < w2.heap.size → w9.heap[k]? = w2.heap[k]? := fun k hk => by
      refine (s9.block k ?_ ?_).trans (Same.block (S := fun _ => False) (Same.trans' (Same.trans' KC0.out K7.out) K78.out) k hk (fun h => h))
      · have := (Same.trans' (Same.trans' KC0.out K7.out) K78.out).size; omega
      · intro e; have := HF.out k (.inl e); omega
    have hb9 := (k29 _ hlt2).trans HB2.out
    obtain ⟨x0, x1, -, -, -⟩ := setup_cells hb9
    have HI9 : Hid (Calls Try.prog 18 #[.pointer (some ⟨p.db, 0, none⟩)] w9 fun e w' => ∃ a cap, e = .returned (.slice a t cap) ∧ BytesAt w' a m'.scr ∧ (∀ k, InB a t k → w9.heap.size ≤ k) ∧ Kept w9 w') := by
      have := image_any hd9
      rw [HML.out] at this
      exact this
    have S9 : Hid _ := s9
    have HD9 : Hid _ := hd9
    have HB9 : Hid _ := hb9
    have HOW : Hid (∀ k, Own p k → k < wc.heap.size ∧ w2.heap.size ≤ k) := fun k e => ⟨HD.out.lt (.inl e), HF.out k (.inl e)⟩
    have HG9 : Hid (BytesAt w9 ab (M.made B S l lg []).scr) := by
      refine BytesAt.kept (S := Own p) (BytesAt.kept (S := fun _ => False) G7.out K78.out (fun _ _ h => h)) s9 (fun k hk e => ?_)
      rw [HSL.out, ← ET.out] at hk
      have h1 := F7.out k hk
      have h2 := HOW.out k e
      omega
    have HDA : Hid (BytesAt w9 da ld) := by
      refine BytesAt.kept (S := Own p) (BytesAt.kept (S := fun _ => False) HD0.out (Same.trans' (Same.trans' (Same.trans' k02 KC0.out) K7.out) K78.out) (fun _ _ h => h)) s9 (fun k hk e => ?_)
      have h1 := BytesAt.lt HD0.out hk
      have h2 := HOW.out k e
      have h3 := Same.size k02
      omega
    have t1 : decide (0 ≤ (n : Int)) = true := by simp
    have t2 : decide ((n : Int) < (S : Int)) = true := by simp only [decide_eq_true_eq]; omega
    have t3 : ((ld.length : Int) == (B : Int)) = true := by rw [HLB.out]; simp
    have htt : ((t : Int) != (t : Int)) = false := by simp
    have HFI : Hid (∀ i, i < w.heap.size → Own p i → False) := fun i hi e => by have := (HOW.out i e).2; have := Same.size k02; omega
    clear k29 s9 hd9 HW hb9
    go_wp2_with fail
    refine Calls.mono HI9.out ?_
    rintro e w10 ⟨aa, ca, rfl, ga10, fa10, ka10⟩
    have HR : Hid (Calls Try.prog 19 #[.pointer (some ⟨p.db, 0, none⟩), .int .i64 n] w10 (RPost p w10 (m'.readSc n))) := readScratch_any (Dv.kept0 HD9.out ka10) n (by rw [hmk]; decide)
    rw [hrd] at HR
    have GA : Hid _ := ga10
    have FA : Hid _ := fa10
    have KA : Hid _ := ka10
    obtain ⟨y0, y1, -, -, -⟩ := setup_cells ((ka10.block _ (lt_of_heap HB9.out) (fun h => h)).trans HB9.out)
    clear ga10 fa10 ka10 hrd hmk x0 x1
    go_wp2_with fail
    refine Calls.mono HR.out ?_
    rintro e w11 ⟨ap, cp, rfl, gp, fp, -, s11⟩
    have hda11 : BytesAt w11 da ld := by
      refine BytesAt.kept (S := Own p) (BytesAt.kept (S := fun _ => False) HDA.out KA.out (fun _ _ h => h)) s11 (fun k hk e => ?_)
      have h1 := BytesAt.lt HD0.out hk
      have h2 := HOW.out k e
      have h3 := Same.size k02
      omega
    have hab11 : BytesAt w11 ab (M.made B S l lg []).scr := by
      refine BytesAt.kept (S := Own p) (BytesAt.kept (S := fun _ => False) HG9.out KA.out (fun _ _ h => h)) s11 (fun k hk e => ?_)
      rw [HSL.out, ← ET.out] at hk
      have h1 := F7.out k hk
      have h2 := HOW.out k e
      omega
    have haa11 : BytesAt w11 aa m'.scr := by
      refine BytesAt.kept (S := Own p) GA.out s11 (fun k hk e => ?_)
      rw [HML.out] at hk
      have h1 := FA.out k hk
      have h2 := HOW.out k e
      have h3 := (Same.trans' K7.out K78.out).size
      have h4 := S9.out.size
      omega
    have hb11 : w11.cell? ⟨w.heap.size, 0, none⟩ = some (.int .i64 B) := (s11.cell (p := ⟨w.heap.size, 0, none⟩) (World.block_lt_of_cell? w10 _ y0) (fun e => by have := (HOW.out _ e).2; simp only at this; omega)).trans y0
    have HS1 : Hid (Calls Try.prog 16 #[.slice ap ld.length cp, .slice da ld.length dc] w11 fun e w' => e = .returned (.bool true) ∧ w' = w11) := same_true w11 ap da cp dc ld gp hda11 (by omega)
    have HDA1 : Hid _ := hda11
    have HAB1 : Hid _ := hab11
    have HAA1 : Hid _ := haa11
    have S11 : Hid _ := s11
    clear gp fp s11 hda11 hab11 haa11
    go_wp2_with fail
    refine Calls.mono HS1.out ?_
    rintro e w12 ⟨rfl, hw12⟩
    subst w12
    go_wp2_with fail
    have hB0 : ((B : Int) == 0) = false := by simp; omega
    go_loop [115] (fun i => ∃ j : Nat, j ≤ t ∧ i = .int .i64 j) (fun i => t - (intOf i).toNat)
    case atStart => exact ⟨0, Nat.zero_le _, rfl⟩
    case round =>
      obtain ⟨j, hj, rfl⟩ := hrel
      by_cases hlt : j < t
      · have c1 : decide ((j : Int) < (t : Int)) = true := by simp only [decide_eq_true_eq]; omega
        have hlt2 : (j : Int) < (t : Int) := by omega
        obtain ⟨x, hx⟩ : ∃ x, m'.scr[j]? = some x := ⟨_, List.getElem?_eq_getElem (by rw [HML.out]; exact hlt)⟩
        obtain ⟨b1', o1, ha1, -, r1⟩ := HAA1.out j x hx
        have hsp := splice_get (M.made B S l lg []).scr ld (n * B) j (by rw [HSL.out, ← ET.out, HLB.out]; exact HFB.out)
        rw [← HMS.out, hx, HLB.out] at hsp
        obtain ⟨q, eq⟩ : ∃ q, q = j / B := ⟨_, rfl⟩
        obtain ⟨r, er⟩ : ∃ r, r = j % B := ⟨_, rfl⟩
        have hq : (j : Int).tdiv (B : Int) = (q : Int) := by rw [eq]; rfl
        have hr : (j : Int).tmod (B : Int) = (r : Int) := by rw [er]; rfl
        have hdm := Nat.div_add_mod j B
        have hmod := Nat.mod_lt j (show 0 < B by omega)
        rw [← eq, ← er] at hdm
        rw [← er] at hmod
        have hxx : (x != x) = false := by simp
        have hqb : q ≤ 4194304 := by rw [eq]; exact Nat.le_trans (Nat.div_le_self _ _) (by omega)
        by_cases hqn : q = n
        · have hqt : ((q : Int) == (n : Int)) = true := by rw [hqn]; simp
          have hqt' : (q : Int) = (n : Int) := by rw [hqn]
          rw [hqn, Nat.mul_comm] at hdm
          rw [if_pos (by omega), show j - n * B = r by omega] at hsp
          obtain ⟨b2', o2, ha2, -, r2⟩ := HDA1.out r x hsp.symm
          have hrl : (r : Int) < (ld.length : Int) := by rw [HLB.out]; omega
          have HQ : Hid _ := hqn
          clear hsp hx eq er hdm hqn
          subst ha1 ha2
          go_wp2_with fail
          go_round
          case rel => exact ⟨j + 1, hlt, by rw [Int.natCast_add]; rfl⟩
          case measure => simp only [intOf]; omega
        · have hqt : ((q : Int) == (n : Int)) = false := by simp; omega
          have hqt' : ¬ (q : Int) = (n : Int) := by omega
          have hns : ¬ (n * B ≤ j ∧ j < n * B + B) := fun ⟨h1, h2⟩ => hqn (by
            rw [eq]
            exact Nat.div_eq_of_lt_le (by omega) (by rw [Nat.succ_mul]; omega))
          rw [if_neg hns] at hsp
          obtain ⟨b2', o2, ha2, -, r2⟩ := HAB1.out j x hsp.symm
          clear hsp hx eq er hdm hqn hns
          subst ha1 ha2
          go_wp2_with fail
          go_round
          case rel => exact ⟨j + 1, hlt, by rw [Int.natCast_add]; rfl⟩
          case measure => simp only [intOf]; omega
      · have ej : j = t := by omega
        subst ej
        have c1 : decide ((j : Int) < (j : Int)) = false := by simp
        go_wp2_with fail
        go_ret
        exact ⟨rfl, (((((k02.trans' KC0.out).trans' K7.out).trans' K78.out).trans S9.out HFI.out).trans' KA.out).trans S11.out HFI.out⟩
end Go.Proofs.Ytipfoognpenafaa
