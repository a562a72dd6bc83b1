/- What is proved: New makes a machine of so many sessions, with no transaction; Value tells what is committed last of a key; no condition but the bounds. -/
import Derived.Test.YtmghmacgljihcaaKDo
import Derived.Carry
namespace Go.Proofs.Ytmghmacgljihcaa
open Go.RowKit

def zsn : Array Value := #[.int .i64 0, .pointer none]
theorem Try.infoSess : (Try.prog.info? 71).map (fun i => (i.zero, i.size, i.bytes)) = some (some (.agg zsn), 2, 16) := by kernel_rfl
theorem make_ses (w : World) (n : Nat) (hn : n ≤ 64) : (Instr.makeSlice 58 (.int .i64 (n : Int)) (.int .i64 (n : Int))).run Try.prog w = .ok (.slice (some ⟨w.heap.size, 0, none⟩) n n) (w.alloc (.cells (madeCells zsn (n * 2)) 71)) := by
  obtain ⟨i0, hi0, hz0, hz1, hz2⟩ := info_parts Try.infoSess
  have hr := run_make (P := Try.prog) w 58 71 i0 _ Try.underlying58 hi0 hz0 .i64 .i64 n n (by omega) (by omega) (by rw [hz2]; omega) (by omega)
  have hc : (Value.agg zsn).cells = zsn := by rfl
  simp only [Int.toNat_natCast, hz1, hc] at hr
  exact hr
theorem made_get (n i : Nat) (hi : i < n) : (madeCells zsn (n * 2))[i * 2]? = some (.int .i64 0) ∧ (madeCells zsn (n * 2))[i * 2 + 1]? = some (.pointer none) := by
  unfold madeCells
  constructor
  · rw [Array.getElem?_map, Array.getElem?_range, if_pos (by omega)]
    simp only [Option.map_some]
    rw [show i * 2 % zsn.size = 0 by show i * 2 % 2 = 0; omega]
    rfl
  · rw [Array.getElem?_map, Array.getElem?_range, if_pos (by omega)]
    simp only [Option.map_some]
    rw [show (i * 2 + 1) % zsn.size = 1 by show (i * 2 + 1) % 2 = 1; omega]
    rfl
theorem Mk.new {w : World} {mb sb vb n : Nat} {fl : Int} {Fs : Nat → Prop} (h0 : 1 ≤ n) (h1 : n ≤ 64) (ho : w.heap[mb]? = some (.cells #[.int .i64 fl, .int .i64 0, .int .i64 0, .slice (some ⟨sb, 0, none⟩) n n, .pointer (some ⟨vb, 0, none⟩), .slice none 0 0] 62 (0, 0))) (hs : w.heap[sb]? = some (.cells (madeCells zsn (n * 2)) 71 (0, 0))) (hst : St Fs w vb []) (n1 : mb ≠ sb) (n2 : ¬ Fs mb) (n3 : ¬ Fs sb) : Mk (fun b => b = mb ∨ b = sb ∨ Fs b) w mb (newM n fl) := by
  obtain ⟨tg, eT⟩ : ∃ tg, tg = retag (retag (retag (fun _ => Tg.out) Fs .sto) (fun b => b = sb) .sess) (fun b => b = mb) .mach := ⟨_, rfl⟩
  have t1 : tg mb = .mach := by rw [eT, retag_in (X := fun b => b = mb) rfl]
  have t2 : tg sb = .sess := by rw [eT, retag_no (X := fun b => b = mb) (fun e => n1 e.symm), retag_in (X := fun b => b = sb) rfl]
  have t3 : ∀ b, Fs b → tg b = .sto := fun b hb => by rw [eT, retag_no (X := fun b => b = mb) (fun e => n2 (e ▸ hb)), retag_no (X := fun b => b = sb) (fun e => n3 (e ▸ hb)), retag_in (X := Fs) hb]
  have t4 : ∀ b, b ≠ mb → b ≠ sb → ¬ Fs b → tg b = .out := fun b h1 h2 h3 => by rw [eT, retag_no (X := fun b => b = mb) h1, retag_no (X := fun b => b = sb) h2, retag_no (X := Fs) h3]
  have t5 : ∀ b, (b = mb ∨ b = sb ∨ Fs b) ↔ tg b ≠ .out := fun b => by
    constructor
    · rintro (rfl | rfl | hb)
      · rw [t1]; exact fun e => by cases e
      · rw [t2]; exact fun e => by cases e
      · rw [t3 b hb]; exact fun e => by cases e
    · intro hb
      refine Classical.byContradiction fun hn => hb (t4 b (fun e => hn (.inl e)) (fun e => hn (.inr (.inl e))) (fun e => hn (.inr (.inr e))))
  refine ⟨Inv.new h0 h1 fl, tg, sb, vb, .slice none 0 0, fun _ => none, [], ⟨by rw [ho]; simp [newM], t1, ⟨_, hs, fun i hi => ?_⟩, t2, fun i a ha => ?_, fun _ _ => rfl, ?_, OwnT.nil _ _, fun b hb => (by cases hb), fun x hx => (by cases hx), rfl, fun b hb => ?_⟩, t5⟩
  · have := made_get n i (by simpa [newM] using hi)
    rw [at_new]
    exact this
  · rw [at_new] at ha
    cases ha
  · have e : (fun b => tg b = .sto) = Fs := by
      funext b
      refine propext ⟨fun hb => ?_, t3 b⟩
      refine Classical.byContradiction fun hn => ?_
      by_cases h1 : b = mb
      · rw [h1, t1] at hb; cases hb
      · by_cases h2 : b = sb
        · rw [h2, t2] at hb; cases hb
        · rw [t4 b h1 h2 hn] at hb; cases hb
    rw [e]
    exact hst
  · rcases (t5 b).2 hb with rfl | rfl | hb
    · exact lt_of_heap ho
    · exact lt_of_heap hs
    · exact hst.lt b hb
theorem new_fin {w w4 : World} {sb vb n : Nat} {fl : Int} {Fs : Nat → Prop} (h0 : 1 ≤ n) (h1 : n ≤ 64) (st : St Fs w4 vb []) (hs : w4.heap[sb]? = some (.cells (madeCells zsn (n * 2)) 71 (0, 0))) (hF : ∀ b, Fs b → w.heap.size ≤ b) (n3 : ¬ Fs sb) (hsw : w.heap.size ≤ sb) (k : Kept w w4) :
    Mk (fun b => b = w4.heap.size ∨ b = sb ∨ Fs b) (w4.alloc (.cells #[.int .i64 fl, .int .i64 0, .int .i64 0, .slice (some ⟨sb, 0, none⟩) n n, .pointer (some ⟨vb, 0, none⟩), .slice none 0 0] 62 (0, 0))) w4.heap.size (newM n fl) ∧ (∀ b, (b = w4.heap.size ∨ b = sb ∨ Fs b) → w.heap.size ≤ b) := by
  have hsl := lt_of_heap hs
  refine ⟨Mk.new h0 h1 (heap_new w4 _) ((heap_old _ _ hsl).trans hs) (st.on ((Same.refl _ _).alloc _)) (by omega) (fun e => by have := st.lt _ e; omega) n3, fun b hb => ?_⟩
  rcases hb with rfl | rfl | hb
  · exact k.size
  · exact hsw
  · exact hF b hb
/-- What New leaves. -/
def NewP (w : World) (n : Nat) (fl : Int) (e : Ending) (w' : World) : Prop := ∃ mb F, e = .returned (.tuple #[.pointer (some ⟨mb, 0, none⟩), .int .i64 0]) ∧ Mk F w' mb (newM n fl) ∧ (∀ b, F b → w.heap.size ≤ b) ∧ Kept w w'
set_option maxRecDepth 100000 in
set_option maxHeartbeats 1600000 in
theorem new15 (w : World) (n : Nat) (fl : Int) (h0 : 1 ≤ n) (h1 : n ≤ 64) (f0 : 0 ≤ fl) (f1 : fl ≤ 4) : Calls Try.prog 6 #[.int .i64 (n : Int), .int .i64 fl] w (NewP w n fl) := by
  have hmk := fun W => make_ses W n h1
  have d1 : ¬ (n : Int) < 1 := by omega
  have d2 : decide ((n : Int) < 1) = false := decide_eq_false d1
  have d3 : ¬ (64 : Int) < (n : Int) := by omega
  have d4 : decide ((64 : Int) < (n : Int)) = false := decide_eq_false d3
  have d5 : ¬ fl < 0 := by omega
  have d6 : decide (fl < 0) = false := decide_eq_false d5
  have d7 : ¬ 4 < fl := by omega
  have d8 : decide (4 < fl) = false := decide_eq_false d7
  have HN : Hid (∀ W, _) := fun W => new13 W
  have H0 : Hid (1 ≤ n ∧ n ≤ 64) := ⟨h0, h1⟩
  clear h0 h1 f0 f1
  unfold NewP
  go_enter Try.func6, Try.ntmps6
  go_upto_region 5 with fail
  go_region_with ((go_at_call 22; refine Calls.mono (HN.out _) ?_; rintro r w4 ⟨rfl, st4, k4⟩; have ST4 : Hid _ := st4; have K4 : Hid _ := k4; clear st4 k4))
  · go_wp2_with fail
    refine bodyPost_ret (results_tmp2 rfl _ _ _) rfl ?_
    have ez : (w.alloc (.cells (madeCells zsn (n * 2)) 71)).drew.heap.size = w.heap.size + 1 := World.size_alloc _ _
    have st : St _ w4 _ [] := ST4.out
    rw [ez] at st
    have k0 : Kept w w4 := Same.trans' ((Same.refl _ w).alloc _).drew K4.out
    have hs : w4.heap[w.heap.size]? = _ := (Same.block K4.out w.heap.size (by rw [ez]; omega) (fun e => e)).trans (heap_new w _)
    obtain ⟨m1, m2⟩ := new_fin (w := w) (fl := fl) H0.out.1 H0.out.2 st hs (fun b hb => by omega) (fun e => by omega) (Nat.le_refl _) k0
    exact ⟨_, _, rfl, m1, m2, k0.alloc _⟩
  · go_wp2_with fail
    refine bodyPost_ret (results_tmp2 rfl _ _ _) rfl ?_
    have st : St (fun b => w.heap.size ≤ b ∧ b < w.heap.size + 3) w4 (w.heap.size + 2) [] := ST4.out
    have k0 : Kept w w4 := Same.trans' ((Same.refl _ w).drew) K4.out
    obtain ⟨m1, m2⟩ := new_fin (w := w) (w4 := w4.alloc (.cells (madeCells zsn (n * 2)) 71)) (fl := fl) H0.out.1 H0.out.2 (st.on ((Same.refl _ _).alloc _)) (heap_new w4 _) (fun b hb => hb.1) (fun e => by have := st.lt _ e; omega) k0.size (k0.alloc _)
    rw [World.size_alloc] at m1 m2
    exact ⟨_, _, rfl, m1, m2, (k0.alloc _).alloc _⟩
/-- What is committed last of a key. -/
def valM (M : Mm) (k : ByteArray) : Vn := (atM (ch M.A k) M.clock).getD v0
set_option maxRecDepth 100000 in
set_option maxHeartbeats 1600000 in
theorem value15 {F : Nat → Prop} {w : World} {mb : Nat} {M : Mm} (h : Mk F w mb M) (k : ByteArray) (hk : k.size ≤ maxLen) : Calls Try.prog 11 #[.pointer (some ⟨mb, 0, none⟩), .string k] w fun e w' => e = .returned (.tuple #[.string (valM M k).v, .bool (valM M k).f]) ∧ Kept w w' := by
  obtain ⟨hv, tg, sb, vb, lv, P, L, hm, -⟩ := h
  obtain ⟨x, ex⟩ : ∃ x, valM M k = x := ⟨_, rfl⟩
  rw [ex]
  obtain ⟨bo, eb⟩ : ∃ bo, (atM (ch M.A k) M.clock).isSome = bo := ⟨_, rfl⟩
  have hA : M.A.length ≤ 65536 := by
    have h1 := hv.al
    have h2 := hv.cnt
    have h3 := hv.b1
    omega
  have HAT : Hid (∀ W, Kept w W → Calls Try.prog 24 #[.pointer (some ⟨vb, 0, none⟩), .string k, .int .i64 M.clock] W fun e w' => e = .returned (.tuple #[.agg #[.int .i64 x.c, .int .i64 x.w, .bool x.f, .string x.v], .bool bo]) ∧ Kept W w') := fun W k' => at_f (hm.on k').st k hk M.clock hA ex eb
  have HA3 : Hid (∀ W g0, W.heap[g0]? = some (.cells #[.int .i64 0, .int .i64 0, .bool false, .string ⟨#[]⟩] 75 (0, 0)) → Kept w W → Calls Try.prog 24 #[.pointer (some ⟨vb, 0, none⟩), .string k, .int .i64 M.clock] W fun e w' => e = .returned (.tuple #[.agg #[.int .i64 x.c, .int .i64 x.w, .bool x.f, .string x.v], .bool bo]) ∧ Kept W w' ∧ ((w'.cell? ⟨g0, 0, none⟩ = some (.int .i64 0) ∧ w'.cell? ⟨g0, 1, none⟩ = some (.int .i64 0) ∧ w'.cell? ⟨g0, 2, none⟩ = some (.bool false) ∧ w'.cell? ⟨g0, 3, none⟩ = some (.string ⟨#[]⟩)) ∧ w'.frozen? ⟨g0, 0, none⟩ = false ∧ w'.frozen? ⟨g0, 1, none⟩ = false ∧ w'.frozen? ⟨g0, 2, none⟩ = false ∧ w'.frozen? ⟨g0, 3, none⟩ = false) ∧ g0 < w'.heap.size ∧ w'.heap[g0]? = some (.cells #[.int .i64 0, .int .i64 0, .bool false, .string ⟨#[]⟩] 75 (0, 0))) := fun W g0 hg0 k' =>
    Calls.mono (HAT.out W k') fun e w' ⟨h1, h2⟩ => ⟨h1, h2, box_kept hg0 h2, Nat.lt_of_lt_of_le (lt_of_heap hg0) h2.size, (h2.block g0 (lt_of_heap hg0) (fun e => e)).trans hg0⟩
  have HBX : Hid (∀ W', Kept w W' → Kept w W' ∧ W'.cell? ⟨mb, 1, none⟩ = some (.int .i64 M.clock) ∧ W'.cell? ⟨mb, 4, none⟩ = some (.pointer (some ⟨vb, 0, none⟩))) := fun W' k' => by
    obtain ⟨-, ⟨-, c1, -, -, c4, -⟩, -⟩ := Mi.cells (hm.on k')
    exact ⟨k', c1, c4⟩
  obtain ⟨hmb, ⟨-, c1, -, -, c4, -⟩, -⟩ := Mi.cells hm
  clear hm hv ex eb hA hk
  generalize M.clock = cl at *
  go_enter Try.func11, Try.ntmps11
  go_upto_region 1 with fail
  go_cut [6, 7] (fun s6 s7 wx => ∃ g6, s6 = .pointer (some ⟨g6, 0, none⟩) ∧ wx.heap[g6]? = some (.cells #[.int .i64 x.c, .int .i64 x.w, .bool x.f, .string x.v] 75 (0, 0)) ∧ Kept w wx)
  case first =>
    go_region_held3 (fun W' => Kept w W' ∧ W'.cell? ⟨mb, 1, none⟩ = some (.int .i64 cl) ∧ W'.cell? ⟨mb, 4, none⟩ = some (.pointer (some ⟨vb, 0, none⟩)))
      (exact HBX.out _ (by (repeat (first | assumption | exact Same.refl _ _ | apply Same.alloc | apply Same.drew | apply Same.drewN | refine put4_same ?_ (.inl (Nat.le_refl _)) _ _ _ _ | refine Same.trans' ?_ kq)); done))
      (first
      | (go_at_call 24; refine Calls.mono (HA3.out _ w.heap.size ?_ ?_) ?_; (focus (exact heap_new _ _)); (focus ((repeat (first | exact Same.refl _ _ | apply Same.alloc | apply Same.drew | apply Same.drewN)); done)); rintro r w4 ⟨rfl, kq, ⟨⟨b0, b1, b2, b3⟩, f0, f1, f2, f3⟩, hl9, hg9⟩; have HG9 : Hid _ := hg9; clear hg9)
      | (go_at_call 24; refine Calls.mono (HAT.out _ ?_) ?_; (focus ((repeat (first | exact Same.refl _ _ | apply Same.alloc | apply Same.drew | apply Same.drewN)); done)); rintro r w4 ⟨rfl, kq⟩))
    all_goals
      go_wp2_with fail
      go_meet
      first
      | exact ⟨_, rfl, put4 HG9.out _ _ _ _, (by (repeat (first | exact Same.refl _ _ | apply Same.alloc | apply Same.drew | apply Same.drewN | refine put4_same ?_ (.inl (Nat.le_refl _)) _ _ _ _ | refine Same.trans' ?_ kq)); done)⟩
      | exact ⟨_, rfl, heap_new _ _, (by (repeat (first | exact Same.refl _ _ | apply Same.alloc | apply Same.drew | apply Same.drewN | refine put4_same ?_ (.inl (Nat.le_refl _)) _ _ _ _ | refine Same.trans' ?_ kq)); done)⟩
  case rest =>
    rename World => Z
    obtain ⟨g6, rfl, hg6, kz⟩ := hcut
    obtain ⟨⟨y0, y1, y2, y3⟩, -⟩ := ver_obj hg6
    have KZ : Hid (Kept w Z) := kz
    have hl6 := lt_of_heap hg6
    clear hg6 kz
    go_wp2_with fail
    go_quiet (fail)
    go_wp2_with fail
    refine bodyPost_ret (results_tmp2 rfl _ _ _) rfl ?_
    exact ⟨rfl, Same.drewN KZ.out _⟩
end Go.Proofs.Ytmghmacgljihcaa
