/- What is proved: the document's Insert answers as the plain list says, and puts the span in its place or leaves the forest as it is; its forest lies in memory. -/
import Derived.Test.YtaiaahcblohknaaYRfC
import Derived.Test.YtaiaahcblohknaaYIns
namespace Go.Proofs.Ytaiaahcblohknaa
open Go.RowKit

/-- Has it been placed? -/
def plc (A : List Ks) (x : Ks) : Bool := A.any fun e => sl x.s e.s
/-- What has been written so far. -/
def outI (A : List Ks) (x : Ks) : List Ks := if plc A x = true then rput A x else A
theorem rput_not {A : List Ks} {x : Ks} (h : plc A x = false) : rput A x = A ++ [x] := by
  induction A with
  | nil => rfl
  | cons a r ih =>
    have h1 : sl x.s a.s = false ∧ plc r x = false := by simpa [plc] using h
    unfold rput
    rw [if_neg (by rw [h1.1]; decide), ih h1.2]
    rfl
theorem rput_snoc {A : List Ks} {x e : Ks} (h : plc A x = true) : rput (A ++ [e]) x = rput A x ++ [e] := by
  induction A with
  | nil => simp [plc] at h
  | cons a r ih =>
    show rput (a :: (r ++ [e])) x = _
    unfold rput
    by_cases h1 : sl x.s a.s = true
    · rw [if_pos h1, if_pos h1]
      rfl
    · rw [if_neg h1, if_neg h1, ih (by simpa [plc, h1] using h)]
      rfl
theorem rput_now {A : List Ks} {x e : Ks} (h : plc A x = false) (he : sl x.s e.s = true) : rput (A ++ [e]) x = A ++ [x] ++ [e] := by
  induction A with
  | nil => simp [rput, he]
  | cons a r ih =>
    have h1 : sl x.s a.s = false ∧ plc r x = false := by simpa [plc] using h
    show rput (a :: (r ++ [e])) x = _
    unfold rput
    rw [if_neg (by rw [h1.1]; decide), ih h1.2]
    rfl
theorem plc_snoc (A : List Ks) (x e : Ks) : plc (A ++ [e]) x = (plc A x || sl x.s e.s) := by simp [plc]
theorem outI_old {A : List Ks} {x e : Ks} (h : plc A x = true) : outI (A ++ [e]) x = outI A x ++ [e] ∧ plc (A ++ [e]) x = true := by
  have h2 : plc (A ++ [e]) x = true := by rw [plc_snoc, h]; rfl
  exact ⟨by unfold outI; rw [if_pos h2, if_pos h, rput_snoc h], h2⟩
theorem outI_now {A : List Ks} {x e : Ks} (h : plc A x = false) (he : sl x.s e.s = true) : outI (A ++ [e]) x = outI A x ++ [x] ++ [e] ∧ plc (A ++ [e]) x = true := by
  have h2 : plc (A ++ [e]) x = true := by rw [plc_snoc, he]; simp
  exact ⟨by unfold outI; rw [if_pos h2, if_neg (by rw [h]; decide), rput_now h he], h2⟩
theorem outI_not {A : List Ks} {x e : Ks} (h : plc A x = false) (he : sl x.s e.s = false) : outI (A ++ [e]) x = outI A x ++ [e] ∧ plc (A ++ [e]) x = false := by
  have h2 : plc (A ++ [e]) x = false := by rw [plc_snoc, he, h]; rfl
  exact ⟨by unfold outI; rw [if_neg (by rw [h2]; decide), if_neg (by rw [h]; decide)], h2⟩
theorem outI_length (A : List Ks) (x : Ks) : (outI A x).length ≤ A.length + 1 := by
  unfold outI
  split
  · rw [rput_length]; exact Nat.le_refl _
  · omega
theorem take_snoc {A : List Ks} {j : Nat} {e : Ks} (he : A[j]? = some e) : A.take (j + 1) = A.take j ++ [e] := by rw [List.take_add_one, he]; rfl
theorem isE_mem {A : List Ks} {k : ByteArray} {x : Sp} : x ∈ kf A k ↔ ∃ e ∈ A, isE k x e = true := by
  unfold kf
  rw [List.mem_map]
  constructor
  · rintro ⟨e, he, rfl⟩
    obtain ⟨h1, h2⟩ := List.mem_filter.1 he
    exact ⟨e, h1, by simp [isE, beq_iff_eq.1 h2]⟩
  · rintro ⟨e, he, h⟩
    have h1 : e.key.toList = k.toList ∧ e.s = x := by simpa [isE] using h
    exact ⟨e, List.mem_filter.2 ⟨he, by simp [h1.1]⟩, h1.2⟩
set_option maxRecDepth 100000 in
set_option maxHeartbeats 3200000 in
theorem rinsert14 {G : Nat → Prop} {w : World} {rb : Nat} {A : List Ks} (h : RFo G w rb A) (k : ByteArray) (hk : k.size ≤ maxLen) (x : Sp) (hn : A.length + 3 ≤ 5000000000000) :
    Calls Try.prog 18 #[.pointer (some ⟨rb, 0, none⟩), ksV ⟨k, x⟩] w fun r w' => r = .returned (.int .i64 (codeI A k x)) ∧ RStp G w rb (insI A k x) w' := by
  have HK0 : Hid _ := (Same.refl (fun _ => False) w).alloc (ksO ⟨k, x⟩)
  have HG : Hid _ := heap_new w (ksO ⟨k, x⟩)
  have HS : Hid _ := h
  have hks : (k.size : Int) ≤ 9223372036854775807 := by unfold maxLen at hk; omega
  have HNO : Hid (codeI A k x ≠ 0 → insI A k x = A) := fun hne => by unfold insI; rw [if_neg hne]
  obtain ⟨va, hob, how, -⟩ := (h.on HK0.out).ex
  obtain ⟨a, cap, rfl, hens, -⟩ := OwnK.at how
  have y0 : (w.alloc (ksO ⟨k, x⟩)).cell? ⟨rb, 0, none⟩ = some (.slice a A.length cap) := (cell_of hob 0).trans rfl
  have hrl := lt_of_heap hob
  have HEN : Hid _ := hens
  obtain ⟨n, en⟩ : ∃ n, n = A.length := ⟨_, rfl⟩
  rw [← en] at hn y0
  have EN : Hid _ := en
  clear hob how hens h en hk
  generalize hcd : codeI A k x = cd at *
  generalize hin : insI A k x = B at *
  have HCD : Hid (codeI A k x = cd) := hcd
  have HIN : Hid (insI A k x = B) := hin
  clear hcd hin
  obtain ⟨xf, xt, xi⟩ := x
  go_enter Try.func18, Try.ntmps18
  go_upto_region 1 with fail
  generalize w.alloc (ksO ⟨k, ⟨xf, xt, xi⟩⟩) = W at *
  generalize hgg : w.heap.size = g at HG ⊢
  have HGW : Hid _ := hgg
  clear hgg
  have hgl := lt_of_heap HG.out
  obtain ⟨x0, x1, x2, x3⟩ := ks_obj HG.out
  by_cases h1 : rightK k = false
  · have EC : Hid (cd = 130) := (show codeI A k _ = cd from HCD.out).symm.trans (by unfold codeI; rw [if_pos h1])
    have h1' : ¬ (0 < k.size ∧ k.size ≤ 8) := by simpa [rightK] using h1
    have EB : Hid (B = A) := HNO.out (by rw [show cd = 130 from EC.out]; decide)
    clear h1 HNO
    by_cases h0 : k.size = 0
    · have e0 : (k.size : Int) < 1 := by omega
      have e1 : decide ((k.size : Int) < 1) = true := decide_eq_true e0
      have e2 : k = ByteArray.empty := ByteArray.size_eq_zero_iff.1 h0
      clear h1'
      go_wp2_with fail
      go_ret
      exact ⟨by rw [show cd = 130 from EC.out]; rfl, by rw [show B = A from EB.out]; exact RStp.stays HS.out HK0.out⟩
    · have e0 : ¬ (k.size : Int) < 1 := by omega
      have e1 : decide ((k.size : Int) < 1) = false := decide_eq_false e0
      have e2 : (8 : Int) < (k.size : Int) := by omega
      have e3 : decide ((8 : Int) < (k.size : Int)) = true := decide_eq_true e2
      have e4 : ¬ k = ByteArray.empty := fun e9 => h0 (by rw [e9]; rfl)
      clear h1'
      go_wp2_with fail
      go_ret
      exact ⟨by rw [show cd = 130 from EC.out]; rfl, by rw [show B = A from EB.out]; exact RStp.stays HS.out HK0.out⟩
  · have h1' : 0 < k.size ∧ k.size ≤ 8 := by simpa [rightK] using h1
    have e0 : ¬ (k.size : Int) < 1 := by omega
    have e1 : decide ((k.size : Int) < 1) = false := decide_eq_false e0
    have e2 : ¬ (8 : Int) < (k.size : Int) := by omega
    have e3 : decide ((8 : Int) < (k.size : Int)) = false := decide_eq_false e2
    have e4 : ¬ k = ByteArray.empty := fun e9 => by rw [e9] at h1'; simp at h1'
    have e5 : ¬ (k.size = 0) := by omega
    clear h1'
    by_cases h2 : rightS ⟨xf, xt, xi⟩ = false
    · have EC : Hid (cd = 140) := (show codeI A k _ = cd from HCD.out).symm.trans (by unfold codeI; rw [if_neg h1, if_pos h2])
      have EB : Hid (B = A) := HNO.out (by rw [show cd = 140 from EC.out]; decide)
      have HW2 : Hid (¬ (0 ≤ xf ∧ xf ≤ xt ∧ xt ≤ 1099511627776 ∧ 0 ≤ xi ∧ xi < 4096)) := fun h9 => by simp [rightS, h9] at h2
      clear h1 h2 HNO
      go_upto_region 5 with fail
      all_goals first
        | (go_ret; exact ⟨by rw [show cd = 140 from EC.out]; rfl, by rw [show B = A from EB.out]; exact RStp.stays HS.out HK0.out⟩)
        | (exfalso; exact HW2.out ⟨by omega, by omega, by omega, by omega, by omega⟩)
    · have h2' : 0 ≤ xf ∧ xf ≤ xt ∧ xt ≤ 1099511627776 ∧ 0 ≤ xi ∧ xi < 4096 := by simpa [rightS] using h2
      obtain ⟨r1, r2, r3, r4, r5⟩ := h2'
      have a1 : ¬ xf < 0 := by omega
      have a2 : decide (xf < 0) = false := decide_eq_false a1
      have a3 : ¬ (1099511627776 : Int) < xt := by omega
      have a4 : decide ((1099511627776 : Int) < xt) = false := decide_eq_false a3
      have a5 : ¬ xt < xf := by omega
      have a6 : decide (xt < xf) = false := decide_eq_false a5
      have a7 : ¬ xi < 0 := by omega
      have a8 : decide (xi < 0) = false := decide_eq_false a7
      have a9 : ¬ (4095 : Int) < xi := by omega
      have a10 : decide ((4095 : Int) < xi) = false := decide_eq_false a9
      have HC2 : Hid (Sp.mk xf xt xi ∈ kf A k → cd = 141) := fun h9 => by
        rw [← show codeI A k _ = cd from HCD.out]
        unfold codeI
        rw [if_neg h1, if_neg h2, if_pos h9]
      have HC0 : Hid (Sp.mk xf xt xi ∉ kf A k → cd = 0 ∧ B = rput A ⟨k, ⟨xf, xt, xi⟩⟩) := fun h9 => by
        have e9 : codeI A k ⟨xf, xt, xi⟩ = 0 := by
          unfold codeI
          rw [if_neg h1, if_neg h2, if_neg h9]
        exact ⟨by rw [← show codeI A k _ = cd from HCD.out, e9], by rw [← show insI A k _ = B from HIN.out]; unfold insI; rw [if_pos e9]⟩
      clear r1 r2 r3 r4 r5 h1 h2 HCD HIN
      go_wp2_with fail
      clear a1 a2 a3 a4 a5 a6 a7 a8 a9 a10 e0 e1 e2 e3 e4 e5 hks x0 x1 x2 x3
      go_loopw [5, 6, 7] (fun s5 s6 s7 wr => ∃ j : Nat, j ≤ n ∧ s7 = .int .i64 j ∧ s6 = .bool (plc (A.take j) ⟨k, ⟨xf, xt, xi⟩⟩) ∧ OwnK W.heap.size wr s5 (outI (A.take j) ⟨k, ⟨xf, xt, xi⟩⟩) ∧ (∃ a' n' c', s5 = .slice a' n' c') ∧ Kept W wr ∧ ∀ e ∈ A.take j, isE k ⟨xf, xt, xi⟩ e = false) (fun _ _ s7 _ => n - (intOf s7).toNat)
      case atStart => exact ⟨0, Nat.zero_le _, rfl, rfl, OwnK.nil _ _, ⟨_, _, _, rfl⟩, Same.refl _ _, fun e he => by simp at he⟩
      case round =>
        obtain ⟨j, hj, rfl, rfl, ho, ⟨a', n', c', rfl⟩, kk, hno⟩ := hrel
        have KK : Hid (Kept W wr) := kk
        have HO : Hid (OwnK W.heap.size wr _ (outI (A.take j) ⟨k, ⟨xf, xt, xi⟩⟩)) := ho
        have HNX : Hid (∀ e ∈ A.take j, isE k ⟨xf, xt, xi⟩ e = false) := hno
        have HLN : Hid ((outI (A.take j) ⟨k, ⟨xf, xt, xi⟩⟩).length ≤ n + 1) := by
          have h9 := outI_length (A.take j) ⟨k, ⟨xf, xt, xi⟩⟩
          rw [List.length_take, ← show n = A.length from EN.out] at h9
          have h8 : (outI (A.take j) ⟨k, ⟨xf, xt, xi⟩⟩).length ≤ n + 1 := by omega
          exact h8
        have z0 : wr.cell? ⟨rb, 0, none⟩ = some (.slice a n cap) := (kk.cell (p := ⟨rb, 0, none⟩) hrl (fun e => e)).trans y0
        have zl : rb < wr.heap.size := Nat.lt_of_lt_of_le hrl kk.size
        have hgo := (kk.block g hgl (fun e => e)).trans HG.out
        have HGO : Hid _ := hgo
        obtain ⟨u0, u1, u2, u3⟩ := ks_obj hgo
        have ugl := lt_of_heap hgo
        clear kk ho hgo hno
        generalize hpl : plc (A.take j) ⟨k, ⟨xf, xt, xi⟩⟩ = pl at *
        have HPL : Hid (plc (A.take j) ⟨k, ⟨xf, xt, xi⟩⟩ = pl) := hpl
        clear hpl
        by_cases hlt : j < n
        · have c1 : decide ((j : Int) < (n : Int)) = true := by simp only [decide_eq_true_eq]; omega
          have hlt2 : (j : Int) < (n : Int) := by omega
          have hlt3 : (0 : Int) ≤ (j : Int) := by omega
          obtain ⟨e, he⟩ : ∃ e, A[j]? = some e := ⟨_, List.getElem?_eq_getElem (by rw [← show n = A.length from EN.out]; exact hlt)⟩
          obtain ⟨b, off, rfl, hb, q0, q1, q2, q3⟩ := (KsAt.on HEN.out KK.out) j e he
          have HTK : Hid (A.take (j + 1) = A.take j ++ [e]) := take_snoc he
          have HEM : Hid (e ∈ A) := List.mem_of_getElem? he
          have HE : Hid (A[j]? = some e) := he
          have nq := eql_ks e ⟨k, ⟨xf, xt, xi⟩⟩
          simp only at nq
          have HAP : Hid (∀ (l : List Ks) (v : Value) (y : Ks) (W1 : World), OwnK W.heap.size W1 v l → Kept W W1 → l.length ≤ n + 2 → ∀ W', Kept W1 W' → ∀ g', W'.heap[g']? = some (ksO y) → ∀ ty, _) := fun l v y W1 ho k1 hl W' k' g' hg' ty => app_since y ho k1 (by omega) W' k' (g := g') hg' ty
          clear he
          have HHN : Hid (isE k ⟨xf, xt, xi⟩ e = false → ∀ y ∈ A.take (j + 1), isE k ⟨xf, xt, xi⟩ y = false) := fun h9 y hy => by
            rw [show A.take (j + 1) = _ from HTK.out] at hy
            rcases List.mem_append.1 hy with h8 | h8
            · exact HNX.out y h8
            · rw [List.mem_singleton.1 h8]; exact h9
          cases hq : isE k ⟨xf, xt, xi⟩ e
          · rw [hq] at nq
            have HHN2 : Hid _ := HHN.out hq
            have HBX : Hid (∀ W', Kept wr W' → Kept wr W' ∧ W'.cell? ⟨rb, 0, none⟩ = some (.slice (some ⟨b, off, none⟩) n cap) ∧ (W'.cell? ⟨g, 0, none⟩ = some (.string k) ∧ W'.cell? ⟨g, 1, none⟩ = some (.int .i64 xf) ∧ W'.cell? ⟨g, 2, none⟩ = some (.int .i64 xt) ∧ W'.cell? ⟨g, 3, none⟩ = some (.int .i64 xi)) ∧ (W'.cell? ⟨b, off + j * 4, none⟩ = some (.string e.key) ∧ W'.cell? ⟨b, off + j * 4 + 1, none⟩ = some (.int .i64 e.s.f) ∧ W'.cell? ⟨b, off + j * 4 + 2, none⟩ = some (.int .i64 e.s.t) ∧ W'.cell? ⟨b, off + j * 4 + 3, none⟩ = some (.int .i64 e.s.i))) := fun W' k' =>
              ⟨k', (k'.cell (p := ⟨rb, 0, none⟩) zl (fun e => e)).trans z0, ⟨(k'.cell (p := ⟨g, 0, none⟩) ugl (fun e => e)).trans u0, (k'.cell (p := ⟨g, 1, none⟩) ugl (fun e => e)).trans u1, (k'.cell (p := ⟨g, 2, none⟩) ugl (fun e => e)).trans u2, (k'.cell (p := ⟨g, 3, none⟩) ugl (fun e => e)).trans u3⟩, ⟨(k'.cell (p := ⟨b, _, none⟩) hb (fun e => e)).trans q0, (k'.cell (p := ⟨b, _, none⟩) hb (fun e => e)).trans q1, (k'.cell (p := ⟨b, _, none⟩) hb (fun e => e)).trans q2, (k'.cell (p := ⟨b, _, none⟩) hb (fun e => e)).trans q3⟩⟩
            have HLK : Hid (∀ W', Kept wr W' → rb < W'.heap.size ∧ g < W'.heap.size ∧ b < W'.heap.size) := fun W' k' => ⟨Nat.lt_of_lt_of_le zl k'.size, Nat.lt_of_lt_of_le ugl k'.size, Nat.lt_of_lt_of_le hb k'.size⟩
            have HA1 : Hid (∀ W', Calls Try.prog 35 #[.agg #[.string k, .int .i64 xf, .int .i64 xt, .int .i64 xi], .agg #[.string e.key, .int .i64 e.s.f, .int .i64 e.s.t, .int .i64 e.s.i]] W' fun r w' => r = .returned (.bool (sl ⟨xf, xt, xi⟩ e.s)) ∧ Kept W' w') := fun W' => ahead14 ⟨k, ⟨xf, xt, xi⟩⟩ e W'
            obtain ⟨sv, esv⟩ : ∃ sv, sv = sl ⟨xf, xt, xi⟩ e.s := ⟨_, rfl⟩
            rw [← esv] at HA1
            have ESV : Hid (sv = sl ⟨xf, xt, xi⟩ e.s) := esv
            clear hq HHN esv
            go_upto_region 10 with fail
            go_cut [60] (fun s60 wx => s60 = .bool false ∧ Kept wr wx)
            case first =>
              go_quiet (fail)
              go_wp2_with fail
              go_meet
              exact ⟨rfl, Same.drewN (Same.refl _ _) _⟩
            case rest =>
              obtain ⟨rfl, kx⟩ := hcut
              rename World => X
              have KX : Hid (Kept wr X) := kx
              clear z0 zl u0 u1 u2 u3 ugl q0 q1 q2 q3 hb nq
              obtain ⟨-, z0, ⟨u0, u1, u2, u3⟩, ⟨q0, q1, q2, q3⟩⟩ := HBX.out X kx
              obtain ⟨zl, ugl, hb⟩ := HLK.out X kx
              have HBY : Hid (∀ W', Kept X W' → _) := fun W' k' => HBX.out W' (Same.trans' KX.out k')
              clear kx
              go_upto_region 12 with fail
              cases pl
              · go_cut [73] (fun s73 wx => s73 = .bool sv ∧ Kept X wx)
                case first =>
                  go_region_held3 (fun W' => Kept X W' ∧ W'.cell? ⟨rb, 0, none⟩ = some (.slice (some ⟨b, off, none⟩) n cap) ∧ (W'.cell? ⟨g, 0, none⟩ = some (.string k) ∧ W'.cell? ⟨g, 1, none⟩ = some (.int .i64 xf) ∧ W'.cell? ⟨g, 2, none⟩ = some (.int .i64 xt) ∧ W'.cell? ⟨g, 3, none⟩ = some (.int .i64 xi)) ∧ (W'.cell? ⟨b, off + j * 4, none⟩ = some (.string e.key) ∧ W'.cell? ⟨b, off + j * 4 + 1, none⟩ = some (.int .i64 e.s.f) ∧ W'.cell? ⟨b, off + j * 4 + 2, none⟩ = some (.int .i64 e.s.t) ∧ W'.cell? ⟨b, off + j * 4 + 3, none⟩ = some (.int .i64 e.s.i)))
                    (refine ⟨?_, (HBY.out _ ?_).2⟩ <;> ((repeat (first | exact Same.refl _ _ | apply Same.alloc | apply Same.drew | apply Same.drewN | refine Same.trans' ?_ kq)); done))
                    ((go_at_call 35; refine Calls.mono (HA1.out _) ?_; rintro r w2 ⟨rfl, kq⟩))
                  all_goals
                    go_wp2_with fail
                    go_meet
                    exact ⟨rfl, (by (repeat (first | exact Same.refl _ _ | apply Same.alloc | apply Same.drew | apply Same.drewN | refine Same.trans' ?_ kq)); done)⟩
                case rest =>
                  obtain ⟨rfl, ky⟩ := hcut
                  rename World => Y
                  have KY : Hid (Kept wr Y) := Same.trans' KX.out ky
                  clear z0 zl u0 u1 u2 u3 ugl q0 q1 q2 q3 hb
                  obtain ⟨-, z0, ⟨u0, u1, u2, u3⟩, ⟨q0, q1, q2, q3⟩⟩ := HBX.out Y KY.out
                  obtain ⟨zl, ugl, hb⟩ := HLK.out Y KY.out
                  clear ky
                  cases sv
                  · have ho9 := outI_not (e := e) (show plc (A.take j) ⟨k, ⟨xf, xt, xi⟩⟩ = false from HPL.out) ESV.out.symm
                    have HN1 : Hid _ := ho9.1
                    have HN2 : Hid _ := ho9.2
                    have HAP1 : Hid _ := HAP.out _ _ e wr HO.out KK.out (by have h9 : (outI (A.take j) ⟨k, ⟨xf, xt, xi⟩⟩).length ≤ n + 1 := HLN.out; omega)
                    clear ho9 HAP
                    go_wp2_with (at_builtin; refine wpList_app rfl (.tmp 78) (.tmp 86) 27 rfl _ _ rfl rfl _ (HAP1.out _ (by (repeat (first | exact KY.out | apply Same.alloc | apply Same.drew | apply Same.drewN)); done) _ (by exact heap_new _ _)) ?_; rintro v4 w4 ⟨o4, ⟨a4, n4, c4, rfl⟩, k4, s4⟩)
                    go_roundw
                    case rel => exact ⟨j + 1, by omega, by simp, by rw [show A.take (j + 1) = _ from HTK.out, show plc (A.take j ++ [e]) _ = _ from HN2.out], by rw [show A.take (j + 1) = _ from HTK.out, show outI (A.take j ++ [e]) _ = _ from HN1.out]; exact o4, ⟨_, _, _, rfl⟩, k4, HHN2.out⟩
                    case measure => simp only [intOf]; omega
                  · have ho9 := outI_now (e := e) (show plc (A.take j) ⟨k, ⟨xf, xt, xi⟩⟩ = false from HPL.out) ESV.out.symm
                    have HN1 : Hid _ := ho9.1
                    have HN2 : Hid _ := ho9.2
                    have HAP1 : Hid _ := HAP.out _ _ ⟨k, ⟨xf, xt, xi⟩⟩ wr HO.out KK.out (by have h9 : (outI (A.take j) ⟨k, ⟨xf, xt, xi⟩⟩).length ≤ n + 1 := HLN.out; omega)
                    clear ho9
                    go_wp2_with (at_builtin; apply Hid.out)
                    refine wpList_app rfl (.tmp 74) (.tmp 76) 27 rfl _ _ rfl rfl _ (HAP1.out _ (by (repeat (first | exact KY.out | apply Same.alloc | apply Same.drew | apply Same.drewN)); done) _ (by exact heap_new _ _)) ?_
                    rintro v4 w4 ⟨o4, ⟨a4, n4, c4, rfl⟩, k4, s4⟩
                    have HAP2 : Hid _ := HAP.out _ _ e w4 o4 k4 (by rw [List.length_append]; have h9 : (outI (A.take j) ⟨k, ⟨xf, xt, xi⟩⟩).length ≤ n + 1 := HLN.out; simp only [List.length_cons, List.length_nil]; omega)
                    clear z0 zl u0 u1 u2 u3 ugl q0 q1 q2 q3 hb
                    obtain ⟨b3, off3, eb3, hb, q0, q1, q2, q3⟩ := (KsAt.on HEN.out k4) j e HE.out
                    cases eb3
                    have z0 : w4.cell? ⟨rb, 0, none⟩ = some (.slice (some ⟨b, off, none⟩) n cap) := (k4.cell (p := ⟨rb, 0, none⟩) hrl (fun e => e)).trans y0
                    have zl : rb < w4.heap.size := Nat.lt_of_lt_of_le hrl k4.size
                    clear o4 s4 HAP HAP1 k4
                    go_wp2_with (at_builtin; apply Hid.out)
                    refine wpList_app rfl (.tmp 78) (.tmp 86) 27 rfl _ _ rfl rfl _ (HAP2.out _ (by (repeat (first | exact Same.refl _ _ | apply Same.alloc | apply Same.drew | apply Same.drewN)); done) _ (by exact heap_new _ _)) ?_
                    rintro v5 w5 ⟨o5, ⟨a5, n5, c5, rfl⟩, k5, s5⟩
                    go_wp2_with fail
                    go_roundw
                    case rel => exact ⟨j + 1, by omega, by simp, by rw [show A.take (j + 1) = _ from HTK.out, show plc (A.take j ++ [e]) _ = _ from HN2.out], by rw [show A.take (j + 1) = _ from HTK.out, show outI (A.take j ++ [e]) _ = _ from HN1.out]; exact o5, ⟨_, _, _, rfl⟩, k5, HHN2.out⟩
                    case measure => simp only [intOf]; omega
              · have ho9 := outI_old (e := e) (show plc (A.take j) ⟨k, ⟨xf, xt, xi⟩⟩ = true from HPL.out)
                have HN1 : Hid _ := ho9.1
                have HN2 : Hid _ := ho9.2
                have HAP1 : Hid _ := HAP.out _ _ e wr HO.out KK.out (by have h9 : (outI (A.take j) ⟨k, ⟨xf, xt, xi⟩⟩).length ≤ n + 1 := HLN.out; omega)
                clear ho9 HAP
                go_quiet (fail)
                go_wp2_with (at_builtin; apply Hid.out)
                refine wpList_app rfl (.tmp 78) (.tmp 86) 27 rfl _ _ rfl rfl _ (HAP1.out _ (by (repeat (first | exact KX.out | apply Same.alloc | apply Same.drew | apply Same.drewN)); done) _ (by exact heap_new _ _)) ?_
                rintro v4 w4 ⟨o4, ⟨a4, n4, c4, rfl⟩, k4, s4⟩
                go_wp2_with fail
                go_roundw
                case rel => exact ⟨j + 1, by omega, by simp, by rw [show A.take (j + 1) = _ from HTK.out, show plc (A.take j ++ [e]) _ = _ from HN2.out], by rw [show A.take (j + 1) = _ from HTK.out, show outI (A.take j ++ [e]) _ = _ from HN1.out]; exact o4, ⟨_, _, _, rfl⟩, k4, HHN2.out⟩
                case measure => simp only [intOf]; omega
          · rw [hq] at nq
            have EC : Hid (cd = 141) := HC2.out (isE_mem.2 ⟨e, HEM.out, hq⟩)
            clear hq HHN HAP
            go_upto_region 10 with fail
            go_quiet (fail)
            go_wp2_with fail
            go_ret
            exact ⟨by rw [show cd = 141 from EC.out]; rfl, by rw [show B = A from HNO.out (by rw [show cd = 141 from EC.out]; decide)]; exact RStp.stays HS.out (Same.drewN (Same.trans' HK0.out KK.out) _)⟩
        · have c1 : decide ((j : Int) < (n : Int)) = false := by simp only [decide_eq_false_iff_not]; omega
          obtain rfl : n = j := by omega
          have etk : A.take n = A := by rw [show n = A.length from EN.out]; exact List.take_length
          have hnx := HNX.out
          rw [etk] at hnx
          obtain ⟨ec, eb⟩ := HC0.out (fun h9 => by
            obtain ⟨y, hy, h8⟩ := isE_mem.1 h9
            rw [hnx y hy] at h8
            cases h8)
          have EC : Hid (cd = 0) := ec
          have EB : Hid (B = rput A ⟨k, ⟨xf, xt, xi⟩⟩) := eb
          have ho2 := HO.out
          rw [etk] at ho2
          have hpl2 : plc A ⟨k, ⟨xf, xt, xi⟩⟩ = pl := by rw [← etk]; exact HPL.out
          clear hnx ec eb etk HNX HO HC0 HC2 HPL
          cases pl
          · have eo : outI A ⟨k, ⟨xf, xt, xi⟩⟩ = A := by unfold outI; rw [if_neg (by rw [hpl2]; decide)]
            rw [eo] at ho2
            have ER : Hid (B = A ++ [⟨k, ⟨xf, xt, xi⟩⟩]) := EB.out.trans (rput_not hpl2)
            have HAP1 : Hid (∀ W', Kept wr W' → ∀ g', W'.heap[g']? = some (ksO ⟨k, ⟨xf, xt, xi⟩⟩) → ∀ ty, _) := fun W' k' g' hg' ty => app_since ⟨k, ⟨xf, xt, xi⟩⟩ ho2 KK.out (by rw [← show n = A.length from EN.out]; omega) W' k' (g := g') hg' ty
            clear eo ho2 hpl2
            go_wp2_with (at_builtin; apply Hid.out)
            refine wpList_app rfl (.tmp 90) (.tmp 92) 27 rfl _ _ rfl rfl _ (HAP1.out _ (by (repeat (first | exact Same.refl _ _ | apply Same.alloc | apply Same.drew | apply Same.drewN)); done) _ (by exact heap_new _ _)) ?_
            rintro v4 w4 ⟨o4, ⟨a4, n4, c4, rfl⟩, k4, s4⟩
            obtain ⟨⟨u, hu⟩, hf, hrb, hst⟩ := RFo.lay HS.out (Same.trans' HK0.out k4) (OwnK.low o4 HK0.out.size)
            have HST : Hid _ := hst
            clear hst o4 s4 k4 HAP1 z0 zl u0 u1 u2 u3 ugl
            go_wp2_with fail
            go_ret
            exact ⟨by rw [show cd = 0 from EC.out]; rfl, by rw [show B = _ from ER.out]; exact HST.out⟩
          · have eo : outI A ⟨k, ⟨xf, xt, xi⟩⟩ = rput A ⟨k, ⟨xf, xt, xi⟩⟩ := by unfold outI; rw [if_pos hpl2]
            rw [eo] at ho2
            obtain ⟨⟨u, hu⟩, hf, hrb, hst⟩ := RFo.lay HS.out (Same.trans' HK0.out KK.out) (OwnK.low ho2 HK0.out.size)
            have HST : Hid _ := hst
            clear hst ho2 eo hpl2
            go_wp2_with fail
            go_ret
            exact ⟨by rw [show cd = 0 from EC.out]; rfl, by rw [show B = _ from EB.out]; exact HST.out⟩
end Go.Proofs.Ytaiaahcblohknaa
