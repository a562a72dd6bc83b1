/- What is proved: the document's Install answers as the chains say, and lays the version behind all or leaves the store as it is; the store lies in memory. -/
import Derived.Test.YtnjpbagfbklofaaCRefA
namespace Go.Proofs.Ytnjpbagfbklofaa
open Go.RowKit

theorem stale_any (A : List En) (k : ByteArray) (x : Vn) : stale (ch A k) x = A.any fun e => isK k e && !gt x e.x := by
  unfold stale ch
  rw [List.any_map, List.any_filter]
  rfl
/-- What the document's Install leaves. -/
def RInsP (G : Nat → Prop) (w : World) (rb : Nat) (A' : List En) (w' : World) : Prop := ∃ G', RSt G' w' rb A' ∧ (∀ b, G' b → G b ∨ w.heap.size ≤ b) ∧ Same G w w'
theorem RInsP.stays {G : Nat → Prop} {w w' : World} {rb : Nat} {A : List En} (h : RSt G w rb A) (k : Kept w w') : RInsP G w rb A w' := ⟨G, h.on k, fun _ hb => .inl hb, k.to G⟩
theorem rightV_iff (x : Vn) : rightV x = true ↔ (0 ≤ x.c ∧ x.c ≤ 1099511627776 ∧ 0 ≤ x.w ∧ x.w < 4096 ∧ x.v.size ≤ 16 ∧ (x.f = true ∨ x.v.size = 0)) := by simp [rightV]
set_option maxRecDepth 100000 in
set_option maxHeartbeats 800000 in
theorem rinstall13 {G : Nat → Prop} {w : World} {rb : Nat} {A : List En} (h : RSt G w rb A) (k : ByteArray) (hk : k.size ≤ maxLen) (x : Vn) (hn : A.length + 1 ≤ 3909374676537) :
    Calls Try.prog 21 #[.pointer (some ⟨rb, 0, none⟩), enV ⟨k, x⟩] w fun e w' => e = .returned (.int .i64 (code A k x)) ∧ RInsP G w rb (inst A k x) w' := by
  have HK0 : Hid _ := (Same.refl (fun _ => False) w).alloc (.cells #[.string k, .int .i64 x.c, .int .i64 x.w, .bool x.f, .string x.v] 52 (0, 0))
  have HG : Hid _ := heap_new w (.cells #[.string k, .int .i64 x.c, .int .i64 x.w, .bool x.f, .string x.v] 52 (0, 0))
  have HS : Hid _ := h
  clear h
  have hks : (k.size : Int) ≤ 9223372036854775807 := by unfold maxLen at hk; omega
  generalize hcd : code A k x = cd
  generalize hin : inst A k x = B
  have HCD : Hid _ := hcd
  have HIN : Hid _ := hin
  clear hcd hin hk
  have HNO : Hid (cd ≠ 0 → B = A) := fun hne => by
    rw [← show inst A k x = B from HIN.out]
    unfold Ytnjpbagfbklofaa.inst
    rw [if_neg (by rw [show code A k x = cd from HCD.out]; exact hne)]
  go_enter Try.func21, Try.ntmps21
  go_upto_region 1 with fail
  generalize w.alloc (.cells #[.string k, .int .i64 x.c, .int .i64 x.w, .bool x.f, .string x.v] 52 (0, 0)) = W at HK0 HG ⊢
  generalize hgg : w.heap.size = g at HG ⊢
  have HGW : Hid _ := hgg
  clear hgg
  obtain ⟨⟨x0, x1, x2, x3, x4⟩, -⟩ := en_obj HG.out
  have hgl := lt_of_heap HG.out
  by_cases h1 : rightK k = false
  · have EC : Hid (cd = 130) := (show code A k x = cd from HCD.out).symm.trans (by unfold code; rw [if_pos h1])
    have h1' : ¬ (0 < k.size ∧ k.size ≤ 8) := by simpa [rightK] using h1
    have EB : Hid (B = A) := HNO.out (by rw [show cd = 130 from EC.out]; decide)
    clear h1 HNO
    by_cases h0 : k.size = 0
    · have e0 : (k.size : Int) < 1 := by omega
      have e1 : decide ((k.size : Int) < 1) = true := decide_eq_true e0
      clear h1'
      go_wp2_with fail
      go_ret
      exact ⟨by rw [show cd = 130 from EC.out]; rfl, by rw [show B = A from EB.out]; exact RInsP.stays HS.out HK0.out⟩
    · have e0 : ¬ (k.size : Int) < 1 := by omega
      have e1 : decide ((k.size : Int) < 1) = false := decide_eq_false e0
      have e2 : (8 : Int) < (k.size : Int) := by omega
      have e3 : decide ((8 : Int) < (k.size : Int)) = true := decide_eq_true e2
      clear h1' h0
      go_wp2_with fail
      go_ret
      exact ⟨by rw [show cd = 130 from EC.out]; rfl, by rw [show B = A from EB.out]; exact RInsP.stays HS.out HK0.out⟩
  · have h1' : 0 < k.size ∧ k.size ≤ 8 := by simpa [rightK] using h1
    have e0 : ¬ (k.size : Int) < 1 := by omega
    have e1 : decide ((k.size : Int) < 1) = false := decide_eq_false e0
    have e2 : ¬ (8 : Int) < (k.size : Int) := by omega
    have e3 : decide ((8 : Int) < (k.size : Int)) = false := decide_eq_false e2
    clear h1'
    by_cases h2 : rightV x = false
    · have EC : Hid (cd = 131) := (show code A k x = cd from HCD.out).symm.trans (by unfold code; rw [if_neg h1, if_pos h2])
      have EB : Hid (B = A) := HNO.out (by rw [show cd = 131 from EC.out]; decide)
      have h2' : ¬ (0 ≤ x.c ∧ x.c ≤ 1099511627776 ∧ 0 ≤ x.w ∧ x.w < 4096 ∧ x.v.size ≤ 16 ∧ (x.f = true ∨ x.v.size = 0)) := fun e => by rw [(rightV_iff x).2 e] at h2; cases h2
      have HW2 : Hid _ := h2'
      clear h1 h2 h2' HNO
      go_upto_region 7 with fail
      all_goals first
        | (go_ret; exact ⟨by rw [show cd = 131 from EC.out]; rfl, by rw [show B = A from EB.out]; exact RInsP.stays HS.out HK0.out⟩)
        | (exfalso; refine HW2.out ?_; refine ⟨by omega, by omega, by omega, by omega, by omega, ?_⟩; first | exact .inl (by assumption) | exact .inr (by omega) | (left; simp_all; done))
    · have h2' := (rightV_iff x).1 (by simpa using h2)
      obtain ⟨r1, r2, r3, r4, r5, r6⟩ := h2'
      have a1 : ¬ x.c < 0 := by omega
      have a2 : decide (x.c < 0) = false := decide_eq_false a1
      have a3 : ¬ (1099511627776 : Int) < x.c := by omega
      have a4 : decide ((1099511627776 : Int) < x.c) = false := decide_eq_false a3
      have a5 : ¬ x.w < 0 := by omega
      have a6 : decide (x.w < 0) = false := decide_eq_false a5
      have a7 : ¬ (4095 : Int) < x.w := by omega
      have a8 : decide ((4095 : Int) < x.w) = false := decide_eq_false a7
      have a9 : ¬ (16 : Int) < (x.v.size : Int) := by omega
      have a10 : decide ((16 : Int) < (x.v.size : Int)) = false := decide_eq_false a9
      have HCC : Hid (∀ z, stale (ch A k) x = z → cd = if z = true then 132 else 0) := fun z hz => by
        rw [← show code A k x = cd from HCD.out]
        unfold code
        rw [if_neg h1, if_neg h2, hz]
      have HZ0 : Hid (x.f = true ∨ x.v.size = 0) := r6
      clear r1 r2 r3 r4 r5 r6 h1 h2
      obtain ⟨va, hob, how, hgv⟩ := RSt.ex (RSt.on HS.out HK0.out)
      obtain ⟨a, cap, rfl, hens, -⟩ := OwnE.ens how
      have y0 : W.cell? ⟨rb, 0, none⟩ = some (.slice a A.length cap) := (cell_of hob 0).trans rfl
      have hrl := lt_of_heap hob
      have HOB : Hid _ := hob
      have HOW : Hid _ := how
      have HGV : Hid _ := hgv
      have HEN : Hid _ := hens
      have HAB : Hid (∀ (e : En) (W' : World), _) := fun e W' => above_any ⟨k, x⟩ e W'
      obtain ⟨n, en⟩ : ∃ n, n = A.length := ⟨_, rfl⟩
      rw [← en] at hn y0
      have EN : Hid _ := en
      clear hob how hgv hens en
      have HEND : Hid (∀ (w9 : World) (v9 : Value), Kept W w9 → (∃ w8 , Kept W w8 ∧ OwnE 0 w9 v9 (A ++ [(⟨k, x⟩ : En)]) ∧ Same (fun q => (Value.slice a A.length cap).ownBlock = some q) w8 w9) → True) := fun _ _ _ _ => trivial
      clear HEND
      go_upto_region 5 with fail
      go_cut [48] (fun s48 wx => s48 = .bool false ∧ wx = W)
      case first =>
        by_cases hf : x.f = true
        · clear HZ0
          go_wp2_with fail
          go_meet
          exact ⟨rfl, rfl⟩
        · have hsz : x.v.size = 0 := (show x.f = true ∨ x.v.size = 0 from HZ0.out).resolve_left hf
          have f1 : x.f = false := by simpa using hf
          have f2 : ¬ (0 : Int) < (x.v.size : Int) := by omega
          have f3 : decide ((0 : Int) < (x.v.size : Int)) = false := decide_eq_false f2
          have f4 : ¬ 0 < x.v.size := by omega
          have f5 : decide (0 < x.v.size) = false := decide_eq_false f4
          clear hsz hf HZ0
          go_wp2_with fail
          go_meet
          exact ⟨rfl, rfl⟩
      case rest =>
        obtain ⟨rfl, ew⟩ := hcut
        have ew' := ew.symm
        subst ew'
        clear HZ0
        go_wp2_with fail
        go_loopw [5] (fun i wr => ∃ j : Nat, j ≤ n ∧ i = .int .i64 j ∧ Kept W wr ∧ (∀ e ∈ A.take j, isK k e = true → gt x e.x = true)) (fun i _ => n - (intOf i).toNat)
        case atStart => exact ⟨0, Nat.zero_le _, rfl, Same.refl _ _, fun e he => by simp at he⟩
        case round =>
          obtain ⟨j, hj, rfl, kk, hno⟩ := hrel
          have KK : Hid _ := kk
          have HNX : Hid _ := hno
          have z0 : wr.cell? ⟨rb, 0, none⟩ = some (.slice a n cap) := (kk.cell (p := ⟨rb, 0, none⟩) hrl (fun e => e)).trans y0
          have zl : rb < wr.heap.size := Nat.lt_of_lt_of_le hrl kk.size
          have hgo := (kk.block g hgl (fun e => e)).trans HG.out
          obtain ⟨⟨u0, u1, u2, u3, u4⟩, -⟩ := en_obj hgo
          have ugl := lt_of_heap hgo
          have HGO : Hid _ := hgo
          clear kk hno hgo
          by_cases hlt : j < n
          · have c1 : decide ((j : Int) < (n : Int)) = true := by simp only [decide_eq_true_eq]; omega
            have hlt2 : (j : Int) < (n : Int) := by omega
            have hlt3 : (0 : Int) ≤ (j : Int) := by omega
            obtain ⟨e, he⟩ : ∃ e, A[j]? = some e := ⟨_, List.getElem?_eq_getElem (by rw [← show n = A.length from EN.out]; exact hlt)⟩
            obtain ⟨b, off, rfl, hb, q0, q1, q2, q3, q4⟩ := (EnsAt.on HEN.out KK.out) j e he
            have HTK : Hid (∀ (hh : isK k e = true → gt x e.x = true), ∀ e' ∈ A.take (j + 1), isK k e' = true → gt x e'.x = true) := fun hh e' he' hk' => by
              rw [List.take_add_one, he] at he'
              rcases List.mem_append.1 he' with h' | h'
              · exact HNX.out e' h' hk'
              · simp only [Option.toList_some, List.mem_singleton] at h'
                subst h'
                exact hh hk'
            have HMEM : Hid _ := List.mem_of_getElem? he
            clear he
            by_cases hke : e.key.toList = k.toList
            · have s1 : (e.key.toList == k.toList) = true := by simpa using hke
              have HKE : Hid _ := hke
              have HBX : Hid (∀ W', Kept wr W' → Kept wr W' ∧ W'.cell? ⟨rb, 0, none⟩ = some (.slice (some ⟨b, off, none⟩) n cap) ∧ (W'.cell? ⟨g, 0, none⟩ = some (.string k) ∧ W'.cell? ⟨g, 1, none⟩ = some (.int .i64 x.c) ∧ W'.cell? ⟨g, 2, none⟩ = some (.int .i64 x.w) ∧ W'.cell? ⟨g, 3, none⟩ = some (.bool x.f) ∧ W'.cell? ⟨g, 4, none⟩ = some (.string x.v)) ∧ (W'.cell? ⟨b, off + j * 5, none⟩ = some (.string e.key) ∧ W'.cell? ⟨b, off + j * 5 + 1, none⟩ = some (.int .i64 e.x.c) ∧ W'.cell? ⟨b, off + j * 5 + 2, none⟩ = some (.int .i64 e.x.w) ∧ W'.cell? ⟨b, off + j * 5 + 3, none⟩ = some (.bool e.x.f) ∧ W'.cell? ⟨b, off + j * 5 + 4, none⟩ = some (.string e.x.v))) := fun W' k' =>
                ⟨k', (k'.cell (p := ⟨rb, 0, none⟩) zl (fun e => e)).trans z0, ⟨(k'.cell (p := ⟨g, 0, none⟩) ugl (fun e => e)).trans u0, (k'.cell (p := ⟨g, 1, none⟩) ugl (fun e => e)).trans u1, (k'.cell (p := ⟨g, 2, none⟩) ugl (fun e => e)).trans u2, (k'.cell (p := ⟨g, 3, none⟩) ugl (fun e => e)).trans u3, (k'.cell (p := ⟨g, 4, none⟩) ugl (fun e => e)).trans u4⟩, ⟨(k'.cell (p := ⟨b, _, none⟩) hb (fun e => e)).trans q0, (k'.cell (p := ⟨b, _, none⟩) hb (fun e => e)).trans q1, (k'.cell (p := ⟨b, _, none⟩) hb (fun e => e)).trans q2, (k'.cell (p := ⟨b, _, none⟩) hb (fun e => e)).trans q3, (k'.cell (p := ⟨b, _, none⟩) hb (fun e => e)).trans q4⟩⟩
              have HA1 : Hid (∀ W', Calls Try.prog 35 #[.agg #[.string k, .int .i64 x.c, .int .i64 x.w, .bool x.f, .string x.v], .agg #[.string e.key, .int .i64 e.x.c, .int .i64 e.x.w, .bool e.x.f, .string e.x.v]] W' fun r w' => r = .returned (.bool (gt x e.x)) ∧ Kept W' w') := fun W' => HAB.out e W'
              generalize hgt : gt x e.x = gg at HA1 HTK
              have HGT : Hid _ := hgt
              clear hke hgt
              go_upto_region 10 with fail
              go_cut [80] (fun s80 wx => s80 = .bool (!gg) ∧ Kept wr wx)
              case first =>
                go_region_held3 (fun W' => Kept wr W' ∧ W'.cell? ⟨rb, 0, none⟩ = some (.slice (some ⟨b, off, none⟩) n cap) ∧ (W'.cell? ⟨g, 0, none⟩ = some (.string k) ∧ W'.cell? ⟨g, 1, none⟩ = some (.int .i64 x.c) ∧ W'.cell? ⟨g, 2, none⟩ = some (.int .i64 x.w) ∧ W'.cell? ⟨g, 3, none⟩ = some (.bool x.f) ∧ W'.cell? ⟨g, 4, none⟩ = some (.string x.v)) ∧ (W'.cell? ⟨b, off + j * 5, none⟩ = some (.string e.key) ∧ W'.cell? ⟨b, off + j * 5 + 1, none⟩ = some (.int .i64 e.x.c) ∧ W'.cell? ⟨b, off + j * 5 + 2, none⟩ = some (.int .i64 e.x.w) ∧ W'.cell? ⟨b, off + j * 5 + 3, none⟩ = some (.bool e.x.f) ∧ W'.cell? ⟨b, off + j * 5 + 4, none⟩ = some (.string e.x.v)))
                  (exact HBX.out _ (by (repeat (first | exact Same.refl _ _ | apply Same.alloc | apply Same.drew | apply Same.drewN | refine Same.trans' ?_ kq)); done))
                  ((go_at_call 35; refine Calls.mono (HA1.out _) ?_; rintro r w2 ⟨rfl, kq⟩))
                all_goals
                  go_wp2_with fail
                  go_meet
                  exact ⟨rfl, (by (repeat (first | exact Same.refl _ _ | apply Same.alloc | apply Same.drew | apply Same.drewN | refine Same.trans' ?_ kq)); done)⟩
              case rest =>
                obtain ⟨rfl, k2⟩ := hcut
                have K2 : Hid _ := k2
                clear k2
                cases gg
                · have EC : Hid (cd = 132) := HCC.out true (by
                    rw [stale_any, List.any_eq_true]
                    exact ⟨e, HMEM.out, by simp [isK, show e.key.toList = k.toList from HKE.out, show gt x e.x = false from HGT.out]⟩)
                  go_wp2_with fail
                  go_ret
                  exact ⟨by rw [show cd = 132 from EC.out]; rfl, by rw [show B = A from HNO.out (by rw [show cd = 132 from EC.out]; decide)]; exact RInsP.stays HS.out (Same.trans' HK0.out (Same.trans' KK.out K2.out))⟩
                · go_wp2_with fail
                  go_roundw
                  case rel => exact ⟨j + 1, by omega, by simp, Same.trans' KK.out K2.out, HTK.out (fun _ => rfl)⟩
                  case measure => simp only [intOf]; omega
            · have s1 : (e.key.toList == k.toList) = false := by simpa using hke
              have s2 : Hid (isK k e = false) := s1
              clear hke
              go_upto_region 10 with fail
              go_quiet (fail)
              go_wp2_with fail
              go_roundw
              case rel => exact ⟨j + 1, by omega, by simp, Same.drewN KK.out _, HTK.out (fun hh => by rw [show isK k e = false from s2.out] at hh; cases hh)⟩
              case measure => simp only [intOf]; omega
          · have c1 : decide ((j : Int) < (n : Int)) = false := by simp only [decide_eq_false_iff_not]; omega
            obtain rfl : j = n := by omega
            have EC : Hid (cd = 0) := HCC.out false (by
              rw [stale_any, List.any_eq_false]
              intro e he
              have h9 := HNX.out e (by rw [show A.take j = A by rw [show j = A.length from EN.out]; exact List.take_length]; exact he)
              cases hk9 : isK k e
              · simp
              · simp [h9 hk9])
            have EB : Hid (B = A ++ [⟨k, x⟩]) := (show inst A k x = B from HIN.out).symm.trans (by unfold Ytnjpbagfbklofaa.inst; rw [if_pos (by rw [show code A k x = cd from HCD.out, show cd = 0 from EC.out])])
            have ho2 := OwnE.on HOW.out KK.out
            rw [← show j = A.length from EN.out] at ho2
            have HAP : Hid (∀ W', Kept wr W' → ∀ g', W'.heap[g']? = _ → ∀ ty, _) := fun W' k' g' hg' ty => app_en_at (base := 0) (e := ⟨k, x⟩) (OwnE.on HOW.out (Same.trans' KK.out k')) hg' (by rw [← show j = A.length from EN.out]; exact hn) (Nat.zero_le _) ty
            rw [← show j = A.length from EN.out] at HAP HGV
            have HRB : Hid (∀ q, (Value.slice a j cap).ownBlock = some q → q ≠ rb) := fun q hq e9 => by
              obtain ⟨_, cur, hc⟩ := OwnE.block HOW.out (k := q) (by rw [← show j = A.length from EN.out]; exact hq)
              rw [e9, show W.heap[rb]? = _ from HOB.out] at hc
              cases hc
            have HOB2 : Hid (wr.heap[rb]? = some (.cells #[.slice a j cap] 29 (0, 0))) := by
              show wr.heap[rb]? = _
              rw [show j = A.length from EN.out]
              exact (KK.out.block rb hrl (fun e => e)).trans HOB.out
            have HFIN : Hid (∀ W' w4 v4, Kept wr W' → OwnE 0 w4 v4 (A ++ [⟨k, x⟩]) → Same (fun q => (Value.slice a j cap).ownBlock = some q) W' w4 → (∀ q, v4.ownBlock = some q → (Value.slice a j cap).ownBlock = some q ∨ W'.heap.size ≤ q) → (w4.cell? ⟨rb, 0, none⟩ = some (.slice a j cap) ∧ w4.frozen? ⟨rb, 0, none⟩ = false ∧ rb < w4.heap.size ∧ ∃ a4 n4 c4, v4 = .slice a4 n4 c4) ∧ RInsP G w rb (A ++ [⟨k, x⟩]) (w4.setCell ⟨rb, 0, none⟩ v4)) := fun W' w4 v4 k' o4 s4 l4 => by
              have hob4 := (s4.block rb (Nat.lt_of_lt_of_le zl k'.size) (fun e9 => HRB.out rb e9 rfl)).trans ((k'.block rb zl (fun e => e)).trans HOB2.out)
              obtain ⟨a4, c4, e4, -⟩ := OwnE.ens o4
              refine ⟨⟨(cell_of hob4 0).trans rfl, frozen_of hob4 0, lt_of_heap hob4, a4, _, c4, e4⟩, fun q => G q ∨ v4.ownBlock = some q, ⟨⟨v4, by simpa using setCell_at hob4 0 v4, ?_, fun q hq => .inr hq⟩, .inl (RSt.g HS.out), fun q hq => ?_⟩, fun q hq => ?_, ?_⟩
              · refine OwnE.kept o4 (Same.setCell (S := fun q => q = rb) (Same.refl _ w4) ⟨rb, 0, none⟩ (.inr rfl) v4) (fun q hq e9 => ?_)
                obtain ⟨_, cur, hc⟩ := OwnE.block o4 hq
                rw [e9, hob4] at hc
                cases hc
              · show q < (w4.setCell ⟨rb, 0, none⟩ v4).heap.size
                rw [show (w4.setCell ⟨rb, 0, none⟩ v4).heap.size = w4.heap.size by simp [World.setCell]]
                rcases hq with hq | hq
                · have h1 := RSt.lt HS.out q hq
                  have h2 := (Same.trans' HK0.out (Same.trans' KK.out k')).size
                  have h3 := s4.size
                  omega
                · obtain ⟨_, cur, hc⟩ := OwnE.block o4 hq
                  exact lt_of_heap hc
              · rcases hq with hq | hq
                · exact .inl hq
                · rcases l4 q hq with h9 | h9
                  · exact .inl (HGV.out q h9)
                  · have h2 := (Same.trans' HK0.out (Same.trans' KK.out k')).size
                    exact .inr (by omega)
              · refine Same.setCell (Same.trans (Same.mono (S' := G) (Same.trans' HK0.out (Same.trans' KK.out k')) (fun _ _ f => f.elim)) s4 (fun q _ hq => HGV.out q hq)) ⟨rb, 0, none⟩ (.inr (RSt.g HS.out)) v4
            clear ho2
            go_upto_region 12 with fail
            go_region_law ((refine step_app rfl (.tmp 85) (.tmp 87) 27 rfl _ (.slice (some ⟨wr.heap.size, 0, none⟩) 1 1) rfl rfl _ (HAP.out _ (by (repeat (first | assumption | exact Same.refl _ _ | apply Same.alloc | apply Same.drew | apply Same.drewN)); done) _ (by exact heap_new _ _)) ?_); rintro v4 w4 ⟨o4, s4, l4⟩; obtain ⟨⟨c40, f40, b40, a4, n4, cp4, rfl⟩, ip⟩ := HFIN.out _ w4 v4 (by (repeat (first | assumption | exact Same.refl _ _ | apply Same.alloc | apply Same.drew | apply Same.drewN)); done) o4 s4 l4; have IP : Hid _ := ip; clear o4 s4 l4 ip)
            all_goals
              go_wp2_with fail
              go_ret
              exact ⟨by rw [show cd = 0 from EC.out]; rfl, by rw [show B = _ from EB.out]; exact IP.out⟩
end Go.Proofs.Ytnjpbagfbklofaa
