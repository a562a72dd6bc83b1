/- What is proved: the document's Chain and Prune: the versions of a key, and what pruning leaves; the store lies in memory. -/
import Derived.Test.YtnjpbagfbklofaaCRefB
import Derived.Test.YtnjpbagfbklofaaCKeys
import Derived.Test.YtnjpbagfbklofaaCRefC
import Derived.Deep.RegionLaw
namespace Go.Proofs.Ytnjpbagfbklofaa
open Go.RowKit

theorem filter_take {A : List En} {j : Nat} {e : En} (he : A[j]? = some e) (p : En → Bool) : (A.take (j + 1)).filter p = (A.take j).filter p ++ (if p e = true then [e] else []) := by
  rw [List.take_add_one, he, List.filter_append]
  simp [List.filter_cons]
set_option maxRecDepth 100000 in
set_option maxHeartbeats 1600000 in
theorem rchain13 {G : Nat → Prop} {w : World} {rb : Nat} {A : List En} (h : RSt G w rb A) (k : ByteArray) (hn : A.length + 1 ≤ 3909374676537) :
    Calls Try.prog 26 #[.pointer (some ⟨rb, 0, none⟩), .string k] w fun r w' => ∃ v, r = .returned v ∧ OwnE w.heap.size w' v (A.filter (isK k)) ∧ Kept w w' := by
  obtain ⟨va, hob, how, -⟩ := h.ex
  obtain ⟨a, cap, rfl, hens, -⟩ := OwnE.ens how
  have y0 : w.cell? ⟨rb, 0, none⟩ = some (.slice a A.length cap) := (cell_of hob 0).trans rfl
  have hrl := lt_of_heap hob
  have HEN : Hid _ := hens
  obtain ⟨n, en⟩ : ∃ n, n = A.length := ⟨_, rfl⟩
  rw [← en] at hn y0
  have EN : Hid _ := en
  clear hob how hens en h
  go_enter Try.func26, Try.ntmps26
  go_wp2_with fail
  go_loopw [5, 6] (fun s5 s6 wr => ∃ j : Nat, j ≤ n ∧ s6 = .int .i64 j ∧ OwnE w.heap.size wr s5 ((A.take j).filter (isK k)) ∧ (∃ a' n' c', s5 = .slice a' n' c') ∧ Kept w wr) (fun _ s6 _ => n - (intOf s6).toNat)
  case atStart => exact ⟨0, Nat.zero_le _, rfl, OwnE.nil _ _, ⟨_, _, _, rfl⟩, Same.refl _ _⟩
  case round =>
    obtain ⟨j, hj, rfl, ho, ⟨a', n', c', rfl⟩, kk⟩ := hrel
    have KK : Hid _ := kk
    have HO : Hid _ := ho
    have z0 : wr.cell? ⟨rb, 0, none⟩ = some (.slice a n cap) := (kk.cell (p := ⟨rb, 0, none⟩) hrl (fun e => e)).trans y0
    have zl : rb < wr.heap.size := Nat.lt_of_lt_of_le hrl kk.size
    clear kk ho
    by_cases hlt : j < n
    · have c1 : decide ((j : Int) < (n : Int)) = true := by simp only [decide_eq_true_eq]; omega
      have hlt2 : (j : Int) < (n : Int) := by omega
      have hlt3 : (0 : Int) ≤ (j : Int) := by omega
      obtain ⟨e, he⟩ : ∃ e, A[j]? = some e := ⟨_, List.getElem?_eq_getElem (by rw [← show n = A.length from EN.out]; exact hlt)⟩
      obtain ⟨b, off, rfl, hb, q0, q1, q2, q3, q4⟩ := (EnsAt.on HEN.out KK.out) j e he
      have HFT : Hid _ := filter_take he (isK k)
      clear he
      by_cases hke : e.key.toList = k.toList
      · have s1 : (e.key.toList == k.toList) = true := by simpa using hke
        have HF1 : Hid ((A.take (j + 1)).filter (isK k) = (A.take j).filter (isK k) ++ [e]) := (show (A.take (j + 1)).filter (isK k) = _ from HFT.out).trans (by rw [if_pos (show isK k e = true from s1)])
        have HAP : Hid (∀ ty, ∃ v' w', (Builtin.append_ #[27, 27] ty #[.slice a' n' c', .slice (some ⟨wr.heap.size, 0, none⟩) 1 1]).run Try.prog (wr.alloc (.cells #[.string e.key, .int .i64 e.x.c, .int .i64 e.x.w, .bool e.x.f, .string e.x.v] 52 (0, 0))) = .ok v' w' ∧ (OwnE w.heap.size w' v' ((A.take (j + 1)).filter (isK k)) ∧ (∃ a' n' c', v' = .slice a' n' c') ∧ Kept w w')) := fun ty => by
          have k0 : Kept wr (wr.alloc (.cells #[.string e.key, .int .i64 e.x.c, .int .i64 e.x.w, .bool e.x.f, .string e.x.v] 52 (0, 0))) := (Same.refl _ wr).alloc _
          obtain ⟨v', w', hr, r1, r2, r3⟩ := app_en_at (base := w.heap.size) e (OwnE.on HO.out k0) (heap_new wr _) (by
            have := List.length_filter_le (isK k) (A.take j)
            rw [List.length_take] at this
            omega) (by rw [World.size_alloc]; have := KK.out.size; omega) ty
          obtain ⟨a4, c4, e4, -⟩ := OwnE.ens r1
          rw [show (A.take (j + 1)).filter (isK k) = _ from HF1.out]
          exact ⟨v', w', hr, r1, ⟨a4, _, c4, e4⟩, Same.trans (Same.trans' KK.out k0) r2 (fun q hq hq' => by have := (OwnE.block HO.out hq').1; omega)⟩
        clear hke HFT
        go_wp2_with (at_builtin; refine wpList_app rfl (.tmp 26) (.tmp 34) 27 rfl _ _ rfl rfl _ HAP.out ?_; rintro v4 w4 ⟨o4, ⟨a4, n4, c4, rfl⟩, k4⟩)
        go_roundw
        case rel => exact ⟨j + 1, by omega, by simp, o4, ⟨_, _, _, rfl⟩, k4⟩
        case measure => simp only [intOf]; omega
      · have s1 : (e.key.toList == k.toList) = false := by simpa using hke
        have HF1 : Hid ((A.take (j + 1)).filter (isK k) = (A.take j).filter (isK k)) := (show (A.take (j + 1)).filter (isK k) = _ from HFT.out).trans (by rw [if_neg (by rw [show isK k e = false from s1]; decide), List.append_nil])
        clear hke HFT
        go_wp2_with fail
        go_roundw
        case rel => exact ⟨j + 1, by omega, by simp, by rw [show (A.take (j + 1)).filter (isK k) = _ from HF1.out]; exact HO.out, ⟨_, _, _, rfl⟩, KK.out⟩
        case measure => simp only [intOf]; omega
    · have c1 : decide ((j : Int) < (n : Int)) = false := by simp only [decide_eq_false_iff_not]; omega
      obtain rfl : j = n := by omega
      go_wp2_with fail
      go_ret
      refine ⟨_, rfl, ?_, KK.out⟩
      have h9 := HO.out
      rw [show A.take j = A by rw [show j = A.length from EN.out]; exact List.take_length] at h9
      exact h9
/-- What the document keeps of a version. -/
def kpE (A : List En) (t : Int) (e : En) : Bool := keepV (ch A e.key) t e.x
theorem prn_kpE (A : List En) (t : Int) : prn A t = A.filter (kpE A t) := rfl
set_option maxRecDepth 100000 in
set_option maxHeartbeats 1600000 in
theorem rprune13 {G : Nat → Prop} {w : World} {rb : Nat} {A : List En} (h : RSt G w rb A) (hgd : Good A) (t : Int) (hn : A.length + 1 ≤ 3909374676537) :
    Calls Try.prog 27 #[.pointer (some ⟨rb, 0, none⟩), .int .i64 t] w fun r w' => r = .returned (.int .i64 ((A.length - (prn A t).length : Nat) : Int)) ∧ RInsP G w rb (prn A t) w' := by
  obtain ⟨va, hob, how, hgv⟩ := h.ex
  obtain ⟨a, cap, rfl, hens, -⟩ := OwnE.ens how
  have y0 : w.cell? ⟨rb, 0, none⟩ = some (.slice a A.length cap) := (cell_of hob 0).trans rfl
  have hrl := lt_of_heap hob
  have HOB : Hid _ := hob
  have HEN : Hid _ := hens
  have HS : Hid _ := h
  have HAT : Hid (∀ W, Kept w W → ∀ k, _) := fun W k' k => rat13 (h.on k') hgd k t (by omega)
  obtain ⟨n, en⟩ : ∃ n, n = A.length := ⟨_, rfl⟩
  have EN : Hid _ := en
  rw [← en] at hn y0 ⊢
  clear hob how hens en h hgv hgd
  go_enter Try.func27, Try.ntmps27
  go_wp2_with fail
  go_loopw [5, 6] (fun s5 s6 wr => ∃ j : Nat, j ≤ n ∧ s6 = .int .i64 j ∧ OwnE w.heap.size wr s5 ((A.take j).filter (kpE A t)) ∧ (∃ a' n' c', s5 = .slice a' n' c') ∧ Kept w wr) (fun _ s6 _ => n - (intOf s6).toNat)
  case atStart => exact ⟨0, Nat.zero_le _, rfl, OwnE.nil _ _, ⟨_, _, _, rfl⟩, Same.refl _ _⟩
  case round =>
    obtain ⟨j, hj, rfl, ho, ⟨a', n', c', rfl⟩, kk⟩ := hrel
    have KK : Hid _ := kk
    have HO : Hid _ := ho
    have z0 : wr.cell? ⟨rb, 0, none⟩ = some (.slice a n cap) := (kk.cell (p := ⟨rb, 0, none⟩) hrl (fun e => e)).trans y0
    have zl : rb < wr.heap.size := Nat.lt_of_lt_of_le hrl kk.size
    clear kk ho
    by_cases hlt : j < n
    · have c1 : decide ((j : Int) < (n : Int)) = true := by simp only [decide_eq_true_eq]; omega
      have hlt2 : (j : Int) < (n : Int) := by omega
      have hlt3 : (0 : Int) ≤ (j : Int) := by omega
      obtain ⟨e, he⟩ : ∃ e, A[j]? = some e := ⟨_, List.getElem?_eq_getElem (by rw [← show n = A.length from EN.out]; exact hlt)⟩
      obtain ⟨b, off, rfl, hb, q0, q1, q2, q3, q4⟩ := (EnsAt.on HEN.out KK.out) j e he
      have HFT : Hid _ := filter_take he (kpE A t)
      have HE : Hid _ := he
      have HA1 : Hid _ := HAT.out _ KK.out e.key
      clear he
      have HKP : Hid (kpE A t e = match atM (ch A e.key) t with | some s => !gt s e.x | none => true) := rfl
      generalize hoo : atM (ch A e.key) t = o at HA1 HKP
      clear hoo
      go_wp2_with fail
      refine Calls.mono HA1.out ?_
      rintro r w2 ⟨es, rfl, hes, k2⟩
      have K2 : Hid (Kept wr (w2.alloc (.cells #[.string es.key, .int .i64 es.x.c, .int .i64 es.x.w, .bool es.x.f, .string es.x.v] 52 (0, 0)))) := k2.alloc _
      have GS : Hid _ := heap_new w2 (.cells #[.string es.key, .int .i64 es.x.c, .int .i64 es.x.w, .bool es.x.f, .string es.x.v] 52 (0, 0))
      have HES : Hid _ := hes
      clear k2 hes HA1 q0 q1 q2 q3 q4
      go_upto_region 6 with fail
      generalize w2.alloc (.cells #[.string es.key, .int .i64 es.x.c, .int .i64 es.x.w, .bool es.x.f, .string es.x.v] 52 (0, 0)) = Y at *
      generalize w2.heap.size = gx at *
      obtain ⟨⟨u0, u1, u2, u3, u4⟩, -⟩ := en_obj GS.out
      have ugl := lt_of_heap GS.out
      have HKY : Hid (Kept w Y) := Same.trans' KK.out K2.out
      have x0 : Y.cell? ⟨rb, 0, none⟩ = some (.slice (some ⟨b, off, none⟩) n cap) := (K2.out.cell (p := ⟨rb, 0, none⟩) zl (fun e => e)).trans z0
      have xl : rb < Y.heap.size := Nat.lt_of_lt_of_le zl K2.out.size
      have hbY : b < Y.heap.size := Nat.lt_of_lt_of_le hb K2.out.size
      obtain ⟨b3, off3, eb3, -, p0, p1, p2, p3, p4⟩ := (EnsAt.on HEN.out HKY.out) j e HE.out
      cases eb3
      clear z0 zl hb
      have HAPP : Hid (∀ Z, Kept Y Z → kpE A t e = true → ∀ ty, ∃ v' w', (Builtin.append_ #[27, 27] ty #[.slice a' n' c', .slice (some ⟨Z.heap.size, 0, none⟩) 1 1]).run Try.prog (Z.alloc (.cells #[.string e.key, .int .i64 e.x.c, .int .i64 e.x.w, .bool e.x.f, .string e.x.v] 52 (0, 0))) = .ok v' w' ∧ (OwnE w.heap.size w' v' ((A.take (j + 1)).filter (kpE A t)) ∧ (∃ a' n' c', v' = .slice a' n' c') ∧ Kept w w')) := fun Z kz hkp ty => by
        have k0 : Kept Z (Z.alloc (.cells #[.string e.key, .int .i64 e.x.c, .int .i64 e.x.w, .bool e.x.f, .string e.x.v] 52 (0, 0))) := (Same.refl _ Z).alloc _
        have kwz : Kept wr Z := Same.trans' K2.out kz
        obtain ⟨v', w', hr, r1, r2, r3⟩ := app_en_at (base := w.heap.size) e (OwnE.on HO.out (Same.trans' kwz k0)) (heap_new Z _) (by
          have := List.length_filter_le (kpE A t) (A.take j)
          rw [List.length_take] at this
          omega) (by rw [World.size_alloc]; have := (Same.trans' KK.out kwz).size; omega) ty
        obtain ⟨a4, c4, e4, -⟩ := OwnE.ens r1
        rw [show (A.take (j + 1)).filter (kpE A t) = _ from HFT.out, if_pos hkp]
        exact ⟨v', w', hr, r1, ⟨a4, _, c4, e4⟩, Same.trans (Same.trans' (Same.trans' KK.out kwz) k0) r2 (fun q hq hq' => by have := (OwnE.block HO.out hq').1; omega)⟩
      generalize hkp : kpE A t e = kp at *
      have EKP : Hid _ := hkp
      clear hkp
      go_cut [44] (fun s44 wx => s44 = .bool (!kp) ∧ Kept Y wx)
      case first =>
        cases o with
        | none =>
          obtain rfl : kp = true := HKP.out
          simp only [Option.isSome_none]
          go_quiet (fail)
          go_wp2_with fail
          go_meet
          exact ⟨rfl, Same.drewN (Same.refl _ _) _⟩
        | some s =>
          have hkp2 : kp = !gt s e.x := HKP.out
          have hes2 : es.x = s := HES.out
          simp only [Option.isSome_some]
          have HBX : Hid (∀ W', Kept Y W' → Kept Y W' ∧ W'.cell? ⟨rb, 0, none⟩ = some (.slice (some ⟨b, off, none⟩) n cap) ∧ (W'.cell? ⟨gx, 0, none⟩ = some (.string es.key) ∧ W'.cell? ⟨gx, 1, none⟩ = some (.int .i64 es.x.c) ∧ W'.cell? ⟨gx, 2, none⟩ = some (.int .i64 es.x.w) ∧ W'.cell? ⟨gx, 3, none⟩ = some (.bool es.x.f) ∧ W'.cell? ⟨gx, 4, none⟩ = some (.string es.x.v)) ∧ (W'.cell? ⟨b, off + j * 5, none⟩ = some (.string e.key) ∧ W'.cell? ⟨b, off + j * 5 + 1, none⟩ = some (.int .i64 e.x.c) ∧ W'.cell? ⟨b, off + j * 5 + 2, none⟩ = some (.int .i64 e.x.w) ∧ W'.cell? ⟨b, off + j * 5 + 3, none⟩ = some (.bool e.x.f) ∧ W'.cell? ⟨b, off + j * 5 + 4, none⟩ = some (.string e.x.v))) := fun W' k' =>
            ⟨k', (k'.cell (p := ⟨rb, 0, none⟩) xl (fun e => e)).trans x0, ⟨(k'.cell (p := ⟨gx, 0, none⟩) ugl (fun e => e)).trans u0, (k'.cell (p := ⟨gx, 1, none⟩) ugl (fun e => e)).trans u1, (k'.cell (p := ⟨gx, 2, none⟩) ugl (fun e => e)).trans u2, (k'.cell (p := ⟨gx, 3, none⟩) ugl (fun e => e)).trans u3, (k'.cell (p := ⟨gx, 4, none⟩) ugl (fun e => e)).trans u4⟩, ⟨(k'.cell (p := ⟨b, _, none⟩) hbY (fun e => e)).trans p0, (k'.cell (p := ⟨b, _, none⟩) hbY (fun e => e)).trans p1, (k'.cell (p := ⟨b, _, none⟩) hbY (fun e => e)).trans p2, (k'.cell (p := ⟨b, _, none⟩) hbY (fun e => e)).trans p3, (k'.cell (p := ⟨b, _, none⟩) hbY (fun e => e)).trans p4⟩⟩
          have HA2 : Hid (∀ W', Calls Try.prog 35 #[.agg #[.string es.key, .int .i64 es.x.c, .int .i64 es.x.w, .bool es.x.f, .string es.x.v], .agg #[.string e.key, .int .i64 e.x.c, .int .i64 e.x.w, .bool e.x.f, .string e.x.v]] W' fun r w' => r = .returned (.bool (!kp)) ∧ Kept W' w') := fun W' => by
            have := above_any es e W'
            rw [hes2] at this
            rw [hkp2, Bool.not_not]
            have h9 := above_any es e W'
            rw [show gt es.x e.x = gt s e.x by rw [hes2]] at h9
            exact h9
          clear hkp2 hes2
          go_region_held3 (fun W' => Kept Y W' ∧ W'.cell? ⟨rb, 0, none⟩ = some (.slice (some ⟨b, off, none⟩) n cap) ∧ (W'.cell? ⟨gx, 0, none⟩ = some (.string es.key) ∧ W'.cell? ⟨gx, 1, none⟩ = some (.int .i64 es.x.c) ∧ W'.cell? ⟨gx, 2, none⟩ = some (.int .i64 es.x.w) ∧ W'.cell? ⟨gx, 3, none⟩ = some (.bool es.x.f) ∧ W'.cell? ⟨gx, 4, none⟩ = some (.string es.x.v)) ∧ (W'.cell? ⟨b, off + j * 5, none⟩ = some (.string e.key) ∧ W'.cell? ⟨b, off + j * 5 + 1, none⟩ = some (.int .i64 e.x.c) ∧ W'.cell? ⟨b, off + j * 5 + 2, none⟩ = some (.int .i64 e.x.w) ∧ W'.cell? ⟨b, off + j * 5 + 3, none⟩ = some (.bool e.x.f) ∧ W'.cell? ⟨b, off + j * 5 + 4, none⟩ = some (.string e.x.v)))
            (exact HBX.out _ (by (repeat (first | exact Same.refl _ _ | apply Same.alloc | apply Same.drew | apply Same.drewN | refine Same.trans' ?_ kq)); done))
            ((go_at_call 35; refine Calls.mono (HA2.out _) ?_; rintro r w2 ⟨rfl, kq⟩))
          all_goals
            go_wp2_with fail
            go_meet
            exact ⟨rfl, (by (repeat (first | exact Same.refl _ _ | apply Same.alloc | apply Same.drew | apply Same.drewN | refine Same.trans' ?_ kq)); done)⟩
      case rest =>
        obtain ⟨rfl, kz⟩ := hcut
        rename World => Z
        have KZ : Hid _ := kz
        have v0' : Z.cell? ⟨rb, 0, none⟩ = some (.slice (some ⟨b, off, none⟩) n cap) := (kz.cell (p := ⟨rb, 0, none⟩) xl (fun e => e)).trans x0
        have vl : rb < Z.heap.size := Nat.lt_of_lt_of_le xl kz.size
        have vb : b < Z.heap.size := Nat.lt_of_lt_of_le hbY kz.size
        have m0 := (kz.cell (p := ⟨b, off + j * 5, none⟩) hbY (fun e => e)).trans p0
        have m1 := (kz.cell (p := ⟨b, off + j * 5 + 1, none⟩) hbY (fun e => e)).trans p1
        have m2 := (kz.cell (p := ⟨b, off + j * 5 + 2, none⟩) hbY (fun e => e)).trans p2
        have m3 := (kz.cell (p := ⟨b, off + j * 5 + 3, none⟩) hbY (fun e => e)).trans p3
        have m4 := (kz.cell (p := ⟨b, off + j * 5 + 4, none⟩) hbY (fun e => e)).trans p4
        clear p0 p1 p2 p3 p4 u0 u1 u2 u3 u4 x0 xl hbY ugl kz
        cases kp
        · have HF1 : Hid ((A.take (j + 1)).filter (kpE A t) = (A.take j).filter (kpE A t)) := (show (A.take (j + 1)).filter (kpE A t) = _ from HFT.out).trans (by rw [if_neg (by decide), List.append_nil])
          clear HAPP
          go_wp2_with fail
          go_roundw
          case rel => exact ⟨j + 1, by omega, by simp, by rw [show (A.take (j + 1)).filter (kpE A t) = _ from HF1.out]; exact OwnE.on HO.out (Same.trans' K2.out KZ.out), ⟨_, _, _, rfl⟩, Same.trans' HKY.out KZ.out⟩
          case measure => simp only [intOf]; omega
        · have HAP2 : Hid _ := HAPP.out Z KZ.out rfl
          clear HAPP HFT
          go_wp2_with (at_builtin; refine wpList_app rfl (.tmp 45) (.tmp 53) 27 rfl _ _ rfl rfl _ HAP2.out ?_; rintro v4 w4 ⟨o4, ⟨a4, n4, c4, rfl⟩, k4⟩)
          go_roundw
          case rel => exact ⟨j + 1, by omega, by simp, o4, ⟨_, _, _, rfl⟩, k4⟩
          case measure => simp only [intOf]; omega
    · have c1 : decide ((j : Int) < (n : Int)) = false := by simp only [decide_eq_false_iff_not]; omega
      obtain rfl : j = n := by omega
      have h9 := HO.out
      rw [show A.take j = A by rw [show j = A.length from EN.out]; exact List.take_length, ← prn_kpE] at h9
      obtain ⟨a9, c9, e9, -⟩ := OwnE.ens h9
      cases e9
      have hpl := prn_length A t
      rw [← show j = A.length from EN.out] at hpl
      have HO9 : Hid _ := h9
      have HOB2 : Hid (wr.heap[rb]? = some (.cells #[.slice a j cap] 29 (0, 0))) := by
        show wr.heap[rb]? = _
        rw [show j = A.length from EN.out]
        exact (KK.out.block rb hrl (fun e => e)).trans HOB.out
      have zf : wr.frozen? ⟨rb, 0, none⟩ = false := frozen_of HOB2.out 0
      have hd : (j : Int) - ((prn A t).length : Int) = ((j - (prn A t).length : Nat) : Int) := by omega
      have hd2 : IntKind.i64.wrap ((j - (prn A t).length : Nat) : Int) = ((j - (prn A t).length : Nat) : Int) := by rw [IntKind.wrap_i64]; omega
      generalize hdd : j - (prn A t).length = dd at *
      have EDD : Hid (j - (prn A t).length = dd) := hdd
      clear hdd
      clear hpl h9
      go_wp2_with fail
      go_ret
      refine ⟨by rw [show j - (prn A t).length = dd from EDD.out]; rfl, fun q => q = rb ∨ (Value.slice a' (prn A t).length c').ownBlock = some q, ⟨⟨_, by simpa using setCell_at HOB2.out 0 (.slice a' (prn A t).length c'), ?_, fun q hq => .inr hq⟩, .inl rfl, fun q hq => ?_⟩, fun q hq => ?_, ?_⟩
      · refine own_lower (base := w.heap.size) (OwnE.kept HO9.out (Same.setCell (S := fun q => q = rb) (Same.refl _ wr) ⟨rb, 0, none⟩ (.inr rfl) _) (fun q hq e9 => ?_)) (Nat.zero_le _)
        have := (OwnE.block HO9.out hq).1
        omega
      · rw [show (wr.setCell ⟨rb, 0, none⟩ (.slice a' (prn A t).length c')).heap.size = wr.heap.size by simp [World.setCell]]
        rcases hq with rfl | hq
        · exact zl
        · obtain ⟨_, cur, hc⟩ := OwnE.block HO9.out hq
          exact lt_of_heap hc
      · rcases hq with rfl | hq
        · exact .inl (RSt.g HS.out)
        · exact .inr (OwnE.block HO9.out hq).1
      · exact Same.setCell (Same.mono (S' := G) KK.out (fun _ _ f => f.elim)) ⟨rb, 0, none⟩ (.inr (RSt.g HS.out)) _
end Go.Proofs.Ytnjpbagfbklofaa
