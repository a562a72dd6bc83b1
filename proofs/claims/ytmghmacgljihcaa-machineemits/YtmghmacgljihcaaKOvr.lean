/- What is proved: overtaken tells whether a key that a transaction wrote has been committed behind its start; the machine lies in memory, the transaction has at most 16 operations. -/
import Derived.Test.YtmghmacgljihcaaKTxn
import Derived.StillTailTactics
import Derived.Deep.RegionHeld3
namespace Go.Proofs.Ytmghmacgljihcaa
open Go.RowKit

theorem over_none {A : List En} {s : Int} {l : List OpM} {j : Nat} {o : OpM} (ho : l[j]? = some o) (h : (l.take j).any (fun o => (afM (ch A o.key) s).isSome) = false) (h1 : (afM (ch A o.key) s).isSome = false) : (l.take (j + 1)).any (fun o => (afM (ch A o.key) s).isSome) = false := by
  rw [List.take_add_one, ho, List.any_append, h]
  simp [h1]
theorem over_yes {A : List En} {s : Int} {l : List OpM} {j : Nat} {o : OpM} (ho : l[j]? = some o) (h1 : (afM (ch A o.key) s).isSome = true) : over A s l = true := by
  unfold over
  exact List.any_eq_true.2 ⟨o, List.mem_of_getElem? ho, h1⟩
theorem outc_key {l : List OpM} {o : OpM} (h : o ∈ outc l) : o ∈ l := by
  obtain ⟨i, hi, _, rfl⟩ := (oc_in _).1 h
  rw [List.getD_eq_getElem?_getD, List.getElem?_eq_getElem hi]
  simp
theorem after_f {F : Nat → Prop} {w : World} {sb : Nat} {A : List En} (h : St F w sb A) (k : ByteArray) (hk : k.size ≤ 8) (t : Int) (hn : A.length ≤ 65536) :
    Calls Try.prog 56 #[.pointer (some ⟨sb, 0, none⟩), .string k, .int .i64 t] w fun e w' => ∃ x : Vn, e = .returned (.tuple #[.agg #[.int .i64 x.c, .int .i64 x.w, .bool x.f, .string x.v], .bool (afM (ch A k) t).isSome]) ∧ Kept w w' :=
  Calls.mono (after13 h k (by unfold maxLen; omega) t (by omega)) fun e w' he => ⟨_, he⟩
/-- A version's box that lies there stays. -/
theorem box_kept {W w4 : World} {g : Nat} {ty : TypeId} (hg : W.heap[g]? = some (.cells #[.int .i64 0, .int .i64 0, .bool false, .string ⟨#[]⟩] ty (0, 0))) (k : Kept W w4) :
    (w4.cell? ⟨g, 0, none⟩ = some (.int .i64 0) ∧ w4.cell? ⟨g, 1, none⟩ = some (.int .i64 0) ∧ w4.cell? ⟨g, 2, none⟩ = some (.bool false) ∧ w4.cell? ⟨g, 3, none⟩ = some (.string ⟨#[]⟩)) ∧ w4.frozen? ⟨g, 0, none⟩ = false ∧ w4.frozen? ⟨g, 1, none⟩ = false ∧ w4.frozen? ⟨g, 2, none⟩ = false ∧ w4.frozen? ⟨g, 3, none⟩ = false :=
  ver_obj ((k.block g (lt_of_heap hg) (fun e => e)).trans hg)
set_option maxRecDepth 100000 in
set_option maxHeartbeats 1600000 in
theorem overtaken15 {tg : Nat → Tg} {w : World} {mb sb vb : Nat} {lv : Value} {P : Nat → Option Nat} {L : List (TxM × Value)} {M : Mm} (h : Mi tg w mb sb vb lv P L M) {g : Nat} {t : TxM} {ov tv : Value} (hx : TxB w g t ov tv) (ho : OwnO 0 w ov t.ops) (hn : t.ops.length ≤ 16) (hk : ∀ o ∈ t.ops, o.key.size ≤ 8) (hA : M.A.length ≤ 65536) :
    Calls Try.prog 50 #[.pointer (some ⟨mb, 0, none⟩), .pointer (some ⟨g, 0, none⟩)] w fun e w' => e = .returned (.bool (over M.A t.f2 (outc t.ops))) ∧ Kept w w' := by
  have HOC : Hid _ := outcome15 hx ho hn
  have HCL : Hid (∀ W, Kept w W → mb < W.heap.size ∧ W.cell? ⟨mb, 4, none⟩ = some (.pointer (some ⟨vb, 0, none⟩)) ∧ g < W.heap.size ∧ W.cell? ⟨g, 2, none⟩ = some (.int .i64 t.f2)) := fun W k' => by
    obtain ⟨h1, ⟨-, -, -, -, c4, -⟩, -⟩ := Mi.cells (h.on k')
    obtain ⟨h2, ⟨-, -, d2, -⟩, -⟩ := TxB.cells (TxB.on hx k')
    exact ⟨h1, c4, h2, d2⟩
  have HAF : Hid (∀ W, Kept w W → ∀ o ∈ outc t.ops, Calls Try.prog 56 #[.pointer (some ⟨vb, 0, none⟩), .string o.key, .int .i64 t.f2] W fun e w' => ∃ x : Vn, e = .returned (.tuple #[.agg #[.int .i64 x.c, .int .i64 x.w, .bool x.f, .string x.v], .bool (afM (ch M.A o.key) t.f2).isSome]) ∧ Kept W w') := fun W k' o ho' => after_f (h.on k').st o.key (hk o (outc_key ho')) t.f2 hA
  have hlen := oc_length t.ops t.ops.length
  clear h hx ho hk hA
  generalize hq : over M.A t.f2 (outc t.ops) = q
  have HQ : Hid (over M.A t.f2 (outc t.ops) = q) := hq
  clear hq
  have hlen2 : (outc t.ops).length ≤ 16 := Nat.le_trans hlen hn
  clear hlen hn
  generalize outc t.ops = l at *
  generalize t.f2 = s at *
  go_enter Try.func50, Try.ntmps50
  go_wp2_with fail
  refine Calls.mono HOC.out ?_
  rintro e w1 ⟨v, rfl, hv, k1⟩
  obtain ⟨a, cap, rfl, hat, -⟩ := OwnO.ops hv
  have HAT : Hid (OpsAt w1 a l) := hat
  have K1 : Hid (Kept w w1) := k1
  obtain ⟨n, en⟩ : ∃ n, n = l.length := ⟨_, rfl⟩
  rw [← en] at hlen2 ⊢
  have EN : Hid (n = l.length) := en
  clear hv hat k1 HOC en
  go_wp2_with fail
  go_loopw [12] (fun i wr => ∃ j : Nat, j ≤ n ∧ i = .int .i64 (j : Int) ∧ (l.take j).any (fun o => (afM (ch M.A o.key) s).isSome) = false ∧ Kept w1 wr) (fun i _ => n - (intOf i).toNat)
  case atStart => exact ⟨0, Nat.zero_le _, rfl, rfl, Same.refl _ _⟩
  case round =>
    obtain ⟨j, hj, rfl, hany, kk⟩ := hrel
    have HANY : Hid ((l.take j).any (fun o => (afM (ch M.A o.key) s).isSome) = false) := hany
    have KK : Hid (Kept w1 wr) := kk
    clear hany kk
    by_cases hlt : j < n
    · have c1 : decide ((j : Int) < (n : Int)) = true := by simp only [decide_eq_true_eq]; omega
      have hlt2 : (j : Int) < (n : Int) := by omega
      obtain ⟨o, ho⟩ : ∃ o, l[j]? = some o := ⟨_, List.getElem?_eq_getElem (by rw [← EN.out]; exact hlt)⟩
      obtain ⟨b, off, rfl, hb, x0, x1, x2, x3⟩ := (OpsAt.on HAT.out KK.out) j o ho
      have HOJ : Hid (l[j]? = some o) := ho
      clear ho
      have HG : Hid _ := heap_new wr (.cells #[.int .i64 o.kind, .string o.key, .bool o.found, .string o.value] 84 (0, 0))
      have K2 : Hid (Kept wr (wr.alloc (.cells #[.int .i64 o.kind, .string o.key, .bool o.found, .string o.value] 84 (0, 0)))) := (Same.refl _ _).alloc _
      go_upto_region 4 with fail
      generalize wr.alloc (.cells #[.int .i64 o.kind, .string o.key, .bool o.found, .string o.value] 84 (0, 0)) = W at *
      generalize wr.heap.size = gb at *
      have hgl := lt_of_heap HG.out
      have y1 : W.cell? ⟨gb, 1, none⟩ = some (.string o.key) := (cell_of HG.out 1).trans rfl
      have K3 : Hid (Kept w W) := Same.trans' K1.out (Same.trans' KK.out K2.out)
      have K4 : Hid (Kept w1 W) := Same.trans' KK.out K2.out
      obtain ⟨hmb, c4, hg2, d2⟩ := HCL.out W K3.out
      have HAF2 : Hid (∀ W', Kept W W' → _) := fun W' k' => HAF.out W' (Same.trans' K3.out k') o (List.mem_of_getElem? HOJ.out)
      have HAF3 : Hid (∀ W' g0, W'.heap[g0]? = some (.cells #[.int .i64 0, .int .i64 0, .bool false, .string ⟨#[]⟩] 75 (0, 0)) → Kept W W' → Calls Try.prog 56 #[.pointer (some ⟨vb, 0, none⟩), .string o.key, .int .i64 s] W' fun e w' => ∃ x : Vn, e = .returned (.tuple #[.agg #[.int .i64 x.c, .int .i64 x.w, .bool x.f, .string x.v], .bool (afM (ch M.A o.key) s).isSome]) ∧ Kept W' w' ∧ ((w'.cell? ⟨g0, 0, none⟩ = some (.int .i64 0) ∧ w'.cell? ⟨g0, 1, none⟩ = some (.int .i64 0) ∧ w'.cell? ⟨g0, 2, none⟩ = some (.bool false) ∧ w'.cell? ⟨g0, 3, none⟩ = some (.string ⟨#[]⟩)) ∧ w'.frozen? ⟨g0, 0, none⟩ = false ∧ w'.frozen? ⟨g0, 1, none⟩ = false ∧ w'.frozen? ⟨g0, 2, none⟩ = false ∧ w'.frozen? ⟨g0, 3, none⟩ = false)) := fun W' g0 hg0 k' =>
        Calls.mono (HAF.out W' (Same.trans' K3.out k') o (List.mem_of_getElem? HOJ.out)) fun e w' ⟨x, h1, h2⟩ => ⟨x, h1, h2, box_kept hg0 h2⟩
      clear HG K2
      have HBX : Hid (∀ W', Kept W W' → Kept W W' ∧ W'.cell? ⟨mb, 4, none⟩ = some (.pointer (some ⟨vb, 0, none⟩)) ∧ W'.cell? ⟨gb, 1, none⟩ = some (.string o.key) ∧ W'.cell? ⟨g, 2, none⟩ = some (.int .i64 s)) := fun W' k' =>
        ⟨k', (k'.cell (p := ⟨mb, 4, none⟩) hmb (fun e => e)).trans c4, (k'.cell (p := ⟨gb, 1, none⟩) hgl (fun e => e)).trans y1, (k'.cell (p := ⟨g, 2, none⟩) hg2 (fun e => e)).trans d2⟩
      generalize eb : (afM (ch M.A o.key) s).isSome = bo at HAF2 HAF3
      have EB : Hid ((afM (ch M.A o.key) s).isSome = bo) := eb
      clear eb
      go_cut [8] (fun s8 wx => s8 = .bool bo ∧ Kept W wx)
      case first =>
        go_region_held3 (fun W' => Kept W W' ∧ W'.cell? ⟨mb, 4, none⟩ = some (.pointer (some ⟨vb, 0, none⟩)) ∧ W'.cell? ⟨gb, 1, none⟩ = some (.string o.key) ∧ W'.cell? ⟨g, 2, none⟩ = some (.int .i64 s))
          (exact HBX.out _ (by (repeat (first | assumption | exact Same.refl _ _ | apply Same.alloc | apply Same.drew | apply Same.drewN | refine put4_same ?_ (.inl (Nat.le_refl _)) _ _ _ _ | refine Same.trans' ?_ kq)); done))
          (first
          | (go_at_call 56; refine Calls.mono (HAF3.out _ W.heap.size ?_ ?_) ?_; (focus (exact heap_new _ _)); (focus ((repeat (first | exact Same.refl _ _ | apply Same.alloc | apply Same.drew | apply Same.drewN)); done)); rintro r w4 ⟨x, rfl, kq, ⟨b0, b1, b2, b3⟩, f0, f1, f2, f3⟩)
          | (go_at_call 56; refine Calls.mono (HAF2.out _ ?_) ?_; (focus ((repeat (first | exact Same.refl _ _ | apply Same.alloc | apply Same.drew | apply Same.drewN)); done)); rintro r w4 ⟨x, rfl, kq⟩))
        all_goals
          go_wp2_with fail
          go_meet
          exact ⟨rfl, (by (repeat (first | exact Same.refl _ _ | apply Same.alloc | apply Same.drew | apply Same.drewN | refine put4_same ?_ (.inl (Nat.le_refl _)) _ _ _ _ | refine Same.trans' ?_ kq)); done)⟩
      case rest =>
        obtain ⟨rfl, kz⟩ := hcut
        rename World => Z
        have KZ : Hid (Kept w1 Z) := Same.trans' K4.out kz
        clear kz
        cases bo with
        | true =>
          have EQ : Hid (q = true) := (show over M.A s l = q from HQ.out).symm.trans (over_yes HOJ.out EB.out)
          go_wp2_with fail
          go_ret
          exact ⟨by rw [show q = true from EQ.out]; rfl, Same.trans' K1.out KZ.out⟩
        | false =>
          have HNX : Hid ((l.take (j + 1)).any (fun o => (afM (ch M.A o.key) s).isSome) = false) := over_none HOJ.out HANY.out EB.out
          go_wp2_with fail
          go_roundw
          case rel => exact ⟨j + 1, by omega, by first | rfl | simp, HNX.out, KZ.out⟩
          case measure => simp only [intOf]; omega
    · have c1 : decide ((j : Int) < (n : Int)) = false := by simp only [decide_eq_false_iff_not]; omega
      obtain rfl : j = n := by omega
      go_wp2_with fail
      go_ret
      refine ⟨?_, Same.trans' K1.out KK.out⟩
      have h1 := HANY.out
      rw [show l.take j = l by rw [show j = l.length from EN.out]; exact List.take_length] at h1
      rw [← show over M.A s l = q from HQ.out, show over M.A s l = false from h1]
      rfl
end Go.Proofs.Ytmghmacgljihcaa
