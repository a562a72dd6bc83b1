/- What is proved: the law on what pruning leaves answers true; the scripts and times lie in memory. -/
import Derived.Test.YtnjpbagfbklofaaCPruM
import Derived.Test.YtnjpbagfbklofaaCSeenL
namespace Go.Proofs.Ytnjpbagfbklofaa
open Go.RowKit

theorem Two.fill {w w2 w3 : World} {sb ob : Nat} {A B : List En} {F G : Nat → Prop} (h1 : St F w2 sb A) (hF : ∀ x, F x → w.heap.size ≤ x) (k1 : Kept w w2) (h2 : St G w3 ob B) (hG : ∀ x, G x → w2.heap.size ≤ x) (k2 : Kept w2 w3) : Two w w3 sb ob A B F G :=
  ⟨h1.on k2, h2, fun x hx hg => by have := hG x hg; have := h1.lt x hx; omega, hF, fun x hg => Nat.le_trans k1.size (hG x hg), k1.trans' k2⟩
theorem inst_keys {A : List En} (h : ∀ e ∈ A, rightK e.key = true) (k : ByteArray) (x : Vn) : ∀ e ∈ inst A k x, rightK e.key = true := by
  unfold Ytnjpbagfbklofaa.inst
  split
  · rename_i h0
    intro e he
    rcases List.mem_append.1 he with he | he
    · exact h e he
    · simp only [List.mem_singleton] at he
      subst he
      exact (code_zero h0).1
  · exact h
theorem fil_keys (l : List OpC) {A : List En} (h : ∀ e ∈ A, rightK e.key = true) : ∀ e ∈ fil A l, rightK e.key = true := by
  induction l generalizing A with
  | nil => exact h
  | cons o r ih =>
    refine ih ?_
    unfold fil1
    split
    · exact inst_keys h _ _
    · exact h
/-- A key that is told is one that a machine can hold, and has a chain. -/
theorem key_told {A : List En} (h : ∀ e ∈ A, rightK e.key = true) {l : List (List UInt8)} (hk : KeysOf A l) {j : Nat} {x : List UInt8} (hx : l[j]? = some x) : (⟨x.toArray⟩ : ByteArray).size ≤ maxLen ∧ ch A ⟨x.toArray⟩ ≠ [] := by
  obtain ⟨e, he, hx'⟩ := (hk.2 x).1 (List.mem_of_getElem? hx)
  refine ⟨?_, ch_ne_nil.2 ⟨e, he, hx'.trans (ByteArray.toList_mk x).symm⟩⟩
  have h1 := h e he
  unfold rightK at h1
  have h2 : 0 < e.key.size ∧ e.key.size ≤ 8 := of_decide_eq_true h1
  have h3 : x.length = e.key.size := by rw [← hx', ByteArray.toList_eq, Array.length_toList]; rfl
  show x.toArray.size ≤ maxLen
  unfold maxLen
  simp only [List.size_toArray]
  omega
theorem keys_len {A : List En} {l : List (List UInt8)} (hk : KeysOf A l) : l.length ≤ A.length := by
  refine Nat.le_trans (nodup_le (m := A.map (·.key.toList)) ?_ fun x hx => ?_) (by simp)
  · exact List.Pairwise.imp (fun {a b} hab (e : a = b) => List.lt_irrefl a (by rw [← e] at hab; exact hab)) hk.1
  · obtain ⟨e, he, h⟩ := (hk.2 x).1 hx
    exact List.mem_map.2 ⟨e, he, h⟩
set_option maxRecDepth 100000 in
set_option maxHeartbeats 3200000 in
theorem prunes_law (w : World) (ad : Option Addr) (cap : Nat) (s : List OpC) (t : Int) (ti : Option Addr) (tc : Nat) (ts : List Int) (md : Option Addr) (mc : Nat) (ms : List OpC) (hl : OpsAt w ad s) (hs : Small s) (hn : s.length ≤ 1954687338268) (ht : NumsAt w ti ts) (htn : ts.length ≤ 17592186044416) (hm : OpsAt w md ms) (hms : Small ms) (hmn : ms.length ≤ 1954687338268) :
    Calls Try.prog 5 #[.slice ad s.length cap, .int .i64 t, .slice ti ts.length tc, .slice md ms.length mc] w fun e w' => e = .returned (.bool true) ∧ Kept w w' := by
  have HAN : Hid _ := anchor13_any w
  have HL : Hid _ := hl
  have HS : Hid _ := hs
  have HT : Hid _ := ht
  have HM : Hid _ := hm
  have HMS : Hid _ := hms
  have HN : Hid _ := hn
  obtain ⟨n, en⟩ : ∃ n, n = s.length := ⟨_, rfl⟩
  obtain ⟨nt, ent⟩ : ∃ n, n = ts.length := ⟨_, rfl⟩
  obtain ⟨nm, enm⟩ : ∃ n, n = ms.length := ⟨_, rfl⟩
  rw [← en] at hn
  rw [← ent] at htn
  rw [← enm] at hmn
  rw [← en, ← ent, ← enm]
  have EN : Hid _ := en
  have ENT : Hid _ := ent
  have ENM : Hid _ := enm
  clear hl en hs ht hm hms ent enm
  go_enter Try.func5, Try.ntmps5
  go_wp2_with fail
  refine Calls.mono HAN.out ?_
  rintro e w1 ⟨rfl, k1⟩
  have K1 : Hid _ := k1
  have HF1 : Hid _ := fill13 (cap := cap) (OpsAt.on HL.out k1) HS.out (Nat.le_trans HN.out (by decide))
  rw [← show n = s.length from EN.out] at HF1
  clear k1 HAN
  go_wp2_with fail
  refine Calls.mono HF1.out ?_
  rintro e w2 ⟨sb, F, rfl, st2, hF2, k2⟩
  have HF2 : Hid _ := fill13 (cap := cap) (OpsAt.on HL.out (Same.trans' K1.out k2)) HS.out (Nat.le_trans HN.out (by decide))
  rw [← show n = s.length from EN.out] at HF2
  have ST2 : Hid _ := st2
  have HFF : Hid _ := hF2
  have K2 : Hid _ := k2
  clear HF1 st2 hF2 k2
  go_wp2_with fail
  refine Calls.mono HF2.out ?_
  rintro e w3 ⟨ob, G, rfl, st3, hG3, k3⟩
  have T3 : Hid _ := Two.fill ST2.out HFF.out K2.out st3 hG3 k3
  have hAl : (fil [] s).length ≤ n := by
    have := fil_length s []
    rw [show n = s.length from EN.out]
    simpa using this
  have HRK : Hid _ := fil_keys s (A := []) (fun e he => by simp at he)
  have HGD : Hid _ := st3.good
  clear HF2 st3 hG3 k3 ST2 HFF K2 HL HS HN EN
  generalize fil [] s = A at *
  have HC1 : Hid _ := count13 (Two.a T3.out)
  go_wp2_with fail
  refine Calls.mono HC1.out ?_
  rintro e w3' ⟨rfl, rfl⟩
  have HP1 : Hid _ := prune13 (Two.a T3.out) t (by omega)
  clear HC1
  go_wp2_with fail
  refine Calls.mono HP1.out ?_
  rintro e w4 ⟨rfl, st4, s4⟩
  have T4 : Hid _ := Two.prn T3.out st4 s4
  clear HP1 st4 s4
  have hPl := prn_length A t
  have hid := prn_idem HGD.out t
  have HSF : Hid _ := Suf.prn HGD.out t
  have HPCH : Hid _ := Good.prn_ch HGD.out t
  have HPK : Hid (∀ l, KeysOf (prn A t) l → KeysOf A l) := fun l hl => prn_keys HGD.out hl
  have HP2N : Hid (∀ k y, (ch (prn A t) k)[1]? = some y → t < y.c) := fun k y hy => prn_second HGD.out hy
  have HP1N : Hid (∀ k, ch A k ≠ [] → 0 < (ch (prn A t) k).length) := fun k hk => prn_some HGD.out hk
  have HC2 : Hid _ := count13 (Two.a T4.out)
  have HP2 : Hid _ := prune13 (Two.a T4.out) t (by omega)
  rw [hid, Nat.sub_self] at HP2
  generalize prn A t = P at *
  clear hid
  obtain ⟨d, ed⟩ : ∃ d, d = A.length - P.length := ⟨_, rfl⟩
  obtain ⟨na, ena⟩ : ∃ x, x = A.length := ⟨_, rfl⟩
  obtain ⟨np, enp⟩ : ∃ x, x = P.length := ⟨_, rfl⟩
  rw [← ena] at hAl
  rw [← ed, ← ena]
  rw [← enp] at HC2
  have i1 : (na : Int) - (d : Int) = (np : Int) := by omega
  have i2 : IntKind.i64.wrap (np : Int) = (np : Int) := by rw [IntKind.wrap_i64]; omega
  have i3 : ((np : Int) != (np : Int)) = false := by simp
  have i4 : ¬ ((d : Int) < 0) := by omega
  have i5 : decide ((d : Int) < 0) = false := decide_eq_false i4
  have ENA : Hid _ := ena
  have ENP : Hid _ := enp
  clear ed ena enp hPl
  go_wp2_with fail
  refine Calls.mono HC2.out ?_
  rintro e w4' ⟨rfl, rfl⟩
  go_wp2_with fail
  refine Calls.mono HP2.out ?_
  rintro e w5 ⟨rfl, st5, s5⟩
  have T5 : Hid _ := Two.prn T4.out st5 s5
  have HK1 : Hid _ := keys13 (Two.a T5.out) (by rw [← show np = P.length from ENP.out]; omega)
  clear HC2 HP2 st5 s5
  go_wp2_with fail
  refine Calls.mono HK1.out ?_
  rintro e w6 ⟨v6, l6, rfl, kk6, o6, k6⟩
  obtain ⟨a6, c6, rfl, -⟩ := OwnS.strs o6
  have T6 : Hid _ := Two.on T5.out k6
  have HK2 : Hid _ := keys13 (Two.b T6.out) (by rw [← show na = A.length from ENA.out]; omega)
  have KK6 : Hid _ := HPK.out _ kk6
  clear HK1 o6 k6 kk6 HPK
  go_wp2_with fail
  refine Calls.mono HK2.out ?_
  rintro e w7 ⟨v7, l7, rfl, kk7, o7, k7⟩
  obtain ⟨a7, c7, rfl, -⟩ := OwnS.strs o7
  have T7 : Hid _ := Two.on T6.out k7
  obtain rfl := KeysOf.unique KK6.out kk7
  have HK3 : Hid _ := keys13 (Two.b T7.out) (by rw [← show na = A.length from ENA.out]; omega)
  clear HK2 o7 k7
  have i6 : ((l6.length : Int) != (l6.length : Int)) = false := by simp
  go_wp2_with fail
  refine Calls.mono HK3.out ?_
  rintro e w8 ⟨v8, l8, rfl, kk8, o8, k8⟩
  obtain ⟨a8, c8, rfl, sa8, -⟩ := OwnS.strs o8
  obtain rfl := KeysOf.unique kk7 kk8
  have T8 : Hid _ := Two.on T7.out k8
  have SA : Hid _ := sa8
  have KEYS : Hid _ := kk7
  clear HK3 o8 k8 kk8 kk7 sa8 KK6 i6
  obtain ⟨nk, enk⟩ : ∃ x, x = l6.length := ⟨_, rfl⟩
  rw [← enk]
  have ENK : Hid _ := enk
  have hnk : nk ≤ na := by
    rw [enk, show na = A.length from ENA.out]
    exact keys_len KEYS.out
  clear enk
  go_wp2_with fail
  go_loopw [73] (fun i wr => ∃ q : Nat, q ≤ nk ∧ i = .int .i64 q ∧ Kept w8 wr) (fun i _ => nk - (intOf i).toNat)
  case atStart => exact ⟨0, Nat.zero_le _, rfl, Same.refl _ _⟩
  case round =>
    obtain ⟨q, hq, rfl, kk⟩ := hrel
    have KK : Hid _ := kk
    clear kk
    rename World => wo
    by_cases hlt : q < nk
    · have c1 : decide ((q : Int) < (nk : Int)) = true := by simp only [decide_eq_true_eq]; omega
      have hlt2 : (q : Int) < (nk : Int) := by omega
      obtain ⟨x, hx⟩ : ∃ x, l6[q]? = some x := ⟨_, List.getElem?_eq_getElem (by rw [← show nk = l6.length from ENK.out]; exact hlt)⟩
      obtain ⟨bk, offk, rfl, hbk, ck⟩ := (StrsAt.on SA.out KK.out) q x hx
      obtain ⟨hks, hkn⟩ := key_told HRK.out KEYS.out hx
      generalize (⟨x.toArray⟩ : ByteArray) = k at *
      clear hx
      go_wp2_with fail
      go_loopw [79, 16] (fun i _ w9 => ∃ z : Nat, z ≤ nt ∧ i = .int .i64 z ∧ Kept wo w9) (fun i _ _ => nt - (intOf i).toNat)
      case atStart => exact ⟨0, Nat.zero_le _, rfl, Same.refl _ _⟩
      case round =>
        obtain ⟨z, hz, rfl, k9⟩ := hrel
        have K9 : Hid _ := k9
        clear k9
        by_cases hlz : z < nt
        · have c2 : decide ((z : Int) < (nt : Int)) = true := by simp only [decide_eq_true_eq]; omega
          have hlz2 : (z : Int) < (nt : Int) := by omega
          obtain ⟨u, hu⟩ : ∃ u, ts[z]? = some u := ⟨_, List.getElem?_eq_getElem (by rw [← show nt = ts.length from ENT.out]; exact hlz)⟩
          obtain ⟨bt, offt, rfl, hbt, ct⟩ := (NumsAt.on HT.out (Same.trans' K1.out (Same.trans' (Two.kept T8.out) (Same.trans' KK.out K9.out)))) z u hu
          clear hu
          by_cases htf : u < t
          · have d1 : decide (u < t) = true := decide_eq_true htf
            have AT1 : Hid _ := at13 (Two.a (Two.on T8.out (Same.trans' KK.out K9.out))) k hks t (by rw [← show np = P.length from ENP.out]; omega)
            rw [show ch P k = _ from HPCH.out k, at_drop (HGD.out k) (Int.le_refl _)] at AT1
            have HT9 : Hid _ := Two.on T8.out (Same.trans' KK.out K9.out)
            generalize hoa : atM (ch A k) t = oa at *
            generalize hob : afM (ch A k) t = ob' at *
            have HOA : Hid _ := hoa
            have HOB : Hid _ := hob
            generalize hpa : ans oa = pa at *
            generalize hpb : ans ob' = pb at *
            generalize hba : oa.isSome = ba at *
            generalize hbb : ob'.isSome = bb at *
            have HPA : Hid (ans oa = pa ∧ oa.isSome = ba ∧ ans ob' = pb ∧ ob'.isSome = bb) := ⟨hpa, hba, hpb, hbb⟩
            clear hoa hob hpa hpb hba hbb
            go_wp2_with fail
            refine Calls.mono AT1.out ?_
            rintro e u1 ⟨rfl, j1⟩
            have J1 : Hid (Kept wr (u1.alloc (.cells #[.int .i64 pa.c, .int .i64 pa.w, .bool pa.f, .string pa.v] 31 (0, 0)))) := j1.alloc _
            have B1 : Hid _ := heap_new u1 (.cells #[.int .i64 pa.c, .int .i64 pa.w, .bool pa.f, .string pa.v] 31 (0, 0))
            have AT2 : Hid _ := at13 (Two.b (Two.on HT9.out J1.out)) k hks t (by rw [← show na = A.length from ENA.out]; omega)
            rw [show atM (ch A k) t = oa from HOA.out, HPA.out.1, HPA.out.2.1] at AT2
            clear j1 AT1
            go_wp2_with fail
            generalize u1.alloc (.cells #[.int .i64 pa.c, .int .i64 pa.w, .bool pa.f, .string pa.v] 31 (0, 0)) = y1 at *
            generalize u1.heap.size = g1 at *
            refine Calls.mono AT2.out ?_
            rintro e u2 ⟨rfl, j2⟩
            have J2 : Hid (Kept y1 (u2.alloc (.cells #[.int .i64 pa.c, .int .i64 pa.w, .bool pa.f, .string pa.v] 31 (0, 0)))) := j2.alloc _
            have B2 : Hid _ := heap_new u2 (.cells #[.int .i64 pa.c, .int .i64 pa.w, .bool pa.f, .string pa.v] 31 (0, 0))
            have AF1 : Hid _ := after13 (Two.a (Two.on HT9.out (Same.trans' J1.out J2.out))) k hks t (by rw [← show np = P.length from ENP.out]; omega)
            rw [show ch P k = _ from HPCH.out k, af_drop (HGD.out k) (Int.le_refl _), show afM (ch A k) t = ob' from HOB.out, HPA.out.2.2.1, HPA.out.2.2.2] at AF1
            clear j2 AT2
            go_wp2_with fail
            generalize u2.alloc (.cells #[.int .i64 pa.c, .int .i64 pa.w, .bool pa.f, .string pa.v] 31 (0, 0)) = y2 at *
            generalize u2.heap.size = g2 at *
            refine Calls.mono AF1.out ?_
            rintro e u3 ⟨rfl, j3⟩
            have J3 : Hid (Kept y2 (u3.alloc (.cells #[.int .i64 pb.c, .int .i64 pb.w, .bool pb.f, .string pb.v] 31 (0, 0)))) := j3.alloc _
            have B3 : Hid _ := heap_new u3 (.cells #[.int .i64 pb.c, .int .i64 pb.w, .bool pb.f, .string pb.v] 31 (0, 0))
            have AF2 : Hid _ := after13 (Two.b (Two.on HT9.out (Same.trans' J1.out (Same.trans' J2.out J3.out)))) k hks t (by rw [← show na = A.length from ENA.out]; omega)
            rw [show afM (ch A k) t = ob' from HOB.out, HPA.out.2.2.1, HPA.out.2.2.2] at AF2
            clear j3 AF1
            go_wp2_with fail
            generalize u3.alloc (.cells #[.int .i64 pb.c, .int .i64 pb.w, .bool pb.f, .string pb.v] 31 (0, 0)) = y3 at *
            generalize u3.heap.size = g3 at *
            refine Calls.mono AF2.out ?_
            rintro e u4 ⟨rfl, j4⟩
            have J4 : Hid (Kept y3 (u4.alloc (.cells #[.int .i64 pb.c, .int .i64 pb.w, .bool pb.f, .string pb.v] 31 (0, 0)))) := j4.alloc _
            have B4 : Hid _ := heap_new u4 (.cells #[.int .i64 pb.c, .int .i64 pb.w, .bool pb.f, .string pb.v] 31 (0, 0))
            clear j4 AF2
            go_upto_region 22 with fail
            generalize u4.alloc (.cells #[.int .i64 pb.c, .int .i64 pb.w, .bool pb.f, .string pb.v] 31 (0, 0)) = y4 at *
            generalize u4.heap.size = g4 at *
            have r3 := (J4.out.block _ (lt_of_heap B3.out) (fun e => e)).trans B3.out
            have r2 := ((Same.trans' J3.out J4.out).block _ (lt_of_heap B2.out) (fun e => e)).trans B2.out
            have r1 := ((Same.trans' J2.out (Same.trans' J3.out J4.out)).block _ (lt_of_heap B1.out) (fun e => e)).trans B1.out
            obtain ⟨⟨m0, m1, m2, m3⟩, -⟩ := ver_obj r1
            obtain ⟨⟨n0, n1, n2, n3⟩, -⟩ := ver_obj r2
            obtain ⟨⟨p0, p1, p2, p3⟩, -⟩ := ver_obj r3
            obtain ⟨⟨s0, s1, s2, s3⟩, -⟩ := ver_obj B4.out
            have nqa := neq_ver pa
            have nqb := neq_ver pb
            have nba : (ba != ba) = false := by simp
            have nbb : (bb != bb) = false := by simp
            have x1 := lt_of_heap r1
            have x2 := lt_of_heap r2
            have x3 := lt_of_heap r3
            have x4 := lt_of_heap B4.out
            clear r1 r2 r3
            go_wp2_with fail
            go_roundw
            case rel => exact ⟨z + 1, by omega, by simp, Same.trans' K9.out (Same.trans' J1.out (Same.trans' J2.out (Same.trans' J3.out J4.out)))⟩
            case measure => simp only [intOf]; omega
          · have d1 : decide (u < t) = false := decide_eq_false htf
            have HTU : Hid (t ≤ u) := Int.not_lt.1 htf
            have AT1 : Hid _ := at13 (Two.a (Two.on T8.out (Same.trans' KK.out K9.out))) k hks u (by rw [← show np = P.length from ENP.out]; omega)
            rw [show ch P k = _ from HPCH.out k, at_drop (HGD.out k) HTU.out] at AT1
            have HT9 : Hid _ := Two.on T8.out (Same.trans' KK.out K9.out)
            generalize hoa : atM (ch A k) u = oa at *
            generalize hob : afM (ch A k) u = ob' at *
            have HOA : Hid _ := hoa
            have HOB : Hid _ := hob
            generalize hpa : ans oa = pa at *
            generalize hpb : ans ob' = pb at *
            generalize hba : oa.isSome = ba at *
            generalize hbb : ob'.isSome = bb at *
            have HPA : Hid (ans oa = pa ∧ oa.isSome = ba ∧ ans ob' = pb ∧ ob'.isSome = bb) := ⟨hpa, hba, hpb, hbb⟩
            clear hoa hob hpa hpb hba hbb
            go_wp2_with fail
            refine Calls.mono AT1.out ?_
            rintro e u1 ⟨rfl, j1⟩
            have J1 : Hid (Kept wr (u1.alloc (.cells #[.int .i64 pa.c, .int .i64 pa.w, .bool pa.f, .string pa.v] 31 (0, 0)))) := j1.alloc _
            have B1 : Hid _ := heap_new u1 (.cells #[.int .i64 pa.c, .int .i64 pa.w, .bool pa.f, .string pa.v] 31 (0, 0))
            have AT2 : Hid _ := at13 (Two.b (Two.on HT9.out J1.out)) k hks u (by rw [← show na = A.length from ENA.out]; omega)
            rw [show atM (ch A k) u = oa from HOA.out, HPA.out.1, HPA.out.2.1] at AT2
            clear j1 AT1
            go_wp2_with fail
            generalize u1.alloc (.cells #[.int .i64 pa.c, .int .i64 pa.w, .bool pa.f, .string pa.v] 31 (0, 0)) = y1 at *
            generalize u1.heap.size = g1 at *
            refine Calls.mono AT2.out ?_
            rintro e u2 ⟨rfl, j2⟩
            have J2 : Hid (Kept y1 (u2.alloc (.cells #[.int .i64 pa.c, .int .i64 pa.w, .bool pa.f, .string pa.v] 31 (0, 0)))) := j2.alloc _
            have B2 : Hid _ := heap_new u2 (.cells #[.int .i64 pa.c, .int .i64 pa.w, .bool pa.f, .string pa.v] 31 (0, 0))
            have AF1 : Hid _ := after13 (Two.a (Two.on HT9.out (Same.trans' J1.out J2.out))) k hks u (by rw [← show np = P.length from ENP.out]; omega)
            rw [show ch P k = _ from HPCH.out k, af_drop (HGD.out k) HTU.out, show afM (ch A k) u = ob' from HOB.out, HPA.out.2.2.1, HPA.out.2.2.2] at AF1
            clear j2 AT2
            go_wp2_with fail
            generalize u2.alloc (.cells #[.int .i64 pa.c, .int .i64 pa.w, .bool pa.f, .string pa.v] 31 (0, 0)) = y2 at *
            generalize u2.heap.size = g2 at *
            refine Calls.mono AF1.out ?_
            rintro e u3 ⟨rfl, j3⟩
            have J3 : Hid (Kept y2 (u3.alloc (.cells #[.int .i64 pb.c, .int .i64 pb.w, .bool pb.f, .string pb.v] 31 (0, 0)))) := j3.alloc _
            have B3 : Hid _ := heap_new u3 (.cells #[.int .i64 pb.c, .int .i64 pb.w, .bool pb.f, .string pb.v] 31 (0, 0))
            have AF2 : Hid _ := after13 (Two.b (Two.on HT9.out (Same.trans' J1.out (Same.trans' J2.out J3.out)))) k hks u (by rw [← show na = A.length from ENA.out]; omega)
            rw [show afM (ch A k) u = ob' from HOB.out, HPA.out.2.2.1, HPA.out.2.2.2] at AF2
            clear j3 AF1
            go_wp2_with fail
            generalize u3.alloc (.cells #[.int .i64 pb.c, .int .i64 pb.w, .bool pb.f, .string pb.v] 31 (0, 0)) = y3 at *
            generalize u3.heap.size = g3 at *
            refine Calls.mono AF2.out ?_
            rintro e u4 ⟨rfl, j4⟩
            have J4 : Hid (Kept y3 (u4.alloc (.cells #[.int .i64 pb.c, .int .i64 pb.w, .bool pb.f, .string pb.v] 31 (0, 0)))) := j4.alloc _
            have B4 : Hid _ := heap_new u4 (.cells #[.int .i64 pb.c, .int .i64 pb.w, .bool pb.f, .string pb.v] 31 (0, 0))
            clear j4 AF2
            go_upto_region 22 with fail
            generalize u4.alloc (.cells #[.int .i64 pb.c, .int .i64 pb.w, .bool pb.f, .string pb.v] 31 (0, 0)) = y4 at *
            generalize u4.heap.size = g4 at *
            have r3 := (J4.out.block _ (lt_of_heap B3.out) (fun e => e)).trans B3.out
            have r2 := ((Same.trans' J3.out J4.out).block _ (lt_of_heap B2.out) (fun e => e)).trans B2.out
            have r1 := ((Same.trans' J2.out (Same.trans' J3.out J4.out)).block _ (lt_of_heap B1.out) (fun e => e)).trans B1.out
            obtain ⟨⟨m0, m1, m2, m3⟩, -⟩ := ver_obj r1
            obtain ⟨⟨n0, n1, n2, n3⟩, -⟩ := ver_obj r2
            obtain ⟨⟨p0, p1, p2, p3⟩, -⟩ := ver_obj r3
            obtain ⟨⟨s0, s1, s2, s3⟩, -⟩ := ver_obj B4.out
            have nqa := neq_ver pa
            have nqb := neq_ver pb
            have nba : (ba != ba) = false := by simp
            have nbb : (bb != bb) = false := by simp
            have x1 := lt_of_heap r1
            have x2 := lt_of_heap r2
            have x3 := lt_of_heap r3
            have x4 := lt_of_heap B4.out
            clear r1 r2 r3
            go_wp2_with fail
            go_roundw
            case rel => exact ⟨z + 1, by omega, by simp, Same.trans' K9.out (Same.trans' J1.out (Same.trans' J2.out (Same.trans' J3.out J4.out)))⟩
            case measure => simp only [intOf]; omega
        · have c2 : decide ((z : Int) < (nt : Int)) = false := by simp only [decide_eq_false_iff_not]; omega
          obtain rfl : z = nt := by omega
          have HCH : Hid _ := chain13 (Two.a (Two.on T8.out (Same.trans' KK.out K9.out))) k hks (by rw [← show np = P.length from ENP.out]; omega)
          have h1 := HP1N.out k hkn
          have HSEC : Hid _ := HP2N.out k
          have hcl := ch_length_le P k
          rw [← show np = P.length from ENP.out] at hcl
          generalize ch P k = l at *
          go_wp2_with fail
          refine Calls.mono HCH.out ?_
          rintro e u1 ⟨v1, rfl, o1, j1⟩
          obtain ⟨a1, c1', rfl, hv1, -⟩ := OwnV.vers o1
          have J1 : Hid _ := j1
          clear HCH o1 j1
          obtain ⟨ll, ell⟩ : ∃ x, x = l.length := ⟨_, rfl⟩
          rw [← ell] at h1 hcl ⊢
          have f1 : ¬ ((ll : Int) < 1) := by omega
          have f2 : decide ((ll : Int) < 1) = false := decide_eq_false f1
          have f3 : ¬ (ll < 1) := by omega
          have f3' : ¬ ll = 0 := by omega
          by_cases h2 : ll = 1
          · have f4 : ¬ ((1 : Int) < (ll : Int)) := by omega
            have f5 : decide ((1 : Int) < (ll : Int)) = false := decide_eq_false f4
            have f6 : ¬ (1 < ll) := by omega
            clear hv1 h2 ell
            go_wp2_with fail
            go_roundw
            case rel => exact ⟨q + 1, by omega, by simp, Same.trans' KK.out (Same.trans' K9.out J1.out)⟩
            case measure => simp only [intOf]; omega
          · have f4 : (1 : Int) < (ll : Int) := by omega
            have f5 : decide ((1 : Int) < (ll : Int)) = true := decide_eq_true f4
            have f6 : 1 < ll := by omega
            obtain ⟨y, hy⟩ : ∃ y, l[1]? = some y := ⟨_, List.getElem?_eq_getElem (by rw [← ell]; exact f6)⟩
            obtain ⟨b1, off1, rfl, hb1, z0, -⟩ := hv1 1 y hy
            have hyt := HSEC.out y hy
            rw [Nat.one_mul] at z0
            have f7 : ¬ (y.c ≤ t) := by omega
            have f8 : decide (y.c ≤ t) = false := decide_eq_false f7
            clear hv1 h2 ell hy hyt
            go_wp2_with fail
            go_roundw
            case rel => exact ⟨q + 1, by omega, by simp, Same.trans' KK.out (Same.trans' K9.out J1.out)⟩
            case measure => simp only [intOf]; omega
    · have c1 : decide ((q : Int) < (nk : Int)) = false := by simp only [decide_eq_false_iff_not]; omega
      obtain rfl : q = nk := by omega
      have T9 : Hid _ := Two.on T8.out KK.out
      go_wp2_with fail
      go_loopw [156] (fun i w9 => ∃ (z : Nat) (P' A' : List En) (F' G' : Nat → Prop), z ≤ nm ∧ i = .int .i64 z ∧ Two w1 w9 sb ob P' A' F' G' ∧ Suf P' A' ∧ P'.length ≤ n + z ∧ A'.length ≤ n + z) (fun i _ => nm - (intOf i).toNat)
      case atStart => exact ⟨0, P, A, F, G, Nat.zero_le _, rfl, T9.out, HSF.out, by rw [← show np = P.length from ENP.out]; omega, by rw [← show na = A.length from ENA.out]; omega⟩
      case round =>
        obtain ⟨z, P', A', F', G', hz, rfl, tw, sf, hlp, hla⟩ := hrel
        have TW : Hid _ := tw
        have SF : Hid _ := sf
        clear tw sf
        by_cases hlz : z < nm
        · have c2 : decide ((z : Int) < (nm : Int)) = true := by simp only [decide_eq_true_eq]; omega
          have hlz2 : (z : Int) < (nm : Int) := by omega
          obtain ⟨o, ho⟩ : ∃ o, ms[z]? = some o := ⟨_, List.getElem?_eq_getElem (by rw [← show nm = ms.length from ENM.out]; exact hlz)⟩
          obtain ⟨bb, off, rfl, hbb, q0, q1, q2, q3, q4, q5, q6⟩ := (OpsAt.on HM.out (Same.trans' K1.out (Two.kept TW.out))) z o ho
          have hsm := (show Small ms from HMS.out) o (List.mem_of_getElem? ho)
          have TW1 : Hid _ := Two.on TW.out ((Same.refl _ wr).alloc (.cells #[.int .i64 o.kind, .int .i64 o.time, .string o.key, .int .i64 o.x.c, .int .i64 o.x.w, .bool o.x.f, .string o.x.v] 33 (0, 0)))
          have GO : Hid _ := heap_new wr (.cells #[.int .i64 o.kind, .int .i64 o.time, .string o.key, .int .i64 o.x.c, .int .i64 o.x.w, .bool o.x.f, .string o.x.v] 33 (0, 0))
          have HGN : Hid (∀ b', F' b' → b' ≠ wr.heap.size) := fun b' hb' e => by have := St.lt (Two.a TW.out) b' hb'; omega
          have HGNG : Hid (∀ b', G' b' → b' ≠ wr.heap.size) := fun b' hb' e => by have := St.lt (Two.b TW.out) b' hb'; omega
          have hcd := Suf.code SF.out (St.good (Two.a TW.out)) (St.good (Two.b TW.out)) o.key o.x
          have SF2 : Hid _ := Suf.inst SF.out (St.good (Two.a TW.out)) (St.good (Two.b TW.out)) o.key o.x
          have hl1 := inst_length P' o.key o.x
          have hl2 := inst_length A' o.key o.x
          clear ho
          go_upto_region 32 with fail
          generalize wr.alloc (.cells #[.int .i64 o.kind, .int .i64 o.time, .string o.key, .int .i64 o.x.c, .int .i64 o.x.w, .bool o.x.f, .string o.x.v] 33 (0, 0)) = W at *
          generalize wr.heap.size = gx at *
          have hwgx : gx < W.heap.size := lt_of_heap GO.out
          have HCE : Hid (∀ V : World, V.heap[gx]? = some (.cells #[.int .i64 o.kind, .int .i64 o.time, .string o.key, .int .i64 o.x.c, .int .i64 o.x.w, .bool o.x.f, .string o.x.v] 33 (0, 0)) → ∀ W', Kept V W' → W'.cell? ⟨gx, 2, none⟩ = some (.string o.key) ∧ W'.cell? ⟨gx, 3, none⟩ = some (.int .i64 o.x.c) ∧ W'.cell? ⟨gx, 4, none⟩ = some (.int .i64 o.x.w) ∧ W'.cell? ⟨gx, 5, none⟩ = some (.bool o.x.f) ∧ W'.cell? ⟨gx, 6, none⟩ = some (.string o.x.v)) := fun V hV W' k' => by
            have hg := (k'.block gx (lt_of_heap hV) (fun e => e)).trans hV
            exact ⟨(cell_of hg 2).trans rfl, (cell_of hg 3).trans rfl, (cell_of hg 4).trans rfl, (cell_of hg 5).trans rfl, (cell_of hg 6).trans rfl⟩
          have HBW : Hid (∀ W', Kept W W' → W'.cell? ⟨gx, 2, none⟩ = some (.string o.key) ∧ W'.cell? ⟨gx, 3, none⟩ = some (.int .i64 o.x.c) ∧ W'.cell? ⟨gx, 4, none⟩ = some (.int .i64 o.x.w) ∧ W'.cell? ⟨gx, 5, none⟩ = some (.bool o.x.f) ∧ W'.cell? ⟨gx, 6, none⟩ = some (.string o.x.v)) := fun W' k' => HCE.out W GO.out W' k'
          have HI1 : Hid (∀ W', Kept W W' → Calls Try.prog 20 #[.pointer (some ⟨sb, 0, none⟩), .string o.key, verV o.x] W' fun e w' => e = .returned (.int .i64 (code P' o.key o.x)) ∧ (∃ F4, Two w1 w' sb ob (inst P' o.key o.x) A' F4 G') ∧ w'.heap[gx]? = some (.cells #[.int .i64 o.kind, .int .i64 o.time, .string o.key, .int .i64 o.x.c, .int .i64 o.x.w, .bool o.x.f, .string o.x.v] 33 (0, 0))) := fun W' k' =>
            Calls.mono (install13 (Two.a (Two.on TW1.out k')) o.key hsm o.x (by omega)) (by
              rintro e w' ⟨he, ip⟩
              refine ⟨he, Two.ins (Two.on TW1.out k') ip, ?_⟩
              obtain ⟨F4, -, -, s4⟩ := ip
              exact (s4.block gx (Nat.lt_of_lt_of_le hwgx k'.size) (fun hf => HGN.out gx hf rfl)).trans ((k'.block gx hwgx (fun e => e)).trans GO.out))
          have HGN2 : Hid (∀ b', G' b' → b' ≠ gx) := HGNG.out
          have HI2 : Hid (∀ w4, (∃ F4, Two w1 w4 sb ob (inst P' o.key o.x) A' F4 G') → w4.heap[gx]? = some (.cells #[.int .i64 o.kind, .int .i64 o.time, .string o.key, .int .i64 o.x.c, .int .i64 o.x.w, .bool o.x.f, .string o.x.v] 33 (0, 0)) → ∀ W', Kept w4 W' → Calls Try.prog 20 #[.pointer (some ⟨ob, 0, none⟩), .string o.key, verV o.x] W' fun e w' => e = .returned (.int .i64 (code P' o.key o.x)) ∧ (∃ F4 G4, Two w1 w' sb ob (inst P' o.key o.x) (inst A' o.key o.x) F4 G4) ∧ w'.heap[gx]? = some (.cells #[.int .i64 o.kind, .int .i64 o.time, .string o.key, .int .i64 o.x.c, .int .i64 o.x.w, .bool o.x.f, .string o.x.v] 33 (0, 0))) := fun w4 h4 b4 W' k' => by
            obtain ⟨F4, t4⟩ := h4
            rw [hcd]
            refine Calls.mono (install13 (Two.b (Two.on t4 k')) o.key hsm o.x (by omega)) ?_
            rintro e w' ⟨he, ip⟩
            obtain ⟨G4, t5⟩ := Two.ins (Two.swap (Two.on t4 k')) ip
            refine ⟨he, ⟨F4, G4, Two.swap t5⟩, ?_⟩
            obtain ⟨G5, -, -, s4⟩ := ip
            exact (s4.block gx (Nat.lt_of_lt_of_le (lt_of_heap b4) k'.size) (fun hf => HGN2.out gx hf rfl)).trans ((k'.block gx (lt_of_heap b4) (fun e => e)).trans b4)
          unfold verV at HI1 HI2
          generalize code P' o.key o.x = cd at HI1 HI2
          have ncd : (cd != cd) = false := by simp
          clear hcd TW1
          go_cut [172] (fun s172 wx => s172 = .bool false ∧ ∃ F4 G4, Two w1 wx sb ob (inst P' o.key o.x) (inst A' o.key o.x) F4 G4)
          case first =>
            go_region_held3 (fun W' => W'.cell? ⟨gx, 2, none⟩ = some (.string o.key) ∧ W'.cell? ⟨gx, 3, none⟩ = some (.int .i64 o.x.c) ∧ W'.cell? ⟨gx, 4, none⟩ = some (.int .i64 o.x.w) ∧ W'.cell? ⟨gx, 5, none⟩ = some (.bool o.x.f) ∧ W'.cell? ⟨gx, 6, none⟩ = some (.string o.x.v))
              (first | exact HB5.out _ (by (repeat (first | exact Same.refl _ _ | apply Same.drew | apply Same.drewN)); done) | exact HB4.out _ (by (repeat (first | exact Same.refl _ _ | apply Same.drew | apply Same.drewN)); done) | exact HBW.out _ (by (repeat (first | exact Same.refl _ _ | apply Same.drew | apply Same.drewN)); done))
              (first
              | (go_at_call 20; have _t := B4; refine Calls.mono (HI2.out _ T4.out B4.out _ (by (repeat (first | exact Same.refl _ _ | apply Same.drew | apply Same.drewN)); done)) ?_; rintro e w5 ⟨rfl, t5, b5⟩; have T5' : Hid _ := t5; have HB5 : Hid (∀ W', Kept w5 W' → W'.cell? ⟨gx, 2, none⟩ = some (.string o.key) ∧ W'.cell? ⟨gx, 3, none⟩ = some (.int .i64 o.x.c) ∧ W'.cell? ⟨gx, 4, none⟩ = some (.int .i64 o.x.w) ∧ W'.cell? ⟨gx, 5, none⟩ = some (.bool o.x.f) ∧ W'.cell? ⟨gx, 6, none⟩ = some (.string o.x.v)) := HCE.out w5 b5; clear t5 b5)
              | (go_at_call 20; refine Calls.mono (HI1.out _ (by (repeat (first | exact Same.refl _ _ | apply Same.drew | apply Same.drewN)); done)) ?_; rintro e w4 ⟨rfl, t4, b4⟩; have T4 : Hid _ := t4; have B4 : Hid _ := b4; have HB4 : Hid (∀ W', Kept w4 W' → W'.cell? ⟨gx, 2, none⟩ = some (.string o.key) ∧ W'.cell? ⟨gx, 3, none⟩ = some (.int .i64 o.x.c) ∧ W'.cell? ⟨gx, 4, none⟩ = some (.int .i64 o.x.w) ∧ W'.cell? ⟨gx, 5, none⟩ = some (.bool o.x.f) ∧ W'.cell? ⟨gx, 6, none⟩ = some (.string o.x.v)) := HCE.out w4 b4; clear t4 b4))
            all_goals
              go_wp2_with fail
              go_meet
              obtain ⟨F4, G4, t5⟩ := T5'.out
              exact ⟨rfl, F4, G4, Two.on t5 (by (repeat (first | exact Same.refl _ _ | apply Same.drew | apply Same.drewN)); done)⟩
          case rest =>
            obtain ⟨rfl, F4, G4, t5⟩ := hcut
            have T5' : Hid _ := t5
            clear t5
            go_wp2_with fail
            go_roundw
            case rel => exact ⟨z + 1, _, _, F4, G4, by omega, by simp, T5'.out, SF2.out, by omega, by omega⟩
            case measure => simp only [intOf]; omega
        · have c2 : decide ((z : Int) < (nm : Int)) = false := by simp only [decide_eq_false_iff_not]; omega
          obtain rfl : z = nm := by omega
          go_wp2_with fail
          go_ret
          exact ⟨rfl, Same.trans' K1.out (Two.kept TW.out)⟩
end Go.Proofs.Ytnjpbagfbklofaa
