/- What is proved: LogfileEarly answers true for every two lists of bytes that fit into memory together. -/
import Derived.Test.YthnhfahkanpjjabLOneL
import Derived.Test.YthnhfahkanpjjabLTell
namespace Go.Proofs.Ythnhfahkanpjjab
open Go.RowKit

def mO7 : Value → Nat → Nat
  | .bool true, k => k
  | _, _ => 0
/-- What stands at the head of the loop. -/
def Er7 (w W : World) (sb : Nat) (d : List Int) (vm vf : Value) (k : Nat) : Prop :=
  (vm = .bool true ∧ vf = .int .i64 0 ∧ ∃ g s vs, g.length = k ∧ At w.heap.size W sb vs d false s ∧ Fed d g s ∧ s.er = 0 ∧ s.ct ≤ s.pl ∧ Kept w W) ∨
  (vm = .bool false ∧ ∃ s vs, vf = .int .i64 s.er ∧ At w.heap.size W sb vs d false s ∧ (s.er ≠ 0 → ∀ x, dec7 (d ++ x) = .error (s.pl, s.er)) ∧ Kept w W)
set_option maxRecDepth 100000 in
set_option maxHeartbeats 3200000 in
theorem learly_any (w : World) (oa : Option Addr) (c : Nat) (d : List Int) (ob : Option Addr) (cb : Nat) (q : List Int) (h : ArgB w oa c d) (hq : ArgB w ob cb q) (hs : d.length + q.length ≤ 1048576) :
    Calls Try.prog 4 #[.slice oa d.length c, .slice ob q.length cb] w fun e w' => e = .returned (.bool true) ∧ Kept w w' := by
  have HR : Hid (∀ W, Kept w W → _) := fun W (k : Kept w W) => app_lit (c := c) (h.on k).data h.nil (by omega)
  have HR2 : Hid (∀ W W2 v, Kept w W → Kept W W2 → OwnB W.heap.size W2 v d → ∀ ty, _) := fun W W2 v (k : Kept w W) (k2 : Kept W W2) (o : OwnB W.heap.size W2 v d) ty => app_bytes (c := cb) o ((hq.on k).on k2).data hq.nil (by omega) k2.size ty
  have HD : Hid (∀ base W v x p z, OwnB base W v (d ++ x) → Byts x → x.length ≤ 1048576 → dec7 (d ++ x) = .error (p, z) → _) := fun base W v x p z (o : OwnB base W v (d ++ x)) (hx : Byts x) (hl : x.length ≤ 1048576) (he : dec7 (d ++ x) = .error (p, z)) => dec7_own_no o (h.byts.append hx) (by rw [List.length_append]; omega) he
  have H : Hid _ := h
  have HQB : Hid _ := hq.byts
  obtain ⟨n, en⟩ : ∃ n, n = d.length := ⟨_, rfl⟩
  have EN : Hid _ := en
  obtain ⟨m, em⟩ : ∃ m, m = q.length := ⟨_, rfl⟩
  have EM : Hid _ := em
  rw [← en, ← em]
  rw [← en] at HR
  rw [← em] at HR2
  rw [← en, ← em] at hs
  clear h hq en em
  go_enter Try.func4, Try.ntmps4
  go_wp2_with fail
  refine Calls.mono (anchor_any w) ?_
  rintro e w1 ⟨rfl, k1⟩
  have K1 : Hid _ := k1
  clear k1
  go_wp2_with fail
  refine Calls.mono (snew_any w1) ?_
  rintro x w2 ⟨sb, rfl, s2, k2, hsb⟩
  have S2 : Hid _ := s2
  have K2 : Hid (Kept w w2) := K1.out.trans' k2
  have HSB : Hid (w.heap.size ≤ sb) := Nat.le_trans K1.out.size hsb
  have HS1 : Hid _ := K1.out.size
  clear s2 k2 hsb
  go_wp2_with (at_builtin; refine wpList_app rfl (.tmp 21) (.tmp 22) 23 23 rfl _ _ rfl rfl _ (HR.out _ K2.out) ?_; rintro v3 w3 ⟨o3, k3⟩)
  have s3 := S2.out.on k3
  have s3' : Sn w.heap.size w3 sb (.slice none 0 0) 0 [] 0 0 false 0 := ⟨s3.obj, Tl.nil _ _, s3.ne, s3.byts, s3.len, s3.cts⟩
  obtain ⟨a3, c3, rfl, d3, -, n3, -, -⟩ := OwnB.bytes o3
  have HF : Hid _ := sfeed_any (c := c3) s3' (Nat.le_trans K2.out.size k3.size) d3 n3 H.out.byts (by have := EN.out; simp only [List.nil_append]; omega)
  have K3 : Hid (Kept w w3) := K2.out.trans' k3
  rw [← EN.out] at HF
  rw [← EN.out]
  clear o3 k3 s3 s3' d3 n3
  refine Calls.mono HF.out ?_
  rintro x w4 ⟨rfl, hf⟩
  unfold FeedR at hf
  rw [if_neg (by simp)] at hf
  obtain ⟨v4, s4, b4, k4⟩ := hf
  have K4 : Hid (Kept w w4) := K3.out.trans k4 (fun i hi e => by
    rcases e with e | e
    · have := HSB.out
      omega
    · cases e)
  rw [List.nil_append] at s4
  have P0 : Hid (Er7 w w4 sb d (.bool true) (.int .i64 0) 0) := .inl ⟨rfl, rfl, [], sc0, v4, rfl, at_start (by have := EN.out; omega) H.out.byts s4, Fed.start.feed d, rfl, Nat.le_refl _, K4.out⟩
  clear s4 b4 k4 HF
  go_wp2_with fail
  go_loopw [6, 7, 8] (fun vm vf vk W => ∃ k : Nat, vk = .int .i64 k ∧ k ≤ 4097 ∧ Er7 w W sb d vm vf k) (fun vm _ vk _ => mO7 vm (5000 - (intOf vk).toNat))
  case atStart => exact ⟨0, rfl, by omega, P0.out⟩
  case round =>
    obtain ⟨k, rfl, hk, hh⟩ := hrel
    rcases hh with ⟨rfl, rfl, g, s, vs, hg, ha, hfd, he, hct, hkw⟩ | ⟨rfl, s, vs, rfl, ha, hdc, hkw⟩
    · have hgl : k ≤ n ∧ k ≤ 4096 := by
        have h1 := hfd.1
        have h2 := hfd.2.1
        have h3 := ha.ple
        have := EN.out
        omega
      have d7 : decide ((k : Int) ≤ (n : Int)) = true := decide_eq_true (by omega)
      have d7' : (k : Int) ≤ (n : Int) := by omega
      have HN : Hid _ := snext_any ha
      have HA : Hid _ := ha
      have HFD : Hid _ := hfd
      have HCT : Hid _ := hct
      have KW : Hid _ := hkw
      have HG : Hid _ := hg
      clear ha hfd hct hkw hg P0
      go_wp2_with fail
      refine Calls.mono HN.out ?_
      rintro x w5 ⟨tv, rfl, n5, l5⟩
      obtain ⟨o, s', hn7⟩ : ∃ o s', next7 d false s = (o, s') := ⟨_, _, rfl⟩
      rw [hn7] at n5 l5 ⊢
      simp only at n5 l5 ⊢
      obtain ⟨u, ua, un, uc, rfl⟩ := n5.agg
      obtain ⟨⟨vs5, a5, b5⟩, k5⟩ := l5
      have hk5 : Kept w w5 := KW.out.trans k5 (fun i hi (e : i = sb) => by have := HSB.out; omega)
      cases o with
      | none =>
        have E5 : Hid (Er7 w w5 sb d (.bool false) (.int .i64 s'.er) (k + 1)) := .inr ⟨rfl, s', vs5, rfl, a5, fun hz x => Fed.told H.out.byts HFD.out hn7 hz x, hk5⟩
        rw [show (none : Option TxM).isSome = false from rfl]
        clear n5 a5 b5 k5 hk5 hn7
        go_wp2_with fail
        go_roundw
        case rel => exact ⟨k + 1, by congr 1, by omega, E5.out⟩
        case measure => simp only [mO7, intOf]; omega
      | some t =>
        have he5 := next_some H.out.byts hn7
        rw [he5, show (some t).isSome = true from rfl]
        have E5 : Hid (Er7 w w5 sb d (.bool true) (.int .i64 0) (k + 1)) := .inl ⟨rfl, rfl, g ++ [t], s', vs5, by rw [List.length_append, HG.out]; rfl, a5, Fed.some H.out.byts HFD.out hn7, he5, next_ctp H.out.byts HA.out.ple HCT.out hn7 (.inl (by simp)), hk5⟩
        clear n5 a5 b5 k5 hk5 hn7 he5
        go_wp2_with fail
        go_roundw
        case rel => exact ⟨k + 1, by congr 1, by omega, E5.out⟩
        case measure => simp only [mO7, intOf]; omega
    · have HOF : Hid _ := soffset_any ha.sn
      have HA : Hid _ := ha
      have hple := ha.ple
      have KW : Hid _ := hkw
      have HDC : Hid _ := hdc
      have hpn : (s.pl : Int) ≤ (n : Int) := by have := EN.out; omega
      clear ha hdc hkw P0
      by_cases he : s.er = 0
      · rw [he]
        have d8 : decide ((s.pl : Int) ≥ 0) = true := decide_eq_true (by omega)
        have d9 : decide ((s.pl : Int) ≤ (n : Int)) = true := decide_eq_true hpn
        go_wp2_with fail
        refine Calls.mono HOF.out ?_
        rintro x w5 ⟨rfl, rfl⟩
        go_wp2_with fail
        refine Calls.mono HOF.out ?_
        rintro x w5 ⟨rfl, rfl⟩
        go_wp2_with fail
        go_ret
        exact ⟨rfl, KW.out⟩
      · have he' : (s.er == 0) = false := by simpa using he
        have HZ : Hid _ := HDC.out he
        have hee : (s.er == s.er) = true := by simp
        have hpp : ((s.pl : Int) == (s.pl : Int)) = true := by simp
        have HOF2 : Hid (∀ W, Kept wr W → _) := fun W (kk : Kept wr W) => soffset_any (HA.out.sn.on kk)
        clear he HDC
        go_wp2_with (first
          | (at_builtin; refine wpList_app rfl (.tmp 53) (.tmp 54) 23 23 rfl _ _ rfl rfl _ (HR.out _ KW.out) ?_; rintro v5 w5 ⟨o5, k5⟩; have O5 : Hid _ := o5; have K5 : Hid _ := k5; have HA5 : Hid _ := HR2.out _ _ _ KW.out k5 o5; clear o5 k5)
          | (at_builtin; refine wpList_app rfl (.tmp 55) (.tmp 56) 23 23 rfl _ _ rfl rfl _ HA5.out ?_; rintro v6 w6 ⟨o6, k6⟩; have O6 : Hid _ := o6; have K6 : Hid _ := k6; clear o6 k6))
        have kk6 : Kept wr w6 := K5.out.trans K6.out (fun i hi e => absurd e (Nat.not_le.2 hi))
        refine Calls.mono (HD.out _ _ _ _ _ _ O6.out HQB.out (by have := EM.out; omega) (HZ.out q)) ?_
        rintro x w7 ⟨rfl, k7⟩
        have K7 : Hid (Kept wr w7) := kk6.trans' k7
        clear k7 kk6
        go_wp2_with (at_builtin; refine wpList_app rfl (.tmp 63) (.tmp 64) 23 23 rfl _ _ rfl rfl _ (HR.out _ (KW.out.trans' K7.out)) ?_; rintro v8 w8 ⟨o8, k8⟩; have O8 : Hid _ := o8; have K8 : Hid _ := k8; clear o8 k8)
        refine Calls.mono (HD.out _ _ _ [] _ _ (by rw [List.append_nil]; exact O8.out) Byts.nil (by simp) (HZ.out [])) ?_
        rintro x w9 ⟨rfl, k9⟩
        have K9 : Hid (Kept wr w9) := (K7.out.trans' K8.out).trans' k9
        clear k9
        go_wp2_with fail
        refine Calls.mono (HOF2.out _ K9.out) ?_
        rintro x w10 ⟨rfl, rfl⟩
        go_wp2_with fail
        go_ret
        exact ⟨rfl, KW.out.trans' K9.out⟩
end Go.Proofs.Ythnhfahkanpjjab
