/- What is proved: Decode of a list of bytes that lies in memory; the bounds that a machine's memory sets. -/
import Derived.Test.YtflemfohnpjeaaaLDec
namespace Go.Proofs.Ytflemfohnpjeaaa
open Go.RowKit

/-- What Decode answers and leaves. -/
def DecR (w : World) (d : List Int) (x : Ending) (w' : World) : Prop :=
  Kept w w' ∧ match dec7 d with
    | .error (p, e) => x = .returned (.tuple #[.slice none 0 0, .int .i64 (p : Int), .int .i64 e])
    | .ok ts => ∃ v l, l.map TxR.t = ts ∧ x = .returned (.tuple #[v, .int .i64 0, .int .i64 0]) ∧ Lst w.heap.size w' v l
section
variable {w : World} {oa : Option Addr} {c : Nat} {d : List Int}
theorem DecR.bad {w' : World} {p : Nat} {e : Int} (hk : Kept w w') (h : dec7 d = .error (p, e)) : DecR w d (.returned (.tuple #[.slice none 0 0, .int .i64 (p : Int), .int .i64 e])) w' := by
  refine ⟨hk, ?_⟩
  rw [h]
theorem DecR.good {w' : World} {v : Value} {l : List TxR} (hk : Kept w w') (h : dec7 d = .ok (l.map TxR.t)) (hl : Lst w.heap.size w' v l) : DecR w d (.returned (.tuple #[v, .int .i64 0, .int .i64 0])) w' := by
  refine ⟨hk, ?_⟩
  rw [h]
  exact ⟨v, l, rfl, rfl, hl⟩
/-- A scanner that was fed d and told the end. -/
theorem at_start {base : Nat} {W : World} {sb : Nat} {v : Value} {en : Bool} (hd : d.length ≤ 211106232532992) (hby : Byts d) (h : Sn base W sb v 0 d 0 0 en 0) : At base W sb v d en sc0 :=
  ⟨by rw [part_0 rfl rfl rfl, rest_0 rfl]; exact h, Nat.zero_le _, hd, hby, fun _ e => (by cases e)⟩
set_option maxRecDepth 100000 in
set_option maxHeartbeats 1600000 in
theorem decode7_any (hd : BytesAt w oa d) (hnil : oa = none → d.length = 0 ∧ c = 0) (hb : d.length ≤ 211106232532992) (hby : Byts d) : Calls Try.prog 9 #[.slice oa d.length c] w fun x w' => DecR w d x w' := by
  have HD : Hid _ := hd
  have HNL : Hid _ := hnil
  have HB : Hid _ := hb
  have HBY : Hid _ := hby
  clear hd hnil hb hby
  go_enter Try.func9, Try.ntmps9
  go_wp2_with fail
  refine Calls.mono (snew_any w) ?_
  rintro x w1 ⟨sb, rfl, s1, k1, hsb⟩
  have hF := sfeed_any (c := c) s1 k1.size (BytesAt.kept HD.out k1 (fun _ _ h => h)) HNL.out HBY.out (by simpa using HB.out)
  have HF : Hid _ := hF
  have S1 : Hid _ := s1
  have K1 : Hid _ := k1
  have HSB : Hid _ := hsb
  clear s1 k1 hF hsb
  go_wp2_with fail
  refine Calls.mono HF.out ?_
  rintro x w2 ⟨rfl, hf⟩
  unfold FeedR at hf
  rw [if_neg (by simp)] at hf
  obtain ⟨v2, s2, b2, k2⟩ := hf
  have HE : Hid _ := send_any s2
  have B2 : Hid (∀ k, v2.ownBlock = some k → w1.heap.size ≤ k) := fun k hk => by
    rcases b2 k hk with e | e
    · cases e
    · exact e
  have hs1 := S1.out.lt
  have K2 : Hid (Kept w w2) := K1.out.trans k2 (fun i hi e => by
    rcases e with e | e
    · have := HSB.out
      omega
    · cases e)
  clear s2 b2 k2 HF
  go_wp2_with fail
  refine Calls.mono HE.out ?_
  rintro x w3 ⟨rfl, s3, k3⟩
  have K3 : Hid (Kept w w3) := K2.out.trans k3 (fun i hi (e : i = sb) => by have := HSB.out; omega)
  rw [List.nil_append] at s3
  have A3 : Hid _ := at_start HB.out HBY.out s3
  have R0 : Hid (Rdg w.heap.size w w3 sb v2 (.slice none 0 0) d true sc0 []) := ⟨A3.out, Lst.nil _ _, Fed.start.feed d, K3.out, fun k _ h => (by rcases h with h | ⟨r, h, -⟩ <;> cases h), HSB.out⟩
  clear s3 k3 HE K2 hs1
  go_wp2_with fail
  go_loopw [6] (fun vl W => ∃ (l : List TxR) (s : Sc) (vs : Value), Rdg w.heap.size w W sb vs vl d true s l) (fun vl _ => 4097 - valLen vl)
  case atStart => exact ⟨[], sc0, v2, R0.out⟩
  case round =>
    obtain ⟨l, s, vs, hr⟩ := hrel
    have HR : Hid _ := hr
    have HN : Hid _ := snext_any hr.at_
    obtain ⟨la, lc, rfl⟩ := hr.val
    have hle := hr.le
    clear hr
    go_wp2_with fail
    refine Calls.mono HN.out ?_
    rintro x w4 ⟨tv, rfl, n4, l4⟩
    obtain ⟨o, s', hn7⟩ : ∃ o s', next7 d true s = (o, s') := ⟨_, _, rfl⟩
    rw [hn7] at n4 l4 ⊢
    simp only at n4 l4 ⊢
    cases o with
    | none =>
      obtain rfl : tv = txV t0 (.slice none 0 0) := n4
      obtain ⟨vs4, a4, ls4, k4, -⟩ := HR.out.left l4
      have HO : Hid _ := soffset_any (a4.on ((Same.refl _ w4).alloc (.cells txz 40 (0, 0)))).sn
      have HEND : Hid _ := HR.out.fed.ended hn7
      have K4 : Hid _ := k4
      have LS4 : Hid _ := ls4
      rw [show txV t0 (.slice none 0 0) = .agg #[.int .i64 0, .int .i64 0, .int .i64 0, .int .i64 0, .int .i64 0, .int .i64 0, .int .i64 0, .slice none 0 0] from rfl]
      rw [show (none : Option TxM).isSome = false from rfl]
      have HSB2 : Hid (w.heap.size ≤ sb + 1) := Nat.le_succ_of_le HSB.out
      by_cases he : s'.er = 0
      · have he' : (s'.er != 0) = false := by simpa using he
        have HE0 : Hid _ := he
        clear l4 a4 ls4 k4 hn7 he
        go_wp2_with fail
        go_ret3
        have h1 := HEND.out
        rw [if_pos HE0.out] at h1
        exact DecR.good (K4.out.alloc _) h1 ((LS4.out.on ((Same.refl _ w4).alloc _)).lower HSB2.out)
      · have he' : (s'.er != 0) = true := by simpa using he
        have HE0 : Hid _ := he
        clear l4 a4 ls4 k4 hn7 he
        go_wp2_with fail
        refine Calls.mono HO.out ?_
        rintro x w5 ⟨rfl, rfl⟩
        go_wp2_with fail
        go_ret3
        have h1 := HEND.out
        rw [if_neg HE0.out] at h1
        exact DecR.bad (K4.out.alloc _) h1
    | some t =>
      obtain ⟨ta, tc, rfl, o4⟩ := n4
      have he := next_some HBY.out hn7
      rw [he]
      have HRD : Hid (∀ ty, _) := fun ty => HR.out.read l4 hn7 o4 ty
      rw [show txV t (.slice ta t.ops.length tc) = .agg #[.int .i64 t.f0, .int .i64 t.f1, .int .i64 t.f2, .int .i64 t.f3, .int .i64 t.f4, .int .i64 t.f5, .int .i64 t.f6, .slice ta t.ops.length tc] from rfl]
      rw [show (some t).isSome = true from rfl]
      clear l4 o4 hn7 he
      go_wp2_with (at_builtin; refine wpList_app rfl (.tmp 30) (.tmp 32) 22 22 rfl _ _ rfl rfl _ HRD.out ?_; intro v5 w5 hR; obtain ⟨vs5, a5, c5, r5, rfl⟩ := hR; have R5 : Hid _ := r5; clear r5)
      go_roundw
      case rel => exact ⟨_, _, _, R5.out⟩
      case measure => simp only [valLen]; omega
end
end Go.Proofs.Ytflemfohnpjeaaa
