/- What is proved: the document's Sort and First of a list of violations; the list lies in memory. -/
import Derived.Test.YtnfkjblhnpnaeaaVRs
import Derived.Test.YtnfkjblhnpnaeaaVBef
import Derived.Test.YtnfkjblhnpnaeaaVTn
namespace Go.Proofs.Ytnfkjblhnpnaeaa
open Go.RowKit

theorem aw18 : Aw Try.prog 12 vl1 :=
  ⟨by kernel_rfl, ekV, Try.func19, Try.call21, Try.call19, before18, Try.underlying0, Try.underlying3, Try.underlying4, Try.underlying28, Try.isAgg0, Try.isAgg3, Try.isAgg4, Try.isAgg28, Try.isAgg30, Try.sizeOf0, Try.sizeOf3, Try.sizeOf4, Try.sizeOf28, Try.sizeOf30, ⟨_, Try.zeroValue30⟩, by decide, _, 120, Try.infoViol, rfl, by decide⟩
theorem rsort18 {w : World} {a : Option Addr} {cap : Nat} {l : List Vl} (h : At vl1 12 w a l) (hc : l.length ≤ cap) (hnil : a = none → l.length = 0 ∧ cap = 0) (hn : l.length ≤ 1172812402961) :
    Calls Try.prog 19 #[.slice a l.length cap] w fun e w' => ∃ v, e = .returned v ∧ OwnV w.heap.size w' v (srt ltV l) ∧ Kept w w' := sort_p aw18 (l.length + 1) (by omega) h hc hnil hn
set_option maxRecDepth 100000 in
set_option maxHeartbeats 1600000 in
theorem rfirst18 {w : World} {a : Option Addr} {cap : Nat} {l : List Vl} (h : At vl1 12 w a l) (hc : l.length ≤ cap) (hnil : a = none → l.length = 0 ∧ cap = 0) (hn : l.length ≤ 1172812402961) (m : Nat) :
    Calls Try.prog 15 #[.slice a l.length cap, .int .i64 (m : Int)] w fun e w' => ∃ b c, e = .returned (.slice b ((srt ltV l).take m).length c) ∧ At vl1 12 w' b ((srt ltV l).take m) ∧ Kept w w' := by
  have HS : Hid _ := rsort18 h hc hnil hn
  have hsl : (srt ltV l).length = l.length := srt_len _ _
  generalize srt ltV l = s at HS hsl ⊢
  have hlen : s.length ≤ 1172812402961 := by omega
  clear h hc hnil hn hsl
  go_enter Try.func15, Try.ntmps15
  go_wp2_with fail
  refine Calls.mono HS.out ?_
  rintro r w1 ⟨v, rfl, o1, k1⟩
  have K1 : Hid (Kept w w1) := k1
  have HA : Hid (∀ a n c, v = .slice a n c → At vl1 12 w1 a s) := fun a n c e => by subst e; exact o1.at ekV
  obtain ⟨b, c, rfl, hcap, hn1, -⟩ := o1.shape
  have HA1 : Hid (At vl1 12 w1 b s) := HA.out b _ c rfl
  obtain ⟨n, en⟩ : ∃ n, n = s.length := ⟨_, rfl⟩
  have EN : Hid (n = s.length) := en
  rw [← en] at hcap hlen ⊢
  clear o1 k1 HA HS
  by_cases hm : m < n
  · have d1 : decide ((m : Int) < (n : Int)) = true := decide_eq_true (by omega)
    have d1' : (m : Int) < (n : Int) := by omega
    have d2 : (m : Int) ≤ (c : Int) := by omega
    have HL : Hid ((s.take m).length = m) := by show _ = _; rw [List.length_take, ← en]; omega
    clear en hn1
    go_wp2_with fail
    go_ret
    exact ⟨b, _, by rw [HL.out]; rfl, HA1.out.take m, K1.out⟩
  · have d1 : decide ((m : Int) < (n : Int)) = false := decide_eq_false (by omega)
    have d1' : ¬ (m : Int) < (n : Int) := by omega
    have HL : Hid (s.take m = s) := by show _ = _; exact List.take_of_length_le (by omega)
    clear en hn1
    go_wp2_with fail
    go_ret
    refine ⟨b, c, by rw [HL.out, ← EN.out]; rfl, by rw [HL.out]; exact HA1.out, K1.out⟩
/-- A list of violations stays when one is put. -/
theorem TpN.put2 {w W : World} {tb lim : Nat} {vs : List Vl} (h : TpN w W tb lim vs) {x : Vl} (hx : okV x = true) (hm : vs.length + 1 ≤ 4398046511104) : Calls Try.prog 11 #[.pointer (some ⟨tb, 0, none⟩), vlV x] W fun e w' => e = .returned (.int .i64 0) ∧ TpN w w' tb lim (vs ++ [x]) ∧ (∀ base u l, OwnV base W u l → OwnV base w' u l) ∧ W.heap.size ≤ w'.heap.size ∧ ∀ (b : Nat) (cs : Array Value) (ty : TypeId), ty ≠ 52 → ty ≠ 55 → W.heap[b]? = some (Obj.cells cs ty (0, 0)) → w'.heap[b]? = some (Obj.cells cs ty (0, 0)) := by
  obtain ⟨⟨v, L, t⟩, k0⟩ := h
  refine (put18_ok t hx hm).mono fun e w' ⟨h1, v', L', t', s, _⟩ => ⟨h1, ⟨⟨v', L', t'⟩, k0.trans s fun b hb e => ?_⟩, fun base u l o => o.kept s fun b hb e => ?_, s.size, fun b cs ty h1 h2 h3 => (s.block b (lt_of_heap h3) fun e => ?_).trans h3⟩
  · rcases e with rfl | e
    · have := t.low; omega
    · have := (t.own.block e).1; omega
  · obtain ⟨-, c1, q1⟩ := o.block hb
    rcases e with rfl | e
    · rw [t.obj] at q1; cases q1
    · obtain ⟨-, c2, q2⟩ := t.own.block e
      rw [q1] at q2; cases q2
  · rcases e with rfl | e
    · rw [t.obj] at h3; cases h3; exact h1 rfl
    · obtain ⟨-, c2, q2⟩ := t.own.block e
      rw [h3] at q2; cases q2; exact h2 rfl
/-- A top stays when a list of violations is written. -/
theorem TpN.app {w W W' : World} {tb lim : Nat} {vs : List Vl} (h : TpN w W tb lim vs) {base : Nat} {u : Value} {l : List Vl} (o : OwnV base W u l) (hb : w.heap.size ≤ base) (s : Same (fun k => u.ownBlock = some k) W W') : TpN w W' tb lim vs := by
  obtain ⟨⟨v, L, t⟩, k0⟩ := h
  refine ⟨⟨v, L, t.on s (fun e => ?_) (fun b hb e => ?_)⟩, k0.trans s fun b hb' e => ?_⟩
  · obtain ⟨-, c1, q1⟩ := o.block e
    rw [t.obj] at q1; cases q1
  · exact ownV_ne o t.own hb e
  · have := (o.block e).1; omega
end Go.Proofs.Ytnfkjblhnpnaeaa
