/- What is proved: the law's anchor holds; the library's table lies as its text lays it. -/
import Derived.Test.YtbhihmkgimdjpaaDoorGhI
namespace Go.Proofs.YtbhihmkgimdjpaaDoor
open Go.RowKit

def e01 : Eg := ⟨0, 1, 1⟩
set_option maxRecDepth 100000 in
set_option maxHeartbeats 3200000 in
theorem anchor19 {w : World} (hT : TabG w) : Calls Tryd.prog 9 #[] w fun r w' => r = .returned (.bool true) ∧ Kept w w' := by
  have HT : Hid (TabG w) := hT
  have HN : Hid _ := new19_ok (n := 2) (by omega) w
  clear hT
  go_enter Tryd.func9, Tryd.ntmps9
  go_wp2_with fail
  refine Calls.mono HN.out ?_
  rintro r w1 ⟨⟨gb, rfl, hg⟩, k1⟩
  have HG : Hid (Gb w.heap.size w1 gb 2 []) := hg
  have K1 : Hid (Kept w w1) := k1
  have HA : Hid _ := add19 hg k1.size e01 ⟨by unfold e01 I64; decide, by unfold e01 I64; decide, by unfold e01 I64; decide⟩
  clear hg k1 HN
  go_wp2_with fail
  refine Calls.mono HA.out ?_
  rintro r w2 ⟨rfl, hg2, s2⟩
  have ec : addC 2 [] e01 = 0 := by decide
  have ee : addE 2 [] e01 = [e01] := by unfold addE; rw [ec]; rfl
  rw [ee] at hg2
  rw [ec]
  have K2 : Hid (Kept w w2) := K1.out.trans s2 (fun i hi e => by omega)
  have HG2 : Hid (Gb w.heap.size w2 gb 2 [e01]) := hg2
  have HR : Hid _ := reach19 hg2.g (HT.out.on K2.out) 0 1 1
  clear hg2 s2 HA ec ee
  go_wp2_with fail
  refine Calls.mono HR.out ?_
  rintro r w3 ⟨⟨v, rfl, hv⟩, k3⟩
  obtain rfl : v = true := hv.2 ⟨by decide, by decide, .one (by decide)⟩
  have K3 : Hid (Kept w w3) := K2.out.trans' k3
  have HE : Hid _ := edges19 (HG2.out.g.on k3)
  clear k3 hv HR
  go_wp2_with fail
  refine Calls.mono HE.out ?_
  rintro r w4 ⟨v, rfl, o4, k4⟩
  obtain ⟨a, cap, rfl, -⟩ := o4.shape
  have el : (srt ltE [e01]).length = 1 := rfl
  have K4 : Hid (Kept w w4) := K3.out.trans' k4
  rw [el]
  clear o4 k4 HE
  go_wp2_with fail
  go_ret
  exact ⟨rfl, K4.out⟩
end Go.Proofs.YtbhihmkgimdjpaaDoor
