/- What is proved: plain facts on what Shape tells with a greater skew, and with all times set on; no condition. -/
import Derived.Test.YtbjmdpfoeeadeaaJShp
namespace Go.Proofs.Ytbjmdpfoeeadeaa.Sw
open Go.RowKit

/-- What is told with the skew eps and with a greater one too. -/
def kpS (t : TxM) (e2 : Int) (v : Vl) : Bool := !(v.kd == 3 && !decide (t.f2 + e2 < t.f4)) && !(v.kd == 4 && !decide (t.f5 + e2 < t.f3))
theorem sh_more (t : TxM) (eps more : Int) (hm : 0 ≤ more) : shp 0 t (eps + more) = (shp 0 t eps).filter (kpS t (eps + more)) := by
  have h1 : (sh1 0 t).filter (kpS t (eps + more)) = sh1 0 t := by unfold sh1; split <;> simp [kpS, sv]
  have h2 : (sh2 0 t).filter (kpS t (eps + more)) = sh2 0 t := by unfold sh2; split <;> simp [kpS, sv]
  have h3 : (sh3 0 t eps).filter (kpS t (eps + more)) = sh3 0 t (eps + more) := by
    unfold sh3
    by_cases a : t.f2 + eps < t.f4
    · rw [if_pos a]
      by_cases b : t.f2 + (eps + more) < t.f4
      · rw [if_pos b]; simp [kpS, sv, b]
      · rw [if_neg b]; simp [kpS, sv]; omega
    · rw [if_neg a, if_neg (by omega)]; rfl
  have h4 : (sh4 0 t eps).filter (kpS t (eps + more)) = sh4 0 t (eps + more) := by
    unfold sh4
    by_cases a : t.f5 + eps < t.f3
    · rw [if_pos a]
      by_cases b : t.f5 + (eps + more) < t.f3
      · rw [if_pos b]; simp [kpS, sv, b]
      · rw [if_neg b]; simp [kpS, sv]; omega
    · rw [if_neg a, if_neg (by omega)]; rfl
  simp only [shp, List.filter_append, h1, h2, h3, h4]
theorem mem_shp {i : Int} {t : TxM} {e : Int} {v : Vl} (h : v ∈ shp i t e) : v = sv i 1 t.f2 t.f2 t.f3 ∨ v = sv i 2 t.f2 t.f4 t.f5 ∨ (v = sv i 3 t.f2 t.f4 t.f2 ∧ t.f2 + e < t.f4) ∨ (v = sv i 4 t.f3 t.f3 t.f5 ∧ t.f5 + e < t.f3) := by
  simp only [shp, List.mem_append] at h
  rcases h with ((h | h) | h) | h
  · unfold sh1 at h; split at h <;> simp_all
  · unfold sh2 at h; split at h <;> simp_all
  · unfold sh3 at h; split at h <;> simp_all
  · unfold sh4 at h; split at h <;> simp_all
theorem shp_kd {i : Int} {t : TxM} {e : Int} {x y : Vl} (hx : x ∈ shp i t e) (hy : y ∈ shp i t e) (h : x.kd = y.kd) : x = y := by
  rcases mem_shp hx with rfl | rfl | ⟨rfl, -⟩ | ⟨rfl, -⟩ <;> rcases mem_shp hy with rfl | rfl | ⟨rfl, -⟩ | ⟨rfl, -⟩ <;> first | rfl | (simp [sv] at h)
/-- How many of the first are told with the greater skew too. -/
def kkS (t : TxM) (eps more : Int) (j : Nat) : Nat := (((shp 0 t eps).take j).filter (kpS t (eps + more))).length
theorem kk_zero (t : TxM) (eps more : Int) : kkS t eps more 0 = 0 := rfl
theorem kk_le (t : TxM) (eps more : Int) (j : Nat) : kkS t eps more j ≤ 4 := by
  have h1 := List.length_filter_le (kpS t (eps + more)) ((shp 0 t eps).take j)
  have h2 := shp_len 0 t eps
  rw [List.length_take] at h1
  unfold kkS
  omega
theorem kk_all (t : TxM) (eps more : Int) (hm : 0 ≤ more) : kkS t eps more (shp 0 t eps).length = (shp 0 t (eps + more)).length := by
  unfold kkS
  rw [List.take_length, sh_more t eps more hm]
theorem kk_step (t : TxM) (eps more : Int) (hm : 0 ≤ more) {j : Nat} {v : Vl} (h : (shp 0 t eps)[j]? = some v) :
    ((shp 0 t (eps + more))[kkS t eps more j]? = some v ∧ kkS t eps more (j + 1) = kkS t eps more j + 1) ∨ (kkS t eps more (j + 1) = kkS t eps more j ∧ (v.kd = 3 ∨ v.kd = 4) ∧ ∀ x, (shp 0 t (eps + more))[kkS t eps more j]? = some x → x.kd ≠ v.kd) := by
  obtain ⟨hj, hv⟩ := List.getElem?_eq_some_iff.1 h
  have e1 : (shp 0 t eps).take (j + 1) = (shp 0 t eps).take j ++ [v] := by rw [List.take_succ_eq_append_getElem hj, hv]
  have e2 : (shp 0 t eps).filter (kpS t (eps + more)) = ((shp 0 t eps).take j).filter (kpS t (eps + more)) ++ ([v].filter (kpS t (eps + more)) ++ ((shp 0 t eps).drop (j + 1)).filter (kpS t (eps + more))) := by
    rw [← List.append_assoc, ← List.filter_append, ← e1, ← List.filter_append, List.take_append_drop]
  by_cases hp : kpS t (eps + more) v = true
  · refine .inl ⟨?_, by simp [kkS, e1, List.filter_append, hp]⟩
    rw [sh_more t eps more hm, e2, List.getElem?_append_right (by unfold kkS; exact Nat.le_refl _)]
    simp [kkS, hp]
  · have hp' : kpS t (eps + more) v = false := by simpa using hp
    refine .inr ⟨by simp [kkS, e1, List.filter_append, hp'], ?_, fun x hx hk => ?_⟩
    · simp only [kpS, Bool.and_eq_false_iff, Bool.not_eq_false', Bool.and_eq_true, beq_iff_eq] at hp'
      rcases hp' with ⟨a, -⟩ | ⟨a, -⟩
      · exact .inl a
      · exact .inr a
    · have hm2 := List.mem_of_getElem? hx
      rw [sh_more t eps more hm, List.mem_filter] at hm2
      have := shp_kd hm2.1 (List.mem_of_getElem? h) hk
      rw [this, hp'] at hm2
      cases hm2.2
theorem shp_most {t : TxM} (hr : rightF t) {v : Vl} (h : v ∈ shp 0 t 1099511627776) : v.kd = 1 ∨ v.kd = 2 := by
  obtain ⟨-, -, b2, b3, b4, b5, -⟩ := hr
  unfold inB at b2 b3 b4 b5
  rcases mem_shp h with rfl | rfl | ⟨rfl, a⟩ | ⟨rfl, a⟩
  · exact .inl rfl
  · exact .inr rfl
  · omega
  · omega
/-- All times set on by the same. -/
def onT (t : TxM) (d : Int) : TxM := ⟨t.f0, t.f1, t.f2 + d, t.f3 + d, t.f4 + d, t.f5 + d, t.f6, t.ops⟩
def onV (d : Int) (v : Vl) : Vl := { v with tm := v.tm + d, fr := v.fr + d, tt := v.tt + d }
theorem shp_on (t : TxM) (eps d : Int) : shp 0 (onT t d) eps = (shp 0 t eps).map (onV d) := by
  have h1 : sh1 0 (onT t d) = (sh1 0 t).map (onV d) := by
    unfold sh1 onT
    by_cases a : t.f2 < t.f3
    · rw [if_pos a, if_pos (by simpa using a)]; rfl
    · rw [if_neg a, if_neg (by simpa using a)]; rfl
  have h2 : sh2 0 (onT t d) = (sh2 0 t).map (onV d) := by
    unfold sh2 onT
    by_cases a : t.f5 < t.f4
    · rw [if_pos a, if_pos (by simpa using a)]; rfl
    · rw [if_neg a, if_neg (by simpa using a)]; rfl
  have h3 : sh3 0 (onT t d) eps = (sh3 0 t eps).map (onV d) := by
    unfold sh3 onT
    by_cases a : t.f2 + eps < t.f4
    · rw [if_pos a, if_pos (by show t.f2 + d + eps < t.f4 + d; omega)]; rfl
    · rw [if_neg a, if_neg (by show ¬ t.f2 + d + eps < t.f4 + d; omega)]; rfl
  have h4 : sh4 0 (onT t d) eps = (sh4 0 t eps).map (onV d) := by
    unfold sh4 onT
    by_cases a : t.f5 + eps < t.f3
    · rw [if_pos a, if_pos (by show t.f5 + d + eps < t.f3 + d; omega)]; rfl
    · rw [if_neg a, if_neg (by show ¬ t.f5 + d + eps < t.f3 + d; omega)]; rfl
  simp only [shp, List.map_append, h1, h2, h3, h4]
theorem right_on {t : TxM} {d : Int} (h : Right t) (hd : 0 ≤ d ∧ d ≤ 549755813888) (h2 : t.f2 ≤ 549755813888) (h3 : t.f3 ≤ 549755813888) (h4 : t.f4 ≤ 549755813888) (h5 : t.f5 ≤ 549755813888) : Right (onT t d) := by
  obtain ⟨⟨b0, b1, b2, b3, b4, b5, b6⟩, ho⟩ := h
  unfold inB at b2 b3 b4 b5
  refine ⟨⟨b0, b1, ?_, ?_, ?_, ?_, b6⟩, ho⟩ <;> (unfold inB onT; simp only; omega)
theorem shp_bound {t : TxM} (hr : rightF t) {e : Int} {v : Vl} (h : v ∈ shp 0 t e) : (0 ≤ v.tm ∧ v.tm ≤ 1099511627776) ∧ (0 ≤ v.fr ∧ v.fr ≤ 1099511627776) ∧ (0 ≤ v.tt ∧ v.tt ≤ 1099511627776) := by
  obtain ⟨-, -, b2, b3, b4, b5, -⟩ := hr
  unfold inB at b2 b3 b4 b5
  rcases mem_shp h with rfl | rfl | ⟨rfl, a⟩ | ⟨rfl, a⟩ <;> (simp only [sv]; omega)
theorem cod_ok {t : TxM} {eps : Int} (hr : Right t) (he : 0 ≤ eps ∧ eps ≤ 1099511627776) : codS 0 t eps = 0 := by
  unfold codS
  rw [if_neg (by omega), if_neg (by omega)]
  exact valid_zero.2 hr
theorem lis_ok {t : TxM} {eps : Int} (hr : Right t) (he : 0 ≤ eps ∧ eps ≤ 1099511627776) : lisS 0 t eps = shp 0 t eps := by
  unfold lisS
  rw [if_pos (cod_ok hr he)]
end Go.Proofs.Ytbjmdpfoeeadeaa.Sw
