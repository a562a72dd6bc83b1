/- What is proved: plain facts: of two transactions that run at one time and write one key the first to commit commits, the other does not; no condition. -/
import Derived.Test.YtmghmacgljihcaaKPl
namespace Go.Proofs.Ytmghmacgljihcaa

theorem af_no {M : Mm} (h : Inv M) (k : ByteArray) {t : Int} (ht : M.clock ≤ t) : afM (ch M.A k) t = none := af_none fun y hy => by
  obtain ⟨e, he, -, rfl⟩ := mem_ch.1 hy
  have := (h.av e he).2
  omega
/-- A version of now is taken. -/
theorem inst_now {A : List En} {k : ByteArray} {x : Vn} {c : Int} (hk : 0 < k.size ∧ k.size ≤ 8) (hr : rightV x = true) (hA : ∀ e ∈ A, e.x.c ≤ c) (hx : c < x.c) : inst A k x = A ++ [⟨k, x⟩] := by
  have hs : stale (ch A k) x = false := by
    unfold stale
    rw [List.any_eq_false]
    intro y hy
    obtain ⟨e, he, -, rfl⟩ := mem_ch.1 hy
    have := hA e he
    rw [(gt_iff _ _).2 (.inl (by omega))]
    decide
  unfold Ytmghmacgljihcaa.inst
  rw [if_pos]
  unfold code
  rw [if_neg (by unfold rightK; simp [hk]), if_neg (by rw [hr]; decide), if_neg (by rw [hs]; decide)]
theorem right_v {c n : Int} {v : ByteArray} (hc : 0 ≤ c ∧ c ≤ 1099511627776) (hn : 0 ≤ n ∧ n < 4096) (hv : v.size ≤ 16) : rightV ⟨c, n, true, v⟩ = true := by
  unfold rightV
  exact decide_eq_true ⟨hc.1, hc.2, hn.1, hn.2, hv, .inl rfl⟩
/-- A transaction that has one write, and commits. -/
theorem one_commit {M : Mm} (h : Inv M) (hf : M.flaw = 0) {i : Nat} {a : Ac} (_ : (M.at i).act = some a) {k v : ByteArray} (ho : a.t.ops = [⟨2, k, true, v⟩]) (hov : afM (ch M.A k) a.t.f2 = none) (hk : 0 < k.size ∧ k.size ≤ 8) (hv : v.size ≤ 16) (hl : M.log.length < 4096) (hA : ∀ e ∈ M.A, e.x.c < M.clock) :
    comtM M i a = finM { M with A := M.A ++ [⟨k, ⟨M.clock, M.log.length, true, v⟩⟩] } i a 1 ∧ comtA M a = ⟨false, e0, 1⟩ := by
  have e1 : outc a.t.ops = [⟨2, k, true, v⟩] := by rw [ho]; exact outc_one (by simp)
  have e2 : lost M a = false := by
    unfold lost over
    rw [e1, hf]
    simp [hov]
  have e3 : insts M.A M.clock M.log.length (outc a.t.ops) = M.A ++ [⟨k, ⟨M.clock, M.log.length, true, v⟩⟩] := by
    rw [e1]
    show inst M.A k ⟨M.clock, M.log.length, true, v⟩ = _
    exact inst_now (c := M.clock - 1) hk (right_v ⟨h.c0, h.c1⟩ ⟨by omega, by omega⟩ hv) (fun e he => by have := hA e he; omega) (by simp only; omega)
  unfold comtM comtA
  rw [e2, e3]
  exact ⟨rfl, rfl⟩
theorem one_lost {M : Mm} (hf : M.flaw = 0) {i : Nat} {a : Ac} {k v : ByteArray} (ho : a.t.ops = [⟨2, k, true, v⟩]) (hov : (afM (ch M.A k) a.t.f2).isSome = true) : comtM M i a = finM M i a 0 ∧ comtA M a = an0 := by
  have e1 : outc a.t.ops = [⟨2, k, true, v⟩] := by rw [ho]; exact outc_one (by simp)
  have e2 : lost M a = true := by
    unfold lost over
    rw [e1, hf]
    simp [hov]
  unfold comtM comtA
  rw [e2]
  exact ⟨rfl, rfl⟩
/-- The last version of a key. -/
theorem at_last {A : List En} {k : ByteArray} {x : Vn} {t : Int} (hg : Good (A ++ [⟨k, x⟩])) (ht : x.c ≤ t) (hA : ∀ e ∈ A, e.x.c < x.c) : atM (ch (A ++ [⟨k, x⟩]) k) t = some x := by
  refine (hg k).at_spec (mem_ch.2 ⟨⟨k, x⟩, by simp, rfl, rfl⟩) ht fun y hy _ => ?_
  obtain ⟨e, he, -, rfl⟩ := mem_ch.1 hy
  rcases List.mem_append.1 he with he | he
  · have := hA e he
    cases hq : gt e.x x
    · rfl
    · rw [gt_iff] at hq; omega
  · rw [List.mem_singleton.1 he]
    exact gt_irrefl x
theorem at_begin {M : Mm} {i j : Nat} {v : Int} (hi : i < M.ses.length) : (beginM M i v).at j = if i = j then ⟨(M.at i).begun + 1, some ⟨⟨i, (M.at i).begun, M.clock, 0, v, 0, 0, []⟩, []⟩⟩ else M.at j := at_set hi _
theorem at_oper {M : Mm} {i j : Nat} {a : Ac} {o : OpM} (hi : i < M.ses.length) : (operM M i a o).at j = if i = j then ⟨(M.at i).begun, some (addO a M.clock o)⟩ else M.at j := at_set hi _
theorem at_fin {M : Mm} {i j : Nat} {a : Ac} {st : Int} (hi : i < M.ses.length) : (finM M i a st).at j = if i = j then ⟨(M.at i).begun, none⟩ else M.at j := at_set hi _
end Go.Proofs.Ytmghmacgljihcaa
