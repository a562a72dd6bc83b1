/- What is proved: plain facts: one session alone is a plain store; no condition. -/
import Derived.Test.YtmlefbpdlgnkgabKSnap
namespace Go.Proofs.Ytmlefbpdlgnkgab
open Go.RowKit

def opS (s : Stp) : OpM := if s.kind = 3 then ⟨2, s.key, true, s.value⟩ else ⟨3, s.key, false, e0⟩
def ansS (s : Stp) : An := ⟨decide (s.kind = 3), if s.kind = 3 then s.value else e0, 0⟩
/-- What the last step of a key in the list left, if there is one, else what there was. -/
def lstA (x : An) (l : List Stp) (k : ByteArray) : An := l.foldl (fun acc s => if (s.key.toList == k.toList) = true then ansS s else acc) x
def lst (l : List Stp) (k : ByteArray) : An := lstA an0 l k
theorem lst_append (l m : List Stp) (k : ByteArray) : lst (l ++ m) k = lstA (lst l k) m k := by simp [lst, lstA, List.foldl_append]
theorem lstA_take {l : List Stp} {j : Nat} {s : Stp} (h : l[j]? = some s) (x : An) (k : ByteArray) : lstA x (l.take (j + 1)) k = if (s.key.toList == k.toList) = true then ansS s else lstA x (l.take j) k := by
  rw [List.take_add_one, h]
  simp [lstA, List.foldl_append]
theorem lstA_last (x : An) (l : List Stp) (k : ByteArray) : lstA x l k = match (l.filter (fun s => s.key.toList == k.toList)).getLast? with
    | none => x
    | some s => ansS s := by
  induction l generalizing x with
  | nil => rfl
  | cons s r ih =>
    have e : lstA x (s :: r) k = lstA (if (s.key.toList == k.toList) = true then ansS s else x) r k := rfl
    rw [e, ih, List.filter_cons]
    by_cases h : (s.key.toList == k.toList) = true
    · rw [if_pos h, if_pos h]
      cases hr : (List.filter (fun s => s.key.toList == k.toList) r) with
      | nil => simp
      | cons b c =>
        rw [List.getLast?_cons_cons]
        cases hq : (b :: c).getLast? with
        | none => simp at hq
        | some y => rfl
    · rw [if_neg h, if_neg h]
theorem snoc_ind {α : Type} {P : List α → Prop} (h0 : P []) (h1 : ∀ l x, P l → P (l ++ [x])) (l : List α) : P l := by
  have : ∀ n (l : List α), l.length = n → P l := fun n => by
    induction n with
    | zero => intro l hl; rw [List.eq_nil_of_length_eq_zero hl]; exact h0
    | succ n ih =>
      intro l hl
      have hne : l ≠ [] := fun e => by rw [e] at hl; simp at hl
      rw [← List.dropLast_concat_getLast hne]
      exact h1 _ _ (ih _ (by simp [hl]))
  exact this _ l rfl
theorem lastW_filter (l : List OpM) (k : ByteArray) : (lastW l k).map (fun i => l.getD i z0) = (l.filter (isW k)).getLast? := by
  refine snoc_ind (P := fun l => (lastW l k).map (fun i => l.getD i z0) = (l.filter (isW k)).getLast?) rfl (fun l o ih => ?_) l
  rw [lastW_snoc, List.filter_append]
  by_cases h : isW k o = true
  · rw [if_pos h]
    simp [h]
  · rw [if_neg h]
    have e : List.filter (isW k) [o] = [] := by simp [h]
    rw [e, List.append_nil, ← ih]
    cases hl : lastW l k with
    | none => rfl
    | some i =>
      have hi := lastW_lt hl
      simp only [Option.map_some, List.getD_eq_getElem?_getD, List.getElem?_append_left hi]
theorem filter_isW (l : List OpM) (k : ByteArray) : l.filter (isW k) = (l.filter (fun o => !(o.kind == 1))).filter (fun o => o.key.toList == k.toList) := by
  rw [List.filter_filter]
  rfl
theorem opS_key (s : Stp) : (opS s).key = s.key := by unfold opS; split <;> rfl
theorem opS_ans (s : Stp) : (opS s).found = (ansS s).found ∧ (opS s).value = (ansS s).value := by
  unfold opS ansS
  by_cases h : s.kind = 3 <;> simp [h]
/-- What the operations tell of a key is what the steps tell. -/
theorem now_last {nw : List Stp} {ops : List OpM} (h : nw.map opS = ops.filter (fun o => !(o.kind == 1))) (k : ByteArray) (x : An) :
    (lastW ops k = none → lstA x nw k = x) ∧ (∀ i, lastW ops k = some i → (lstA x nw k).found = (ops.getD i z0).found ∧ (lstA x nw k).value = (ops.getD i z0).value ∧ (lstA x nw k).status = 0) := by
  have e1 := lastW_filter ops k
  have e2 : (ops.filter (isW k)) = (nw.filter (fun s => s.key.toList == k.toList)).map opS := by
    rw [filter_isW, ← h, List.filter_map]
    congr 1
    apply List.filter_congr
    intro s _
    simp [opS_key]
  rw [e2, List.getLast?_map] at e1
  have e3 := lstA_last x nw k
  constructor
  · intro hn
    rw [hn] at e1
    simp only [Option.map_none] at e1
    cases hq : (nw.filter (fun s => s.key.toList == k.toList)).getLast? with
    | none => rw [e3, hq]
    | some s => rw [hq] at e1; cases e1
  · intro i hi
    rw [hi] at e1
    cases hq : (nw.filter (fun s => s.key.toList == k.toList)).getLast? with
    | none => rw [hq] at e1; cases e1
    | some s =>
      rw [hq] at e1
      simp only [Option.map_some, Option.some.injEq] at e1
      rw [e3, hq]
      simp only
      rw [e1, (opS_ans s).1, (opS_ans s).2]
      exact ⟨rfl, rfl, rfl⟩
/-- The versions that a commit of now lays. -/
theorem oc_ch {A : List En} {c n : Int} {l : List OpM} (hA : ∀ e ∈ A, e.x.c < c) (hl : ∀ o ∈ l, 0 < o.key.size ∧ o.key.size ≤ 8 ∧ (o.kind ≠ 1 → o.value.size ≤ 16 ∧ (o.found = true ∨ o.value.size = 0))) (hc : 0 ≤ c ∧ c ≤ 1099511627776) (hn : 0 ≤ n ∧ n < 4096) (m : Nat) (hm : m ≤ l.length) :
    ∀ k, ch (insts A c n (oc l m)) k = ch A k ++ match lastW l k with
      | none => []
      | some i => if i < m then [⟨c, n, (l.getD i z0).found, (l.getD i z0).value⟩] else [] := by
  induction m with
  | zero =>
    intro k
    show ch A k = _
    cases lastW l k <;> simp
  | succ m ih =>
    have ih := ih (by omega)
    intro k
    have hml : m < l.length := by omega
    rw [oc]
    by_cases hlw : lastW l (l.getD m z0).key = some m
    · rw [if_pos hlw, insts_snoc]
      have hmem : l.getD m z0 ∈ l := by rw [List.getD_eq_getElem?_getD, List.getElem?_eq_getElem hml]; simp
      obtain ⟨h1, h2, h3⟩ := hl _ hmem
      have hw := (lw_some hlw).2.1
      have hk1 : (l.getD m z0).kind ≠ 1 := by
        unfold isW at hw
        intro e
        rw [e] at hw
        simp at hw
      obtain ⟨h4, h5⟩ := h3 hk1
      have hch := ih (l.getD m z0).key
      rw [hlw] at hch
      simp only [Nat.lt_irrefl, if_false, List.append_nil] at hch
      have hst : stale (ch (insts A c n (oc l m)) (l.getD m z0).key) ⟨c, n, (l.getD m z0).found, (l.getD m z0).value⟩ = false := by
        rw [hch]
        unfold stale
        rw [List.any_eq_false]
        intro y hy
        obtain ⟨e, he, -, rfl⟩ := mem_ch.1 hy
        have := hA e he
        rw [(gt_iff _ _).2 (.inl this)]
        decide
      have hin : inst (insts A c n (oc l m)) (l.getD m z0).key ⟨c, n, (l.getD m z0).found, (l.getD m z0).value⟩ = insts A c n (oc l m) ++ [⟨(l.getD m z0).key, ⟨c, n, (l.getD m z0).found, (l.getD m z0).value⟩⟩] := by
        have hrk : rightK (l.getD m z0).key = true := by unfold rightK; exact decide_eq_true ⟨h1, h2⟩
        have hrv : rightV ⟨c, n, (l.getD m z0).found, (l.getD m z0).value⟩ = true := by unfold rightV; exact decide_eq_true ⟨hc.1, hc.2, hn.1, hn.2, h4, h5⟩
        have hcode : code (insts A c n (oc l m)) (l.getD m z0).key ⟨c, n, (l.getD m z0).found, (l.getD m z0).value⟩ = 0 := by
          unfold code
          rw [if_neg (by rw [hrk]; decide), if_neg (by rw [hrv]; decide), if_neg (by rw [hst]; decide)]
        unfold Ytmlefbpdlgnkgab.inst
        rw [if_pos hcode]
      rw [hin, ch_append, ih k]
      by_cases hkk : (l.getD m z0).key.toList = k.toList
      · have hlk : lastW l k = some m := by
          have : lastW l k = lastW l (l.getD m z0).key := by
            have e : isW k = isW (l.getD m z0).key := by funext o; unfold isW; rw [hkk]
            have e2 : ∀ q, lw l k q = lw l (l.getD m z0).key q := fun q => by
              induction q with
              | zero => rfl
              | succ q ihq => rw [lw, lw, e, ihq]
            exact e2 _
          rw [this, hlw]
        rw [ch_one_same hkk, hlk]
        simp
      · rw [ch_one_other hkk, List.append_nil]
        congr 1
        cases hlk : lastW l k with
        | none => rfl
        | some i =>
          have hne : i ≠ m := fun e => by
            subst e
            have := (lw_some hlk).2.1
            unfold isW at this
            simp only [Bool.and_eq_true, beq_iff_eq] at this
            exact hkk this.1
          simp only
          by_cases him : i < m
          · rw [if_pos him, if_pos (by omega)]
          · rw [if_neg him, if_neg (by omega)]
    · rw [if_neg hlw, List.append_nil, ih k]
      congr 1
      cases hlk : lastW l k with
      | none => rfl
      | some i =>
        have hne : i ≠ m := fun e => by
          subst e
          have hw := (lw_some hlk).2.1
          unfold isW at hw
          simp only [Bool.and_eq_true, beq_iff_eq] at hw
          apply hlw
          have e : isW (l.getD i z0).key = isW k := by funext o; unfold isW; rw [hw.1]
          have e2 : ∀ q, lw l (l.getD i z0).key q = lw l k q := fun q => by
            induction q with
            | zero => rfl
            | succ q ihq => rw [lw, lw, e, ihq]
          show lw l (l.getD i z0).key l.length = some i
          rw [e2]
          exact hlk
        simp only
        by_cases him : i < m
        · rw [if_pos him, if_pos (by omega)]
        · rw [if_neg him, if_neg (by omega)]
/-- What stands of one session alone that has done these steps; nw: those of the active transaction. -/
structure Ser (dn nw : List Stp) (M : Mm) : Prop where
  ok : Ok 1 M
  val : ∀ k, (⟨(valM M k).f, (valM M k).v, 0⟩ : An) = lst dn k
  ac : ∀ a, (M.at 0).act = some a → nw.map opS = a.t.ops.filter (fun o => !(o.kind == 1)) ∧ (∀ e ∈ M.A, e.x.c < a.t.f2) ∧ a.t.f2 ≤ M.clock
  no : (M.at 0).act = none → nw = []
  dl : dn.length ≤ 16 * M.log.length
  nl : nw.length ≤ 16
theorem val_later {M M' : Mm} (h : Inv M) (hA : M'.A = M.A) (hc : M.clock ≤ M'.clock) (k : ByteArray) : valM M' k = valM M k := by
  unfold valM
  rw [hA, at_all (t := M.clock) (fun y hy => ?_) hc]
  obtain ⟨e, he, -, rfl⟩ := mem_ch.1 hy
  exact (h.av e he).2
theorem Ser.same {dn nw : List Stp} {M M' : Mm} (h : Ser dn nw M) (hA : M'.A = M.A) (hc : M.clock ≤ M'.clock) (k : ByteArray) : (⟨(valM M' k).f, (valM M' k).v, 0⟩ : An) = lst dn k := by
  rw [val_later h.ok.inv hA hc k]
  exact h.val k
theorem Ser.new : Ser [] [] (newM 1 0) := ⟨Ok.new (by decide) (by decide), fun k => rfl, fun a ha => (by rw [at_new] at ha; cases ha), fun _ => rfl, by simp, by simp⟩
theorem filter_len {nw : List Stp} {a : Ac} (h : nw.map opS = a.t.ops.filter (fun o => !(o.kind == 1))) : nw.length ≤ a.t.ops.length := by
  have := congrArg List.length h
  rw [List.length_map] at this
  rw [this]
  exact List.length_filter_le _ _
theorem go_shape {M : Mm} {kd gp : Int} {k v : ByteArray} {a : Ac} (h : (M.at 0).act = some a) (c : Int) : goM M c ⟨kd, 0, gp, k, v⟩ = if kd = 2 then (operM M 0 a ⟨1, k, (seeM M a.t k).1, (seeM M a.t k).2⟩, ⟨(seeM M a.t k).1, (seeM M a.t k).2, 0⟩) else if kd = 3 then (operM M 0 a ⟨2, k, true, v⟩, an0) else if kd = 4 then (operM M 0 a ⟨3, k, false, e0⟩, an0) else if kd = 5 then (comtM M 0 a, comtA M a) else (finM M 0 a 0, an0) := by
  unfold goM
  show (match (M.at 0).act with | none => _ | some a => _) = _
  rw [h]
  rfl
/-- One step. -/
theorem Ser.step {dn nw : List Stp} {M : Mm} (h : Ser dn nw M) {kd gp : Int} {k v : ByteArray} (h0 : codeD M ⟨kd, 0, gp, k, v⟩ = 0) :
    (kd = 1 → Ser dn [] (doM M ⟨kd, 0, gp, k, v⟩).1) ∧ (kd = 6 → Ser dn [] (doM M ⟨kd, 0, gp, k, v⟩).1) ∧ (kd = 3 ∨ kd = 4 → Ser dn (nw ++ [⟨kd, 0, gp, k, v⟩]) (doM M ⟨kd, 0, gp, k, v⟩).1) ∧
      (kd = 5 → Ser (dn ++ nw) [] (doM M ⟨kd, 0, gp, k, v⟩).1 ∧ (doM M ⟨kd, 0, gp, k, v⟩).2.status = 1) ∧ (kd = 2 → Ser dn nw (doM M ⟨kd, 0, gp, k, v⟩).1 ∧ (doM M ⟨kd, 0, gp, k, v⟩).2 = lst (dn ++ nw) k) := by
  obtain ⟨hB, hU⟩ := codeD_zero h0
  obtain ⟨-, -, hg, hk8, hv16⟩ := codeB_zero hB
  obtain ⟨u1, u2, u3⟩ := codeU_zero hU
  have hg0 : 0 ≤ gp := hg.1
  have hok := h.ok.step ⟨kd, 0, gp, k, v⟩
  have hi := h.ok.inv
  have u3' : M.clock + 1 + gp ≤ 1099511627776 := u3
  have ht : Inv (M.tick (M.clock + 1 + gp)) := hi.tick (by omega) u3'
  have hlen : (0 : Nat) < (M.tick (M.clock + 1 + gp)).ses.length := by show 0 < M.ses.length; rw [h.ok.len]; decide
  have hct : M.clock ≤ M.clock + 1 + gp := by omega
  have ea : ∀ a, (M.at 0).act = some a → doM M ⟨kd, 0, gp, k, v⟩ = goM (M.tick (M.clock + 1 + gp)) M.clock ⟨kd, 0, gp, k, v⟩ := fun _ _ => do_ok h0
  refine ⟨fun h1 => ?_, fun h1 => ?_, fun h1 => ?_, fun h1 => ?_, fun h1 => ?_⟩
  · subst h1
    obtain ⟨hn, -⟩ := u1 rfl
    have e : doM M ⟨1, 0, gp, k, v⟩ = (beginM (M.tick (M.clock + 1 + gp)) 0 M.clock, an0) := by
      rw [do_ok h0]
      unfold goM
      show (match ((M.tick (M.clock + 1 + gp)).at 0).act with | none => _ | some a => _) = _
      rw [show ((M.tick (M.clock + 1 + gp)).at 0).act = none from hn]
      rfl
    rw [e] at hok ⊢
    refine ⟨hok, fun q => ?_, fun a ha => ?_, fun _ => rfl, h.dl, by simp⟩
    · refine h.same ?_ ?_ q
      · rfl
      · exact hct
    · rw [show ((beginM (M.tick (M.clock + 1 + gp)) 0 M.clock, an0).1.at 0) = _ from at_begin hlen, if_pos rfl] at ha
      cases ha
      exact ⟨rfl, fun e he => (by have h9 := (hi.av e he).2; show e.x.c < M.clock + 1 + gp; omega), Int.le_refl _⟩
  · subst h1
    obtain ⟨a, ha, -⟩ := u2 (by simp)
    have e := (ea a ha).trans (go_shape (M := M.tick (M.clock + 1 + gp)) ha M.clock)
    rw [if_neg (by decide), if_neg (by decide), if_neg (by decide), if_neg (by decide)] at e
    rw [e] at hok ⊢
    refine ⟨hok, fun q => ?_, fun a' ha' => ?_, fun _ => rfl, ?_, by simp⟩
    · refine h.same ?_ ?_ q
      · rfl
      · exact hct
    · rw [show ((finM (M.tick (M.clock + 1 + gp)) 0 a 0, an0).1.at 0) = _ from at_fin hlen, if_pos rfl] at ha'
      cases ha'
    · have := h.dl
      show dn.length ≤ 16 * (M.log ++ [_]).length
      rw [List.length_append]
      omega
  · have hkd : kd ≠ 1 ∧ isO ⟨kd, 0, gp, k, v⟩ := ⟨by omega, by rcases h1 with h | h; exact .inr (.inl h); exact .inr (.inr h)⟩
    obtain ⟨a, ha, hn16⟩ := u2 hkd.1
    have hl16 := hn16 hkd.2
    obtain ⟨c1, c2, c3⟩ := h.ac a ha
    have e : doM M ⟨kd, 0, gp, k, v⟩ = (operM (M.tick (M.clock + 1 + gp)) 0 a (opS ⟨kd, 0, gp, k, v⟩), an0) := by
      rw [ea a ha, go_shape (M := M.tick (M.clock + 1 + gp)) ha M.clock]
      unfold opS
      rcases h1 with rfl | rfl
      · rw [if_neg (by decide), if_pos rfl, if_pos rfl]
      · rw [if_neg (by decide), if_neg (by decide), if_pos rfl, if_neg (by simp)]
    have hk1 : ((opS ⟨kd, 0, gp, k, v⟩).kind == 1) = false := by unfold opS; split <;> rfl
    rw [e] at hok ⊢
    have hfl := filter_len c1
    have h16 := (hi.ac 0 a ha).n
    refine ⟨hok, fun q => ?_, fun a' ha' => ?_, fun hn => ?_, h.dl, by simp only [List.length_append, List.length_cons, List.length_nil]; omega⟩
    · refine h.same ?_ ?_ q
      · rfl
      · exact hct
    · rw [show ((operM (M.tick (M.clock + 1 + gp)) 0 a (opS ⟨kd, 0, gp, k, v⟩), an0).1.at 0) = _ from at_oper hlen, if_pos rfl] at ha'
      cases ha'
      refine ⟨?_, c2, Int.le_trans c3 hct⟩
      show (nw ++ [_]).map opS = (a.t.ops ++ [opS ⟨kd, 0, gp, k, v⟩]).filter _
      rw [List.map_append, List.filter_append, c1]
      congr 1
      simp [hk1]
    · rw [show ((operM (M.tick (M.clock + 1 + gp)) 0 a (opS ⟨kd, 0, gp, k, v⟩), an0).1.at 0) = _ from at_oper hlen, if_pos rfl] at hn
      cases hn
  · subst h1
    obtain ⟨a, ha, -⟩ := u2 (by simp)
    obtain ⟨c1, c2, c3⟩ := h.ac a ha
    have e := (ea a ha).trans (go_shape (M := M.tick (M.clock + 1 + gp)) ha M.clock)
    rw [if_neg (by decide), if_neg (by decide), if_neg (by decide), if_pos rfl] at e
    have hac := hi.ac 0 a ha
    have hlo : lost (M.tick (M.clock + 1 + gp)) a = false := by
      unfold lost
      have hov : over (M.tick (M.clock + 1 + gp)).A a.t.f2 (outc a.t.ops) = false := by
        unfold over
        rw [List.any_eq_false]
        intro o _
        have h9 : afM (ch M.A o.key) a.t.f2 = none := af_none fun y hy => by
          obtain ⟨e, he, -, rfl⟩ := mem_ch.1 hy
          have := c2 e he
          omega
        show ¬ (afM (ch M.A o.key) a.t.f2).isSome = true
        rw [h9]
        decide
      rw [hov, Bool.and_false]
    have e2 : comtM (M.tick (M.clock + 1 + gp)) 0 a = finM { (M.tick (M.clock + 1 + gp)) with A := insts M.A (M.clock + 1 + gp) M.log.length (outc a.t.ops) } 0 a 1 := by unfold comtM; rw [hlo]; rfl
    have e3 : comtA (M.tick (M.clock + 1 + gp)) a = ⟨false, e0, 1⟩ := by unfold comtA; rw [hlo]; rfl
    rw [e2, e3] at e
    rw [e] at hok ⊢
    have hch := oc_ch (A := M.A) (c := M.clock + 1 + gp) (n := M.log.length) (l := a.t.ops) (fun e he => by have := (hi.av e he).2; omega) hac.key ⟨by have := hi.c0; omega, u3'⟩ ⟨by omega, by have := hi.log_lt ha; omega⟩ a.t.ops.length (Nat.le_refl _)
    refine ⟨⟨hok, fun q => ?_, fun a' ha' => ?_, fun _ => rfl, ?_, by simp⟩, rfl⟩
    · have hv9 : valM (finM { (M.tick (M.clock + 1 + gp)) with A := insts M.A (M.clock + 1 + gp) M.log.length (outc a.t.ops) } 0 a 1) q = (atM (ch (insts M.A (M.clock + 1 + gp) M.log.length (oc a.t.ops a.t.ops.length)) q) (M.clock + 1 + gp)).getD v0 := rfl
      show (⟨(valM (finM { (M.tick (M.clock + 1 + gp)) with A := insts M.A (M.clock + 1 + gp) M.log.length (outc a.t.ops) } 0 a 1) q).f, (valM (finM { (M.tick (M.clock + 1 + gp)) with A := insts M.A (M.clock + 1 + gp) M.log.length (outc a.t.ops) } 0 a 1) q).v, 0⟩ : An) = _
      rw [hv9, hch q, lst_append]
      obtain ⟨n1, n2⟩ := now_last c1 q (lst dn q)
      cases hl : lastW a.t.ops q with
      | none =>
        simp only [List.append_nil]
        rw [n1 hl, ← h.val q, at_all (t := M.clock) (fun y hy => ?_) hct]
        · rfl
        · obtain ⟨e, he, -, rfl⟩ := mem_ch.1 hy
          exact (hi.av e he).2
      | some i =>
        have hil := lastW_lt hl
        simp only [hil, if_true]
        have hat : atM (ch M.A q ++ [(⟨M.clock + 1 + gp, (M.log.length : Int), (a.t.ops.getD i z0).found, (a.t.ops.getD i z0).value⟩ : Vn)]) (M.clock + 1 + gp) = some ⟨M.clock + 1 + gp, M.log.length, (a.t.ops.getD i z0).found, (a.t.ops.getD i z0).value⟩ := by
          unfold atM cnt
          have hall : ∀ y ∈ ch M.A q ++ [(⟨M.clock + 1 + gp, (M.log.length : Int), (a.t.ops.getD i z0).found, (a.t.ops.getD i z0).value⟩ : Vn)], decide (y.c ≤ M.clock + 1 + gp) = true := fun y hy => by
            rcases List.mem_append.1 hy with hy | hy
            · obtain ⟨e, he, -, rfl⟩ := mem_ch.1 hy
              have := (hi.av e he).2
              exact decide_eq_true (by omega)
            · rw [List.mem_singleton.1 hy]
              exact decide_eq_true (Int.le_refl _)
          rw [List.countP_eq_length.2 hall]
          simp
        rw [hat]
        obtain ⟨m1, m2, m3⟩ := n2 i hl
        simp only [Option.getD_some]
        rw [← m1, ← m2, ← m3]
    · rw [show ((finM { (M.tick (M.clock + 1 + gp)) with A := insts M.A (M.clock + 1 + gp) M.log.length (outc a.t.ops) } 0 a 1, (⟨false, e0, 1⟩ : An)).1.at 0) = _ from at_fin (M := { (M.tick (M.clock + 1 + gp)) with A := insts M.A (M.clock + 1 + gp) M.log.length (outc a.t.ops) }) hlen, if_pos rfl] at ha'
      cases ha'
    · have h5 := h.dl
      have h6 := filter_len c1
      have h7 := hac.n
      show (dn ++ nw).length ≤ 16 * (M.log ++ [_]).length
      rw [List.length_append, List.length_append]
      simp only [List.length_cons, List.length_nil]
      omega
  · subst h1
    obtain ⟨a, ha, hn16⟩ := u2 (by simp)
    obtain ⟨c1, c2, c3⟩ := h.ac a ha
    have e := (ea a ha).trans (go_shape (M := M.tick (M.clock + 1 + gp)) ha M.clock)
    rw [if_pos rfl] at e
    have hsee : (⟨(seeM (M.tick (M.clock + 1 + gp)) a.t k).1, (seeM (M.tick (M.clock + 1 + gp)) a.t k).2, 0⟩ : An) = lst (dn ++ nw) k := by
      rw [lst_append]
      obtain ⟨n1, n2⟩ := now_last c1 k (lst dn k)
      cases hl : lastW a.t.ops k with
      | some i =>
        obtain ⟨m1, m2, m3⟩ := n2 i hl
        unfold seeM
        rw [hl]
        simp only
        rw [← m1, ← m2, ← m3]
      | none =>
        rw [n1 hl, ← h.val k]
        have hf : M.flaw = 0 := h.ok.fl
        have h7 : atM (ch M.A k) a.t.f2 = atM (ch M.A k) M.clock := by
          have hq : ∀ y ∈ ch M.A k, y.c ≤ a.t.f2 := fun y hy => by
            obtain ⟨e, he, -, rfl⟩ := mem_ch.1 hy
            have := c2 e he
            omega
          exact (at_all hq c3).symm
        have h8 : comM M.flaw (M.clock + 1 + gp) M.A k a.t.f2 = valM M k := by
          unfold comM valM
          rw [hf, if_neg (by decide), h7]
          cases atM (ch M.A k) M.clock with
          | none => rfl
          | some y => simp only; rw [if_neg (by decide)]; rfl
        unfold seeM
        rw [hl]
        simp only
        rw [if_neg (fun h => by have h5 : M.flaw = 4 := h.1; rw [hf] at h5; cases h5)]
        show (⟨(comM M.flaw (M.clock + 1 + gp) M.A k a.t.f2).f, (comM M.flaw (M.clock + 1 + gp) M.A k a.t.f2).v, 0⟩ : An) = _
        rw [h8]
    rw [e] at hok ⊢
    refine ⟨⟨hok, fun q => ?_, fun a' ha' => ?_, fun hn => ?_, h.dl, h.nl⟩, hsee⟩
    · refine h.same ?_ ?_ q
      · rfl
      · exact hct
    · rw [show ((operM (M.tick (M.clock + 1 + gp)) 0 a ⟨1, k, (seeM (M.tick (M.clock + 1 + gp)) a.t k).1, (seeM (M.tick (M.clock + 1 + gp)) a.t k).2⟩, (⟨(seeM (M.tick (M.clock + 1 + gp)) a.t k).1, (seeM (M.tick (M.clock + 1 + gp)) a.t k).2, 0⟩ : An)).1.at 0) = _ from at_oper hlen, if_pos rfl] at ha'
      cases ha'
      refine ⟨?_, c2, Int.le_trans c3 hct⟩
      show nw.map opS = (a.t.ops ++ [_]).filter _
      rw [List.filter_append, c1]
      simp
    · rw [show ((operM (M.tick (M.clock + 1 + gp)) 0 a ⟨1, k, (seeM (M.tick (M.clock + 1 + gp)) a.t k).1, (seeM (M.tick (M.clock + 1 + gp)) a.t k).2⟩, (⟨(seeM (M.tick (M.clock + 1 + gp)) a.t k).1, (seeM (M.tick (M.clock + 1 + gp)) a.t k).2, 0⟩ : An)).1.at 0) = _ from at_oper hlen, if_pos rfl] at hn
      cases hn
end Go.Proofs.Ytmlefbpdlgnkgab
