/- Programs: their functions, valid signatures: what impl's and spec's functions compute. MADE BY gen_r.py out of XQb. What operations make of types, in programs: impl's side. MADE BY gen_r.py out of XQe. Programs: what types there are; constructors' lists. MADE BY gen_r.py out of XQh, XQi. Expressions: their nodes, counted; what impl's and spec's functions compute. Types of expressions: lists of kids, and what operations make of them: spec's side. Types of expressions: impl and spec tell the same type. Types of expressions: impl and spec tell the same type; valid programs. -/
import Derived.Test.YtoljlooeiljpfaaQd
set_option linter.unusedVariables false
set_option linter.unusedSimpArgs false
namespace Go.Proofs.Ytoljlooeiljpfaa
open Go
structure PM where
  ps : List Int
  r : Int
  o : Int
  n : Int
  kids : List (List AC)
  deriving Inhabited
def pmC (x : PM) : List AC := [.sl 1 (intsC x.ps), .int x.r, .int x.o, .int x.n, .sl 3 x.kids]
def pmsC (R : List PM) : List (List AC) := R.map pmC
structure POk (x : PM) : Prop where
  ps : IntsOk x.ps
  r : inI x.r
  b : Fit .expr [.int x.o, .int x.n, .sl 3 x.kids]
theorem fit_pms : ∀ {rs : List (List AC)}, (∀ d ∈ rs, Fit .func d) → ∃ R, rs = pmsC R ∧ ∀ d ∈ R, POk d
  | [], _ => ⟨[], rfl, fun c h => by cases h⟩
  | d :: ds, h => by
    obtain ⟨R, rfl, hR⟩ := fit_pms fun x hx => h x (List.mem_cons_of_mem _ hx)
    have h0 := h d List.mem_cons_self
    generalize ht : Ty.func = t at h0
    cases h0 with
    | func ps r o n kids hp hr hb =>
      refine ⟨⟨ps, r, o, n, kids⟩ :: R, rfl, fun x hx => ?_⟩
      rcases List.mem_cons.1 hx with rfl | hx
      · exact ⟨hp, hr, hb⟩
      · exact hR x hx
    | _ => cases ht
theorem pmsC_len (R : List PM) : (pmsC R).length = R.length := by simp [pmsC]
def gP (R : List PM) (k : Nat) : PM := R.getD k default
theorem gP_mem {R : List PM} {k : Nat} (h : k < R.length) : gP R k ∈ R := mem_getD h _
theorem gP_get {R : List PM} {k : Nat} (h : k < R.length) : R[k] = gP R k := by simp [gP, List.getD, h]
theorem pmsC_get {R : List PM} {k : Nat} (h : k < R.length) : (pmsC R).getD k [] = [.sl 1 (intsC (gP R k).ps), .int (gP R k).r, .int (gP R k).o, .int (gP R k).n, .sl 3 (gP R k).kids] := by simp [pmsC, List.getD, h, gP, pmC]
section
variable {ρ : Type} {r : ρ}
theorem atPmI {R : List PM} {i : Int} {k : Nat} (hi : i = (k : Int)) (h : k < R.length) {K : Fn (Option ρ) [.sl 1 [], .int 0, .int 0, .int 0, .sl 3 []]}
    (h2 : (K : List (List AC) → Int → Int → Int → List (List AC) → Option ρ) (intsC (gP R k).ps) (gP R k).r (gP R k).o (gP R k).n (gP R k).kids = some r) : atR_ (pmsC R) i [.sl 1 [], .int 0, .int 0, .int 0, .sl 3 []] K = some r := by
  subst hi
  exact atFunc (by rw [pmsC_len]; exact h) (pmsC_get h) h2
end
def sigP (D : List DM) (x : PM) : Bool := decide (x.ps.length ≤ 3) && (x.ps.all (isTy D) && isTy D x.r)
def sigsP (D : List DM) (R : List PM) : Bool := typesOk D && (decide (1 ≤ R.length) && (decide (R.length ≤ 4) && (R.all (sigP D) && (((gP R 0).ps.length == 0) && ((gP R 0).r == 0)))))
theorem pi_validSig (D : List DM) (x : PM) (hx : POk x) : impl_validSig [.cell (.sl 3 (decsC D)), .cell (.sl 1 (intsC x.ps)), .cell (.int x.r)] = rB (sigP D x) := by
  refine impl_validSig_le ?_
  rw [intsC_len]
  unfold sigP
  by_cases h : x.ps.length ≤ 3
  · rw [decide_eq_true h]
    refine bifT (decide_eq_true (by omega)) (callB (i_areTypes D _ hx.ps.len) ?_)
    rcases x.ps.all (isTy D) with _ | _
    · exact bifF rfl rfl
    · exact bifT rfl (callB (i_isType D _) rfl)
  · rw [decide_eq_false h]
    exact bifF (decide_eq_false (by omega)) rfl
theorem first_okP {R : List PM} (h : 0 < R.length) {X : Option AV} (hX : X = rB (((gP R 0).ps.length == 0) && ((gP R 0).r == 0))) : X = rB (((gP R 0).ps.length == 0) && ((gP R 0).r == 0)) := hX
theorem pi_validSigs (D : List DM) (R : List PM) (hD : ∀ d ∈ D, DOk d) (hR : ∀ x ∈ R, POk x) (hl : D.length ≤ maxI) : impl_ValidSigs [.agg [.sl 3 (decsC D), .sl 5 (pmsC R)]] = rB (sigsP D R) := by
  refine impl_ValidSigs_le (callB (i_validTypes D hD hl) ?_)
  unfold sigsP
  rcases typesOk D with _ | _
  · exact bifT rfl rfl
  refine bifF rfl ?_
  rw [pmsC_len]
  by_cases h1 : 1 ≤ R.length
  rotate_left
  · rw [decide_eq_false h1]
    exact bifT (decide_eq_true (by omega)) rfl
  rw [decide_eq_true h1]
  refine bifF (decide_eq_false (by omega)) ?_
  by_cases h4 : R.length ≤ 4
  rotate_left
  · rw [decide_eq_false h4]
    exact bifT (decide_eq_true (by omega)) rfl
  rw [decide_eq_true h4]
  refine bifF (decide_eq_false (by omega)) ?_
  have key : ∀ m k : Nat, k + m = R.length → impl_ValidSigs_L0 (decsC D) (pmsC R) (pmsC R) ((R.length : Nat) : Int) (k : Int) = rB ((R.drop k).all (sigP D) && (((gP R 0).ps.length == 0) && ((gP R 0).r == 0))) := by
    intro m
    induction m with
    | zero =>
      intro k hk
      rw [List.drop_eq_nil_of_le (by omega)]
      refine impl_ValidSigs_L0_le (bifF (decide_eq_false (by omega)) (atPmI (k := 0) rfl (by omega) ?_))
      rw [intsC_len]
      by_cases h0 : (gP R 0).ps.length = 0
      · exact bifT (zr h0) (atPmI (k := 0) rfl (by omega) (by rw [h0]; rfl))
      · refine bifF (nz h0) ?_
        rw [show ((gP R 0).ps.length == 0) = false by simpa using h0]
        rfl
    | succ m ih =>
      intro k hk
      have hlt : k < R.length := by omega
      rw [all_drop hlt, gP_get hlt]
      refine impl_ValidSigs_L0_le (bifT (decide_eq_true (by omega)) (atPmI rfl hlt (callB (pi_validSig D _ (hR _ (gP_mem hlt))) ?_)))
      rcases sigP D (gP R k) with _ | _
      · exact bifT rfl rfl
      · exact bifF rfl (by rw [wrk (by unfold maxI; omega)]; exact ih (k + 1) (by omega))
  exact key R.length 0 (by omega)
theorem ps_validSigs (D : List DM) (R : List PM) (hD : ∀ d ∈ D, DOk d) (hR : ∀ x ∈ R, POk x) (hl : D.length ≤ maxI) : spec_validSigs [.agg [.sl 3 (decsC D), .sl 5 (pmsC R)]] = rB (sigsP D R) := by
  refine spec_validSigs_le (callB (s_validTypes D hD hl) ?_)
  unfold sigsP
  rcases typesOk D with _ | _
  · exact bifT rfl rfl
  refine bifF rfl (callB (s_inRange _ _ _) ?_)
  rw [pmsC_len]
  by_cases h1 : 1 ≤ R.length
  rotate_left
  · rw [decide_eq_false h1, decide_eq_false (show ¬ (1 : Int) ≤ ((R.length : Nat) : Int) by omega)]
    exact bifT rfl rfl
  rw [decide_eq_true h1, decide_eq_true (show (1 : Int) ≤ ((R.length : Nat) : Int) by omega)]
  by_cases h4 : R.length ≤ 4
  rotate_left
  · rw [decide_eq_false h4, decide_eq_false (show ¬ ((R.length : Nat) : Int) ≤ 4 by omega)]
    exact bifT rfl rfl
  rw [decide_eq_true h4, decide_eq_true (show ((R.length : Nat) : Int) ≤ 4 by omega)]
  refine bifF rfl ?_
  have key : ∀ m k : Nat, k + m = R.length → spec_validSigs_L0 (decsC D) (pmsC R) (k : Int) = rB ((R.drop k).all (sigP D) && (((gP R 0).ps.length == 0) && ((gP R 0).r == 0))) := by
    intro m
    induction m with
    | zero =>
      intro k hk
      rw [List.drop_eq_nil_of_le (by omega)]
      refine spec_validSigs_L0_le (bifF (decide_eq_false (by rw [pmsC_len]; omega)) (atPmI (k := 0) rfl (by omega) ?_))
      rw [intsC_len]
      by_cases h0 : (gP R 0).ps.length = 0
      · exact bifT (zr h0) (atPmI (k := 0) rfl (by omega) (by rw [h0]; rfl))
      · refine bifF (nz h0) ?_
        rw [show ((gP R 0).ps.length == 0) = false by simpa using h0]
        rfl
    | succ m ih =>
      intro k hk
      have hlt : k < R.length := by omega
      have hx := hR _ (gP_mem hlt)
      rw [all_drop hlt, gP_get hlt]
      refine spec_validSigs_L0_le (bifT (decide_eq_true (by rw [pmsC_len]; omega)) (atPmI rfl hlt ?_))
      rw [intsC_len]
      unfold sigP
      by_cases h3 : (gP R k).ps.length ≤ 3
      rotate_left
      · rw [decide_eq_false h3]
        exact bifT (decide_eq_true (by omega)) rfl
      rw [decide_eq_true h3]
      refine bifF (decide_eq_false (by omega)) (callB (s_allTypes D _ hx.ps.len) ?_)
      rcases (gP R k).ps.all (isTy D) with _ | _
      · exact bifT rfl rfl
      refine bifF rfl (callB (s_isTy D _) ?_)
      rcases isTy D (gP R k).r with _ | _
      · exact bifT rfl rfl
      · exact bifF rfl (by rw [wrk (by unfold maxI; omega)]; exact ih (k + 1) (by omega))
  exact key R.length 0 (by omega)
end Go.Proofs.Ytoljlooeiljpfaa

set_option linter.unusedVariables false
set_option linter.unusedSimpArgs false
namespace Go.Proofs.Ytoljlooeiljpfaa
open Go
/-- Valid signatures, as far as they are needed. -/
structure CP (D : List DM) (R : List PM) : Prop where
  dv : DV D
  rl : R.length ≤ 4
  rok : ∀ x ∈ R, POk x
  ps : ∀ k, k < R.length → (gP R k).ps.length ≤ 3 ∧ ∀ t ∈ (gP R k).ps, 0 ≤ t ∧ t ≤ D.length
  r : ∀ k, k < R.length → 0 ≤ (gP R k).r ∧ (gP R k).r ≤ D.length
theorem cp_of {D : List DM} {R : List PM} (hR : ∀ x ∈ R, POk x) (h : sigsP D R = true) : CP D R := by
  simp only [sigsP, Bool.and_eq_true, decide_eq_true_eq, List.all_eq_true] at h
  obtain ⟨h2, h3, h4, h5, h6⟩ := h
  refine ⟨dv_of h2, h4, hR, fun k hk => ?_, fun k hk => ?_⟩
  · have := h5 _ (gP_mem hk)
    simp only [sigP, Bool.and_eq_true, decide_eq_true_eq, List.all_eq_true] at this
    exact ⟨this.1, fun t ht => isTy_iff.1 (this.2.1 t ht)⟩
  · have := h5 _ (gP_mem hk)
    simp only [sigP, Bool.and_eq_true, decide_eq_true_eq, List.all_eq_true] at this
    exact isTy_iff.1 this.2.2
def preP (ps : List Int) : List Int := ps.take (ps.length - 1)
def resP (D : List DM) (R : List PM) (o n : Int) (T : List Int) : Int :=
  if o = 0 then (if (-999 ≤ n ∧ n ≤ 999) ∧ T.length = 0 then 0 else -1)
  else if o = 1 ∨ o = 2 ∨ o = 3 ∨ o = 4 then (if n = 0 ∧ T = [0, 0] then 0 else -1)
  else if o = 5 then (if n = 0 ∧ T = [0] then 0 else -1)
  else if o = 6 then (if conT D n < 0 then -1 else if T = fld D n then conT D n else -1)
  else if o = 9 then (if 0 ≤ n ∧ n < R.length then (if T = (gP R n.toNat).ps then (gP R n.toNat).r else -1) else -1)
  else if o = 10 then (if 0 ≤ n ∧ n < R.length then (if (gP R n.toNat).ps.length = 0 then -1 else if T = preP (gP R n.toNat).ps then arrL ((gP R n.toNat).ps.getD ((gP R n.toNat).ps.length - 1) 0) (gP R n.toNat).r D 0 else -1) else -1)
  else if o = 11 then (if n = 0 then (if T.length = 2 ∧ isAr D (T.getD 0 0) = true ∧ T.getD 1 0 = (gD D ((T.getD 0 0).toNat - 1)).f then (gD D ((T.getD 0 0).toNat - 1)).t else -1) else -1)
  else -1
section
variable {D : List DM} {R : List PM} (hv : CP D R)
include hv
theorem fld_lenP {n : Int} (h : ¬ conT D n < 0) : (fld D n).length ≤ 3 ∧ ∀ t ∈ fld D n, 0 ≤ t ∧ t ≤ D.length := by
  rcases conT_cases (D := D) n with h0 | ⟨j, i, hj, he, hc, hi, hf⟩
  · omega
  rw [hf]
  exact hv.dv.c j hj _ (mem_getD hi [])
omit hv in
theorem pi_hasFunc (n : Int) : impl_hasFunc [.agg [.sl 3 (decsC D), .sl 5 (pmsC R)], .cell (.int n)] = rB (decide (0 ≤ n ∧ n < R.length)) := by
  refine impl_hasFunc_le ?_
  rw [pmsC_len]
  by_cases h : 0 ≤ n
  · refine bifT (decide_eq_true h) ?_
    simp [h] <;> rfl
  · refine bifF (decide_eq_false h) ?_
    simp [h] <;> rfl
theorem pi_resultOfCon (n : Int) (T : List Int) (hT : T.length ≤ maxI) : impl_resultOfCon [.cell (.sl 3 (decsC D)), .cell (.int n), .cell (.sl 1 (intsC T))] = rI (if conT D n < 0 then -1 else if T = fld D n then conT D n else -1) := by
  refine impl_resultOfCon_le (callI (i_typeOfCon hv.dv n) ?_)
  by_cases h : conT D n < 0
  · rw [if_pos h]
    exact bifT (decide_eq_true h) rfl
  rw [if_neg h]
  refine bifF (decide_eq_false h) ?_
  have h1 : 1 ≤ conT D n := by
    rcases conT_cases (D := D) n with h0 | ⟨j, i, hj, he, _⟩ <;> omega
  refine callS (i_fieldsOfCon hv.dv h1) (callB (i_sameInts T _ hT) (callI (i_typeWhen _ _) ?_))
  by_cases hq : T = fld D n <;> simp [hq] <;> rfl
omit hv in
theorem pi_resultOfCall (n : Int) (T : List Int) (hT : T.length ≤ maxI) : impl_resultOfCall [.agg [.sl 3 (decsC D), .sl 5 (pmsC R)], .cell (.int n), .cell (.sl 1 (intsC T))] = rI (if 0 ≤ n ∧ n < R.length then (if T = (gP R n.toNat).ps then (gP R n.toNat).r else -1) else -1) := by
  refine impl_resultOfCall_le (callB (pi_hasFunc n) ?_)
  by_cases h : 0 ≤ n ∧ n < R.length
  · rw [if_pos h, decide_eq_true h]
    refine bifF rfl (atPmI (k := n.toNat) (by omega) (by omega) (callB (i_sameInts T _ hT) (atPmI (k := n.toNat) (by omega) (by omega) (callI (i_typeWhen _ _) ?_))))
    by_cases hq : T = (gP R n.toNat).ps <;> simp [hq] <;> rfl
  · rw [if_neg h, decide_eq_false h]
    exact bifT rfl rfl
theorem pi_resultOfClose (n : Int) (T : List Int) (hT : T.length ≤ maxI) : impl_resultOfClose [.agg [.sl 3 (decsC D), .sl 5 (pmsC R)], .cell (.int n), .cell (.sl 1 (intsC T))] = rI (if 0 ≤ n ∧ n < R.length then (if (gP R n.toNat).ps.length = 0 then -1 else if T = preP (gP R n.toNat).ps then arrL ((gP R n.toNat).ps.getD ((gP R n.toNat).ps.length - 1) 0) (gP R n.toNat).r D 0 else -1) else -1) := by
  have hl := hv.dv.len
  refine impl_resultOfClose_le (callB (pi_hasFunc n) ?_)
  by_cases h : 0 ≤ n ∧ n < R.length
  rotate_left
  · rw [if_neg h, decide_eq_false h]
    exact bifT rfl rfl
  rw [if_pos h, decide_eq_true h]
  refine bifF rfl (atPmI (k := n.toNat) (by omega) (by omega) ?_)
  have hp := (hv.ps n.toNat (by omega)).1
  rw [intsC_len]
  by_cases h0 : (gP R n.toNat).ps.length = 0
  · rw [if_pos h0]
    exact bifT (zr h0) rfl
  rw [if_neg h0]
  refine bifF (nz h0) (atPmI (k := n.toNat) (by omega) (by omega) ?_)
  have w : wrapI ((((intsC (gP R n.toNat).ps).length : Nat) : Int) - 1) = (((gP R n.toNat).ps.length - 1 : Nat) : Int) := by
    rw [intsC_len, wr (by omega) (by omega)]
    omega
  rw [w]
  refine cutTo (by omega) (by omega) (by rw [intsC_len]; omega) ?_
  rw [show ((intsC (gP R n.toNat).ps).drop (0 : Int).toNat).take ((((gP R n.toNat).ps.length - 1 : Nat) : Int).toNat - (0 : Int).toNat) = intsC (preP (gP R n.toNat).ps) by simp [preP, intsC_take]]
  refine callB (i_sameInts T _ hT) (atNumI rfl (by omega) (atPmI (k := n.toNat) (by omega) (by omega) (callI (i_arrow D (by omega) _ _) (callI (i_typeWhen _ _) ?_))))
  by_cases hq : T = preP (gP R n.toNat).ps <;> simp [hq] <;> rfl
theorem pi_resultOfApply (T : List Int) : impl_resultOfApply [.cell (.sl 3 (decsC D)), .cell (.sl 1 (intsC T))] = rI (if T.length = 2 ∧ isAr D (T.getD 0 0) = true ∧ T.getD 1 0 = (gD D ((T.getD 0 0).toNat - 1)).f then (gD D ((T.getD 0 0).toNat - 1)).t else -1) := by
  have hl := hv.dv.len
  refine impl_resultOfApply_le ?_
  rw [intsC_len]
  by_cases h2 : T.length = 2
  rotate_left
  · rw [if_neg (fun h => h2 h.1)]
    exact bifT (net (by omega)) rfl
  refine bifF (nef (by omega)) (atNumI (k := 0) rfl (by omega) (callB (i_isArrow (by omega) _) ?_))
  rcases ha : isAr D (T.getD 0 0) with _ | _
  · rw [if_neg (fun h => by cases h.2.1)]
    exact bifT rfl rfl
  have hb : 0 < T.getD 0 0 ∧ T.getD 0 0 ≤ D.length := by
    simp only [isAr, Bool.and_eq_true, decide_eq_true_eq] at ha
    exact ⟨ha.1, (isTy_iff.1 ha.2.1).2⟩
  refine bifF rfl (atNumI (k := 0) rfl (by omega) (atDecI (k := (T.getD 0 0).toNat - 1) (by rw [wr (by omega) (by omega)]; omega) (by omega) (atNumI (k := 1) rfl (by omega) (callI (i_typeWhen _ _) ?_))))
  by_cases hq : T.getD 1 0 = (gD D ((T.getD 0 0).toNat - 1)).f
  · rw [if_pos (show T.length = 2 ∧ true = true ∧ T.getD 1 0 = (gD D ((T.getD 0 0).toNat - 1)).f from ⟨h2, rfl, hq⟩), eqt hq]; rfl
  · rw [if_neg (show ¬ (T.length = 2 ∧ true = true ∧ T.getD 1 0 = (gD D ((T.getD 0 0).toNat - 1)).f) from fun h => hq h.2.2), eqf hq]; rfl
omit hv in
theorem pi_two (T : List Int) (hT : T.length ≤ maxI) (n : Int) {X : Option AV} (h : X = (bif (n == 0) then
        callR (impl_sameInts [.cell (.sl 1 (intsC T)), .cell (.sl 1 [[.int 0], [.int 0]])]) false [(false, [.bool false])] fun b9 =>
        callR (impl_typeWhen [.cell (.bool b9), .cell (.int 0)]) false [(false, [.int 0])] fun n10 =>
        some (.v (.cell (.int n10)))
      else
        callR (impl_typeWhen [.cell (.bool false), .cell (.int 0)]) false [(false, [.int 0])] fun n11 =>
        some (.v (.cell (.int n11))))) : X = rI (if n = 0 ∧ T = [0, 0] then 0 else -1) := by
  rw [h]
  by_cases h0 : n = 0
  · refine bifT (eqt h0) (callB (i_sameInts T [0, 0] hT) (callI (i_typeWhen _ _) ?_))
    by_cases hq : T = [0, 0] <;> simp [hq, h0] <;> rfl
  · refine bifF (eqf h0) (callI (i_typeWhen _ _) ?_)
    simp [h0] <;> rfl
theorem pi_resultOf (o n : Int) (T : List Int) (hT : T.length ≤ maxI) : impl_resultOf [.agg [.sl 3 (decsC D), .sl 5 (pmsC R)], .cell (.int o), .cell (.int n), .cell (.sl 1 (intsC T))] = rI (resP D R o n T) := by
  refine impl_resultOf_le ?_
  unfold resP
  by_cases h0 : o = 0
  · rw [if_pos h0]
    refine bifT (eqt h0) ?_
    by_cases h1 : -999 ≤ n
    · refine bifT (decide_eq_true h1) ?_
      by_cases h2 : n ≤ 999
      · refine bifT (decide_eq_true h2) (callI (i_typeWhen _ _) ?_)
        rw [intsC_len]
        by_cases h3 : T.length = 0
        · rw [if_pos (show (-999 ≤ n ∧ n ≤ 999) ∧ T.length = 0 from ⟨⟨h1, h2⟩, h3⟩), zr h3]; rfl
        · rw [if_neg (show ¬ ((-999 ≤ n ∧ n ≤ 999) ∧ T.length = 0) from fun h => h3 h.2), nz h3]; rfl
      · refine bifF (decide_eq_false h2) (callI (i_typeWhen _ _) ?_)
        rw [if_neg (show ¬ ((-999 ≤ n ∧ n ≤ 999) ∧ T.length = 0) from fun h => h2 h.1.2)]; rfl
    · refine bifF (decide_eq_false h1) (callI (i_typeWhen _ _) ?_)
      rw [if_neg (show ¬ ((-999 ≤ n ∧ n ≤ 999) ∧ T.length = 0) from fun h => h1 h.1.1)]; rfl
  rw [if_neg h0]
  refine bifF (eqf h0) ?_
  by_cases h1 : o = 1
  · subst h1
    rw [if_pos (.inl rfl)]
    exact bifT rfl (bifT rfl (pi_two T hT n rfl))
  refine bifF (eqf h1) ?_
  by_cases h2 : o = 2
  · subst h2
    rw [if_pos (.inr (.inl rfl))]
    exact bifT rfl (bifT rfl (pi_two T hT n rfl))
  refine bifF (eqf h2) ?_
  by_cases h3 : o = 3
  · subst h3
    rw [if_pos (.inr (.inr (.inl rfl)))]
    exact bifT rfl (bifT rfl (pi_two T hT n rfl))
  refine bifF (eqf h3) ?_
  by_cases h4 : o = 4
  · subst h4
    rw [if_pos (.inr (.inr (.inr rfl)))]
    exact bifT rfl (pi_two T hT n rfl)
  refine bifF (eqf h4) ?_
  rw [if_neg (fun h => by rcases h with h | h | h | h <;> contradiction)]
  by_cases h5 : o = 5
  · rw [if_pos h5]
    refine bifT (eqt h5) ?_
    by_cases hn : n = 0
    · refine bifT (eqt hn) (callB (i_sameInts T [0] hT) (callI (i_typeWhen _ _) ?_))
      by_cases hq : T = [0] <;> simp [hq, hn] <;> rfl
    · refine bifF (eqf hn) (callI (i_typeWhen _ _) ?_)
      simp [hn] <;> rfl
  rw [if_neg h5]
  refine bifF (eqf h5) ?_
  by_cases h6 : o = 6
  · rw [if_pos h6]
    exact bifT (eqt h6) (callI (pi_resultOfCon hv n T hT) rfl)
  rw [if_neg h6]
  refine bifF (eqf h6) ?_
  by_cases h9 : o = 9
  · rw [if_pos h9]
    exact bifT (eqt h9) (callI (pi_resultOfCall n T hT) rfl)
  rw [if_neg h9]
  refine bifF (eqf h9) ?_
  by_cases h10 : o = 10
  · rw [if_pos h10]
    exact bifT (eqt h10) (callI (pi_resultOfClose hv n T hT) rfl)
  rw [if_neg h10]
  refine bifF (eqf h10) ?_
  by_cases h11 : o = 11
  · rw [if_pos h11]
    refine bifT (eqt h11) ?_
    by_cases hn : n = 0
    · rw [if_pos hn]
      exact bifF (nef hn) (callI (pi_resultOfApply hv T) rfl)
    · rw [if_neg hn]
      exact bifT (net hn) rfl
  rw [if_neg h11]
  exact bifF (eqf h11) rfl
theorem resP_long {o n : Int} {T : List Int} (h : 3 < T.length) : resP D R o n T = -1 := by
  unfold resP
  split
  · rw [if_neg (fun h' => by omega)]
  split
  · rw [if_neg (fun h' => by rw [h'.2] at h; simp at h)]
  split
  · rw [if_neg (fun h' => by rw [h'.2] at h; simp at h)]
  split
  · split
    · rfl
    · rename_i hc
      rw [if_neg (fun h' => by have := (fld_lenP hv hc).1; rw [← h'] at this; omega)]
  split
  · split
    · rename_i hc
      rw [if_neg (fun h' => by have := (hv.ps n.toNat (by omega)).1; rw [← h'] at this; omega)]
    · rfl
  split
  · split
    · rename_i hc
      split
      · rfl
      · rw [if_neg (fun h' => by
          have := (hv.ps n.toNat (by omega)).1
          have h2 : T.length ≤ (gP R n.toNat).ps.length := by rw [h', preP, List.length_take]; omega
          omega)]
    · rfl
  split
  · split
    · rw [if_neg (fun h' => by omega)]
    · rfl
  · rfl
end
end Go.Proofs.Ytoljlooeiljpfaa

set_option linter.unusedVariables false
set_option linter.unusedSimpArgs false
namespace Go.Proofs.Ytoljlooeiljpfaa
open Go
def okT (D : List DM) (t : Int) : Prop := t = -1 ∨ (0 ≤ t ∧ t ≤ D.length)
theorem arrL_ok (f t : Int) : ∀ (D : List DM) (k : Nat), arrL f t D k = -1 ∨ (0 ≤ arrL f t D k ∧ arrL f t D k ≤ ((k + D.length : Nat) : Int))
  | [], _ => .inl rfl
  | d :: ds, k => by
    unfold arrL
    split
    · right; simp only [List.length_cons]; omega
    · have := arrL_ok f t ds (k + 1)
      simp only [List.length_cons]
      omega
section
variable {D : List DM} {R : List PM}
theorem resP_ok (hv : CP D R) (o n : Int) (T : List Int) : okT D (resP D R o n T) := by
  unfold okT resP
  split
  · split <;> omega
  split
  · split <;> omega
  split
  · split <;> omega
  split
  · rcases conT_cases (D := D) n with h0 | ⟨j, i, hj, he, _⟩
    · rw [h0]; simp
    · split
      · omega
      · split <;> omega
  split
  · split
    · have := hv.r n.toNat (by omega)
      split <;> omega
    · omega
  split
  · split
    · split
      · omega
      · split
        · have := arrL_ok ((gP R n.toNat).ps.getD ((gP R n.toNat).ps.length - 1) 0) (gP R n.toNat).r D 0
          rw [Nat.zero_add] at this
          exact this
        · omega
    · omega
  split
  · split
    · split
      · rename_i hc
        have hb : (0 < T.getD 0 0 ∧ T.getD 0 0 ≤ D.length) ∧ (gD D ((T.getD 0 0).toNat - 1)).cs.length = 0 := by
          have hi := hc.2.1
          simp only [isAr, Bool.and_eq_true, decide_eq_true_eq, beq_iff_eq] at hi
          exact ⟨⟨hi.1, (isTy_iff.1 hi.2.1).2⟩, hi.2.2⟩
        have := (hv.dv.arr ((T.getD 0 0).toNat - 1) (by omega) hb.2).2
        omega
      · omega
    · omega
  · omega
end
theorem callBd {ρ : Type} {r : ρ} {x : Option AV} {a0 : List (List AC)} {a1 : List (List AC)} (h : x = some (.v (.agg [.sl 1 a0, .sl 1 a1]))) {K : Fn (Option ρ) (shapesOf [(true, [.sl 1 [], .sl 1 []])])} (h2 : (K : List (List AC) → List (List AC) → Option ρ) a0 a1 = some r) : callR x false [(true, [.sl 1 [], .sl 1 []])] K = some r := by rw [h]; exact h2
def cL (D : List DM) (j : Nat) : List Int := (List.range (gD D j).cs.length).map fun i => ((sumC (D.take j) + i : Nat) : Int)
theorem cL_len (D : List DM) (j : Nat) : (cL D j).length = (gD D j).cs.length := by simp [cL]
theorem cL_get {D : List DM} {j k : Nat} (h : k < (gD D j).cs.length) : (cL D j).getD k 0 = ((sumC (D.take j) + k : Nat) : Int) := by
  simp [cL, List.getD, h]
theorem s_consOf {D : List DM} (hv : DV D) (n : Int) : spec_consOf [.cell (.sl 3 (decsC D)), .cell (.int n)] = rL (if 1 ≤ n ∧ n ≤ D.length then cL D (n.toNat - 1) else []) := by
  have hD := hv.len
  refine spec_consOf_le (callB (s_inRange _ _ _) ?_)
  rw [decsC_len]
  by_cases h : 1 ≤ n ∧ n ≤ D.length
  rotate_left
  · rw [if_neg h]
    refine bifT ?_ rfl
    rw [Bool.not_eq_true', Bool.and_eq_false_iff, decide_eq_false_iff_not, decide_eq_false_iff_not]
    omega
  rw [if_pos h, decide_eq_true h.1, decide_eq_true h.2]
  refine bifF rfl ?_
  have hj : n.toNat - 1 < D.length := by omega
  have w : wrapI (n - 1) = ((n.toNat - 1 : Nat) : Int) := by rw [wr (by omega) (by omega)]; omega
  generalize n.toNat - 1 = j at hj w ⊢
  have hc := hv.cs j hj
  have hs := sumC_le hv.cs j (by omega)
  have key : ∀ m k : Nat, k + m = (gD D j).cs.length → spec_consOf_L0 (decsC D) n (intsC ((cL D j).take k)) (k : Int) = rL (cL D j) := by
    intro m
    induction m with
    | zero =>
      intro k hk
      refine spec_consOf_L0_le (atDecI (k := j) w hj (bifF (decide_eq_false (by rw [consC_len]; omega)) ?_))
      rw [List.take_of_length_le (by rw [cL_len]; omega)]
    | succ m ih =>
      intro k hk
      refine spec_consOf_L0_le (atDecI (k := j) w hj (bifT (decide_eq_true (by rw [consC_len]; omega)) ?_))
      rw [w]
      refine callI (s_firstCon hv (k := j) (by omega)) (appTo (by rw [intsC_len, List.length_take, cL_len]; simp; omega) ?_)
      have hlt : k < (cL D j).length := by rw [cL_len]; omega
      have e := take_app hlt
      have e2 : (cL D j)[k] = ((sumC (D.take j) + k : Nat) : Int) := by
        have := cL_get (D := D) (j := j) (k := k) (by omega)
        rw [← this]
        simp [List.getD, hlt]
      rw [e2] at e
      rw [wr (n := ((sumC (D.take j) : Nat) : Int) + (k : Int)) (by omega) (by omega), ← Int.natCast_add, e, wrk (by unfold maxI; omega)]
      exact ih (k + 1) (by omega)
  exact key (gD D j).cs.length 0 (by omega)
def chk (T : Nat → Int) (t0 : Int) : Nat → Nat → Int
  | 0, _ => t0
  | m + 1, k => if T k = t0 then chk T t0 m (k + 1) else -1
theorem chk_neg (T : Nat → Int) : ∀ m k, chk T (-1) m k = -1
  | 0, _ => rfl
  | m + 1, k => by unfold chk; rw [chk_neg T m (k + 1), ite_self]
theorem chk_ok {D : List DM} {T : Nat → Int} {t0 : Int} (h : okT D t0) : ∀ m k, okT D (chk T t0 m k)
  | 0, _ => h
  | m + 1, k => by
    unfold chk
    split
    · exact chk_ok h m (k + 1)
    · exact .inl rfl
end Go.Proofs.Ytoljlooeiljpfaa

set_option linter.unusedVariables false
set_option linter.unusedSimpArgs false
namespace Go.Proofs.Ytoljlooeiljpfaa
open Go
theorem rI_cong {a b : Int} (h : a = b) : rI a = rI b := by rw [h]
theorem cS_ex (o n : Int) (kids : List (List AC)) : cS [.int o, .int n, .sl 3 kids] = kids.length + rsS kids := by
  rw [cS_int, cS_int, cS_sl, cS_nil]
  omega
theorem fit_ex {o n : Int} {kids : List (List AC)} (h : Fit .expr [.int o, .int n, .sl 3 kids]) : inI o ∧ inI n ∧ kids.length ≤ maxI ∧ ∀ b ∈ kids, Fit .expr b := by
  generalize ht : Ty.expr = t at h
  generalize hx : [AC.int o, AC.int n, AC.sl 3 kids] = x at h
  cases h with
  | expr o' n' kids' ho hn hl h =>
    simp only [List.cons.injEq, AC.int.injEq, AC.sl.injEq, true_and, and_true] at hx
    obtain ⟨rfl, rfl, rfl⟩ := hx
    exact ⟨ho, hn, hl, h⟩
  | _ => cases ht
theorem fit_shape {x : List AC} (h : Fit .expr x) : ∃ o n kids, x = [.int o, .int n, .sl 3 kids] := by
  generalize ht : Ty.expr = t at h
  cases h with
  | expr o n kids _ _ _ _ => exact ⟨o, n, kids, rfl⟩
  | _ => cases ht
/-- A kid. -/
theorem fit_kid {kids : List (List AC)} (h : ∀ b ∈ kids, Fit .expr b) {k : Nat} (hk : k < kids.length) : ∃ o n ks, kids.getD k [] = [.int o, .int n, .sl 3 ks] ∧ Fit .expr [.int o, .int n, .sl 3 ks] := by
  have h1 := h _ (mem_getD hk [])
  obtain ⟨o, n, ks, e⟩ := fit_shape h1
  exact ⟨o, n, ks, e, e ▸ h1⟩
theorem kid_lt {kids : List (List AC)} {k : Nat} (hk : k < kids.length) {o n : Int} : cS (kids.getD k []) < cS [.int o, .int n, .sl 3 kids] := by
  rw [cS_ex]
  have := rsS_mem (mem_getD hk [])
  omega
/-- How many nodes there are from a kid on. -/
def remN (kids : List (List AC)) (k : Nat) : Nat := (kids.length - k) + rsS (kids.drop k)
theorem remN_succ {kids : List (List AC)} {k : Nat} (hk : k < kids.length) : remN kids k = 1 + cS (kids.getD k []) + remN kids (k + 1) := by
  unfold remN
  rw [rsS_drop hk]
  omega
theorem remN_end (kids : List (List AC)) : remN kids kids.length = 0 := by
  unfold remN
  rw [List.drop_eq_nil_of_le (Nat.le_refl _), rsS_nil]
  omega
theorem remN_zero (o n : Int) (kids : List (List AC)) : remN kids 0 = cS [.int o, .int n, .sl 3 kids] := by
  rw [cS_ex]
  unfold remN
  simp
def minN (a b : Nat) : Nat := if a ≤ b then a else b
theorem i_upTo : ∀ (s : Nat) (o n : Int) (kids : List (List AC)), cS [.int o, .int n, .sl 3 kids] < s → Fit .expr [.int o, .int n, .sl 3 kids] → ∀ L : Nat, L ≤ 30 →
    impl_nodesUpTo [.agg [.int o, .int n, .sl 3 kids], .cell (.int (L : Int))] = rI ((minN (1 + cS [.int o, .int n, .sl 3 kids]) (L + 1) : Nat) : Int) := by
  intro s
  induction s with
  | zero => intro o n kids h; omega
  | succ s ihs =>
    intro o n kids hs hf L hL
    obtain ⟨_, _, hl, hk⟩ := fit_ex hf
    have key : ∀ m k : Nat, k + m = kids.length → ∀ c : Nat, 1 ≤ c → c ≤ L + 1 → impl_nodesUpTo_L0 (L : Int) (c : Int) kids ((kids.length : Nat) : Int) (k : Int) = rI ((minN (c + remN kids k) (L + 1) : Nat) : Int) := by
      intro m
      induction m with
      | zero =>
        intro k hk c h1 h2
        obtain rfl : k = kids.length := by omega
        refine impl_nodesUpTo_L0_le (bifF (decide_eq_false (by omega)) ?_)
        rw [remN_end]
        unfold minN
        rw [if_pos (by omega)]
        rfl
      | succ m ih =>
        intro k hkm c h1 h2
        have hlt : k < kids.length := by omega
        obtain ⟨o', n', ks, e, hf'⟩ := fit_kid hk hlt
        have hr := remN_succ hlt
        have hlt' := kid_lt hlt (o := o) (n := n)
        rw [e] at hr hlt'
        refine impl_nodesUpTo_L0_le (bifT (decide_eq_true (by omega)) (atExpr hlt e ?_))
        by_cases hc : c = L + 1
        · refine bifT (decide_eq_true (by omega)) ?_
          unfold minN
          split
          · have : c + remN kids k = c := by omega
            rw [this]
          · rw [hc]
        refine bifF (decide_eq_false (by omega)) ?_
        have w1 : wrapI ((L : Int) - (c : Int)) = ((L - c : Nat) : Int) := by rw [wr (by omega) (by omega)]; omega
        rw [w1]
        refine callI (ihs o' n' ks (by omega) hf' (L - c) (by omega)) ?_
        generalize cS [.int o', .int n', .sl 3 ks] = z at hr
        have hm : minN (1 + z) (L - c + 1) ≤ L - c + 1 ∧ 1 ≤ minN (1 + z) (L - c + 1) := by unfold minN; split <;> omega
        have w2 : wrapI ((c : Int) + ((minN (1 + z) (L - c + 1) : Nat) : Int)) = ((c + minN (1 + z) (L - c + 1) : Nat) : Int) := by rw [wr (by omega) (by omega)]; omega
        rw [w2, wrk (by omega)]
        rw [ih (k + 1) (by omega) _ (by omega) (by omega), hr]
        refine rI_cong ?_
        unfold minN
        split <;> split <;> split <;> omega
    have := key kids.length 0 (by omega) 1 (by omega) (by omega)
    rw [remN_zero o n] at this
    exact impl_nodesUpTo_le this
/-- How many nodes there are, -1 if too many. -/
def nodV (x : List AC) : Int := if cS x ≤ 29 then ((1 + cS x : Nat) : Int) else -1
theorem i_nodesOf {o n : Int} {kids : List (List AC)} (hf : Fit .expr [.int o, .int n, .sl 3 kids]) : impl_NodesOf [.agg [.int o, .int n, .sl 3 kids]] = rI (nodV [.int o, .int n, .sl 3 kids]) := by
  refine impl_NodesOf_le (callI (i_upTo _ o n kids (Nat.lt_succ_self _) hf 30 (by omega)) ?_)
  unfold nodV minN
  generalize cS [.int o, .int n, .sl 3 kids] = z
  by_cases h : z ≤ 29
  · rw [if_pos (show 1 + z ≤ 30 + 1 by omega), if_pos h]
    exact bifF (decide_eq_false (by omega)) rfl
  · rw [if_neg h]
    refine bifT (decide_eq_true ?_) rfl
    split <;> omega
theorem s_left : ∀ (s : Nat) (o n : Int) (kids : List (List AC)), cS [.int o, .int n, .sl 3 kids] < s → Fit .expr [.int o, .int n, .sl 3 kids] → ∀ L : Nat, L ≤ 30 →
    spec_nodesLeft [.agg [.int o, .int n, .sl 3 kids], .cell (.int (L : Int))] = rI (if 1 + cS [.int o, .int n, .sl 3 kids] ≤ L then ((L - (1 + cS [.int o, .int n, .sl 3 kids]) : Nat) : Int) else -1) := by
  intro s
  induction s with
  | zero => intro o n kids h; omega
  | succ s ihs =>
    intro o n kids hs hf L hL
    obtain ⟨_, _, hl, hk⟩ := fit_ex hf
    have key : ∀ m k : Nat, k + m = kids.length → ∀ c : Nat, c ≤ 30 → spec_nodesLeft_L0 (c : Int) o n kids (k : Int) = rI (if remN kids k ≤ c then ((c - remN kids k : Nat) : Int) else -1) := by
      intro m
      induction m with
      | zero =>
        intro k hk c h2
        obtain rfl : k = kids.length := by omega
        refine spec_nodesLeft_L0_le (bifF (decide_eq_false (by omega)) ?_)
        rw [remN_end, if_pos (by omega)]
        rfl
      | succ m ih =>
        intro k hkm c h2
        have hlt : k < kids.length := by omega
        obtain ⟨o', n', ks, e, hf'⟩ := fit_kid hk hlt
        have hr := remN_succ hlt
        have hlt' := kid_lt hlt (o := o) (n := n)
        rw [e] at hr hlt'
        refine spec_nodesLeft_L0_le (bifT (decide_eq_true (by omega)) (atExpr hlt e (callI (ihs o' n' ks (by omega) hf' c h2) ?_)))
        generalize cS [.int o', .int n', .sl 3 ks] = z at hr
        by_cases hc : 1 + z ≤ c
        · rw [if_pos hc]
          refine bifF (decide_eq_false (by omega)) ?_
          rw [wrk (by omega), ih (k + 1) (by omega) _ (by omega)]
          refine rI_cong ?_
          split <;> split <;> omega
        · rw [if_neg hc, if_neg (by omega)]
          exact bifT rfl rfl
    refine spec_nodesLeft_le ?_
    by_cases h1 : L = 0
    · rw [if_neg (by omega)]
      exact bifT (decide_eq_true (by omega)) rfl
    refine bifF (decide_eq_false (by omega)) ?_
    have w1 : wrapI ((L : Int) - 1) = ((L - 1 : Nat) : Int) := by rw [wr (by omega) (by omega)]; omega
    have := key kids.length 0 (by omega) (L - 1) (by omega)
    rw [remN_zero o n] at this
    rw [w1, show ((0 : Nat) : Int) = 0 from rfl] at *
    refine Eq.trans this ?_
    refine rI_cong ?_
    split <;> split <;> omega
theorem s_nodesOf {o n : Int} {kids : List (List AC)} (hf : Fit .expr [.int o, .int n, .sl 3 kids]) : spec_nodesOf [.agg [.int o, .int n, .sl 3 kids]] = rI (nodV [.int o, .int n, .sl 3 kids]) := by
  refine spec_nodesOf_le (callI (s_left _ o n kids (Nat.lt_succ_self _) hf 30 (by omega)) ?_)
  unfold nodV
  generalize cS [.int o, .int n, .sl 3 kids] = z
  by_cases h : z ≤ 29
  · rw [if_pos (by omega), if_pos h]
    refine bifF (decide_eq_false (by omega)) ?_
    rw [wr (by omega) (by omega)]
    refine rI_cong ?_
    omega
  · rw [if_neg (by omega), if_neg h]
    exact bifT rfl rfl
end Go.Proofs.Ytoljlooeiljpfaa

set_option linter.unusedVariables false
set_option linter.unusedSimpArgs false
namespace Go.Proofs.Ytoljlooeiljpfaa
open Go
def tyL (T : Nat → Int) (m : Nat) : List Int := (List.range m).map T
theorem tyL_len (T : Nat → Int) (m : Nat) : (tyL T m).length = m := by simp [tyL]
theorem tyL_get (T : Nat → Int) {m k : Nat} (h : k < m) : (tyL T m).getD k 0 = T k := by simp [tyL, List.getD, h]
theorem tyL_at (T : Nat → Int) {m k : Nat} (h : k < (tyL T m).length) : (tyL T m)[k] = T k := by simp [tyL]
section
variable {D : List DM} {R : List PM}
theorem i_typesIn (G M : List Int) (kids : List (List AC)) (hm : kids.length ≤ 68719476736) (T : Nat → Int) (hb : ∀ k, k < kids.length → ∃ o n ks, kids.getD k [] = [.int o, .int n, .sl 3 ks])
    (hT : ∀ k, k < kids.length → ∀ o n ks, kids.getD k [] = [.int o, .int n, .sl 3 ks] → impl_typeIn [.agg [.sl 3 (decsC D), .sl 5 (pmsC R)], .agg [.sl 1 (intsC G), .sl 1 (intsC M)], .agg [.int o, .int n, .sl 3 ks]] = rI (T k)) :
    impl_typesIn [.agg [.sl 3 (decsC D), .sl 5 (pmsC R)], .agg [.sl 1 (intsC G), .sl 1 (intsC M)], .cell (.sl 3 kids)] = rL (tyL T kids.length) := by
  have key : ∀ m k : Nat, k + m = kids.length → impl_typesIn_L0 (decsC D) (pmsC R) (intsC G) (intsC M) (intsC ((tyL T kids.length).take k)) kids ((kids.length : Nat) : Int) (k : Int) = rL (tyL T kids.length) := by
    intro m
    induction m with
    | zero =>
      intro k hk
      refine impl_typesIn_L0_le (bifF (decide_eq_false (by omega)) ?_)
      rw [List.take_of_length_le (by rw [tyL_len]; omega)]
    | succ m ih =>
      intro k hk
      have hlt : k < kids.length := by omega
      obtain ⟨o, n, ks, e⟩ := hb k hlt
      refine impl_typesIn_L0_le (bifT (decide_eq_true (by omega)) (atExpr hlt e (callI (hT k hlt _ _ _ e) (appTo (by rw [intsC_len, List.length_take, tyL_len]; simp; omega) ?_))))
      have hl : k < (tyL T kids.length).length := by rw [tyL_len]; exact hlt
      have := take_app hl
      rw [tyL_at] at this
      rw [this, wrk (by unfold maxI; omega)]
      exact ih (k + 1) (by omega)
  exact impl_typesIn_le (key kids.length 0 (by omega))
variable (V : List Int) (kids : List (List AC)) (hm : kids.length ≤ maxI) (T : Nat → Int) (hb : ∀ k, k < kids.length → ∃ o n ks, kids.getD k [] = [.int o, .int n, .sl 3 ks])
    (hT : ∀ k, k < kids.length → ∀ o n ks, kids.getD k [] = [.int o, .int n, .sl 3 ks] → spec_typeOf [.agg [.sl 3 (decsC D), .sl 5 (pmsC R)], .cell (.sl 1 (intsC V)), .agg [.int o, .int n, .sl 3 ks]] = rI (T k))
include hm hb hT
theorem s_allOf (types : List Int) : spec_allOf [.agg [.sl 3 (decsC D), .sl 5 (pmsC R)], .cell (.sl 1 (intsC V)), .cell (.sl 3 kids), .cell (.sl 1 (intsC types))] = rB (decide (tyL T kids.length = types)) := by
  refine spec_allOf_le ?_
  rw [intsC_len]
  by_cases hl : kids.length = types.length
  rotate_left
  · rw [decide_eq_false (fun h => hl (by rw [← h, tyL_len]))]
    exact bifT (net (by omega)) rfl
  refine bifF (nef (by omega)) ?_
  have key : ∀ m k : Nat, k + m = kids.length → spec_allOf_L0 (intsC V) kids (intsC types) (decsC D) (pmsC R) (k : Int) = rB (decide ((tyL T kids.length).drop k = types.drop k)) := by
    intro m
    induction m with
    | zero =>
      intro k hk
      rw [List.drop_eq_nil_of_le (show (tyL T kids.length).length ≤ k by rw [tyL_len]; omega), List.drop_eq_nil_of_le (show types.length ≤ k by omega)]
      exact spec_allOf_L0_le (bifF (decide_eq_false (by rw [intsC_len]; omega)) rfl)
    | succ m ih =>
      intro k hk
      have hlt : k < kids.length := by omega
      have h2 : k < types.length := by omega
      have h3 : k < (tyL T kids.length).length := by rw [tyL_len]; exact hlt
      obtain ⟨o, n, ks, e⟩ := hb k hlt
      rw [List.drop_eq_getElem_cons h3, List.drop_eq_getElem_cons h2, tyL_at]
      refine spec_allOf_L0_le (bifT (decide_eq_true (by rw [intsC_len]; omega)) (atExpr hlt e (callI (hT k hlt _ _ _ e) (atNum h2 ?_))))
      by_cases he : T k = types[k]
      · refine bifF (nef he) ?_
        rw [wrk (by omega), ih (k + 1) (by omega)]
        simp only [he, List.cons.injEq, true_and]
      · refine bifT (net he) ?_
        simp only [List.cons.injEq]
        rw [decide_eq_false (fun h => he h.1)]
  exact key kids.length 0 (by omega)
theorem s_allInts (c : Nat) : spec_allInts [.agg [.sl 3 (decsC D), .sl 5 (pmsC R)], .cell (.sl 1 (intsC V)), .cell (.sl 3 kids), .cell (.int (c : Int))] = rB (decide (tyL T kids.length = List.replicate c 0)) := by
  refine spec_allInts_le ?_
  by_cases hl : kids.length = c
  rotate_left
  · rw [decide_eq_false (fun h => hl (by have := congrArg List.length h; rw [tyL_len] at this; simpa using this))]
    exact bifT (net (by omega)) rfl
  refine bifF (nef (by omega)) ?_
  have key : ∀ m k : Nat, k + m = kids.length → spec_allInts_L0 (intsC V) kids (c : Int) (decsC D) (pmsC R) (k : Int) = rB (decide ((tyL T kids.length).drop k = List.replicate (c - k) 0)) := by
    intro m
    induction m with
    | zero =>
      intro k hk
      rw [List.drop_eq_nil_of_le (show (tyL T kids.length).length ≤ k by rw [tyL_len]; omega), show c - k = 0 by omega]
      exact spec_allInts_L0_le (bifF (decide_eq_false (by omega)) rfl)
    | succ m ih =>
      intro k hk
      have hlt : k < kids.length := by omega
      have h3 : k < (tyL T kids.length).length := by rw [tyL_len]; exact hlt
      obtain ⟨o, n, ks, e⟩ := hb k hlt
      rw [List.drop_eq_getElem_cons h3, tyL_at, show c - k = (c - (k + 1)) + 1 by omega, List.replicate_succ]
      refine spec_allInts_L0_le (bifT (decide_eq_true (by omega)) (atExpr hlt e (callI (hT k hlt _ _ _ e) ?_)))
      by_cases he : T k = 0
      · refine bifF (nef he) ?_
        rw [wrk (by omega), ih (k + 1) (by omega)]
        simp only [he, List.cons.injEq, true_and]
      · refine bifT (net he) ?_
        simp only [List.cons.injEq]
        rw [decide_eq_false (fun h => he h.1)]
  have := key kids.length 0 (by omega)
  simpa using this
theorem s_callType (hv : CP D R) (o n : Int) : spec_callType [.agg [.sl 3 (decsC D), .sl 5 (pmsC R)], .cell (.sl 1 (intsC V)), .agg [.int o, .int n, .sl 3 kids]] = rI (if 0 ≤ n ∧ n < R.length then (if o = 9 then (if tyL T kids.length = (gP R n.toNat).ps then (gP R n.toNat).r else -1)
      else if (gP R n.toNat).ps.length = 0 then -1 else if tyL T kids.length = preP (gP R n.toNat).ps then arrL ((gP R n.toNat).ps.getD ((gP R n.toNat).ps.length - 1) 0) (gP R n.toNat).r D 0 else -1) else -1) := by
  have hR := hv.rl
  refine spec_callType_le (callB (s_inRange _ _ _) ?_)
  have hw : wrapI ((((pmsC R).length : Nat) : Int) - 1) = R.length - 1 := by rw [pmsC_len]; exact wr (by omega) (by omega)
  rw [hw]
  by_cases h : 0 ≤ n ∧ n < R.length
  rotate_left
  · rw [if_neg h]
    refine bifT ?_ rfl
    rw [Bool.not_eq_true', Bool.and_eq_false_iff, decide_eq_false_iff_not, decide_eq_false_iff_not]
    omega
  rw [if_pos h, decide_eq_true h.1, decide_eq_true (show n ≤ (R.length : Int) - 1 by omega)]
  have hp := (hv.ps n.toNat (by omega)).1
  refine bifF rfl (atPmI (k := n.toNat) (by omega) (by omega) ?_)
  by_cases h9 : o = 9
  · rw [if_pos h9]
    refine bifT (eqt h9) (callB (s_allOf V kids hm T hb hT _) ?_)
    by_cases hq : tyL T kids.length = (gP R n.toNat).ps
    · rw [if_pos hq, decide_eq_true hq]
      exact bifF rfl rfl
    · rw [if_neg hq, decide_eq_false hq]
      exact bifT rfl rfl
  rw [if_neg h9]
  refine bifF (eqf h9) ?_
  rw [intsC_len]
  by_cases h0 : (gP R n.toNat).ps.length = 0
  · rw [if_pos h0]
    exact bifT (zr h0) rfl
  rw [if_neg h0]
  refine bifF (nz h0) ?_
  have w : wrapI ((((gP R n.toNat).ps.length : Nat) : Int) - 1) = (((gP R n.toNat).ps.length - 1 : Nat) : Int) := by
    rw [wr (by omega) (by omega)]
    omega
  rw [w]
  refine cutTo (by omega) (by omega) (by rw [intsC_len]; omega) ?_
  rw [show ((intsC (gP R n.toNat).ps).drop (0 : Int).toNat).take ((((gP R n.toNat).ps.length - 1 : Nat) : Int).toNat - (0 : Int).toNat) = intsC (preP (gP R n.toNat).ps) by simp [preP, intsC_take]]
  refine callB (s_allOf V kids hm T hb hT _) ?_
  by_cases hq : tyL T kids.length = preP (gP R n.toNat).ps
  · rw [if_pos hq, decide_eq_true hq]
    exact bifF rfl (atNumI rfl (by omega) (callI (s_arrow D (by have := hv.dv.len; omega) _ _) rfl))
  · rw [if_neg hq, decide_eq_false hq]
    exact bifT rfl rfl
end
end Go.Proofs.Ytoljlooeiljpfaa

set_option linter.unusedVariables false
set_option linter.unusedSimpArgs false
namespace Go.Proofs.Ytoljlooeiljpfaa
open Go
theorem pickT {m : Nat} {P : Nat → Int → Prop} (h : ∀ k, k < m → ∃ t, P k t) : ∃ T : Nat → Int, ∀ k, k < m → P k (T k) :=
  ⟨fun k => open Classical in if hk : k < m then (h k hk).choose else 0, fun k hk => by
    simp only [dif_pos hk]
    exact (h k hk).choose_spec⟩
section
variable {D : List DM} {R : List PM} (hv : CP D R)
section
variable (V : List Int) (kids : List (List AC)) (hm : kids.length ≤ maxI) (T : Nat → Int) (hb : ∀ k, k < kids.length → ∃ o n ks, kids.getD k [] = [.int o, .int n, .sl 3 ks])
    (hT : ∀ k, k < kids.length → ∀ o n ks, kids.getD k [] = [.int o, .int n, .sl 3 ks] → spec_typeOf [.agg [.sl 3 (decsC D), .sl 5 (pmsC R)], .cell (.sl 1 (intsC V)), .agg [.int o, .int n, .sl 3 ks]] = rI (T k))
include hm hb hT
theorem s_two (o n o' : Int) : spec_typeOf_J13 (intsC V) (decsC D) (pmsC R) o n kids (n == 0) o' true = rI (if n = 0 ∧ tyL T kids.length = [0, 0] then 0 else -1) := by
  refine spec_typeOf_J13_le (bifT rfl ?_)
  by_cases hn : n = 0
  · refine bifT (eqt hn) (callB (s_allInts V kids hm T hb hT 2) ?_)
    by_cases hq : tyL T kids.length = [0, 0]
    · rw [if_pos ⟨hn, hq⟩, decide_eq_true (show tyL T kids.length = List.replicate 2 0 from hq)]
      exact bifT rfl rfl
    · rw [if_neg (fun h => hq h.2), decide_eq_false (show ¬ tyL T kids.length = List.replicate 2 0 from hq)]
      exact bifF rfl rfl
  · rw [if_neg (fun h => hn h.1)]
    exact bifF (eqf hn) rfl
include hv
theorem s_rest {o n : Int} (h : ¬ (o = 1 ∨ o = 2 ∨ o = 3 ∨ o = 4)) (h0 : o ≠ 0) (h13 : o ≠ 13) (h7 : o ≠ 7) (h8 : o ≠ 8) : spec_typeOf_J13 (intsC V) (decsC D) (pmsC R) o n kids (n == 0) o false = rI (resP D R o n (tyL T kids.length)) := by
  refine spec_typeOf_J13_le (bifF rfl ?_)
  unfold resP
  rw [if_neg h0, if_neg h]
  by_cases h5 : o = 5
  · rw [if_pos h5]
    refine bifT (eqt h5) ?_
    by_cases hn : n = 0
    · refine bifT (eqt hn) (callB (s_allInts V kids hm T hb hT 1) ?_)
      by_cases hq : tyL T kids.length = [0]
      · rw [if_pos ⟨hn, hq⟩, decide_eq_true (show tyL T kids.length = List.replicate 1 0 from hq)]
        exact bifT rfl rfl
      · rw [if_neg (fun h => hq h.2), decide_eq_false (show ¬ tyL T kids.length = List.replicate 1 0 from hq)]
        exact bifF rfl rfl
    · rw [if_neg (fun h => hn h.1)]
      exact bifF (eqf hn) rfl
  rw [if_neg h5]
  refine bifF (eqf h5) ?_
  by_cases h6 : o = 6
  · rw [if_pos h6]
    refine bifT (eqt h6) (callI (s_conType hv.dv n) ?_)
    have hc := conT_cases (D := D) n
    by_cases hn : conT D n < 0
    · rw [if_pos hn]
      exact bifF (decide_eq_false (by omega)) rfl
    have h1 : 1 ≤ conT D n := by
      rcases hc with h0 | ⟨j, i, hj, he, _⟩ <;> omega
    have hf := s_conFields hv.dv n
    rw [if_neg (by omega)] at hf
    rw [if_neg hn]
    refine bifT (decide_eq_true (by omega)) (callS hf (callB (s_allOf V kids hm T hb hT _) ?_))
    by_cases hq : tyL T kids.length = fld D n
    · rw [if_pos hq, decide_eq_true hq]
      exact bifT rfl (callI (s_conType hv.dv n) rfl)
    · rw [if_neg hq, decide_eq_false hq]
      exact bifF rfl rfl
  rw [if_neg h6]
  refine bifF (eqf h6) (bifF (eqf h13) (bifF (eqf h7) (bifF (eqf h8) ?_)))
  by_cases h9 : o = 9
  · rw [if_pos h9]
    refine bifT (eqt h9) (spec_typeOf_J35_le (bifT (eqt h9) (callI (s_callType V kids hm T hb hT hv o n) ?_)))
    simp only [h9, if_true]
    rfl
  rw [if_neg h9]
  refine bifF (eqf h9) ?_
  by_cases h10 : o = 10
  · rw [if_pos h10]
    refine spec_typeOf_J35_le (bifT (eqt h10) (callI (s_callType V kids hm T hb hT hv o n) ?_))
    simp only [if_neg h9]
    rfl
  rw [if_neg h10]
  refine spec_typeOf_J35_le (bifF (eqf h10) ?_)
  by_cases h11 : o = 11
  rotate_left
  · rw [if_neg h11]
    exact bifF (eqf h11) rfl
  rw [if_pos h11]
  refine bifT (eqt h11) ?_
  by_cases hn : n = 0
  rotate_left
  · rw [if_neg hn]
    exact bifF (eqf hn) rfl
  rw [if_pos hn]
  refine bifT (eqt hn) ?_
  rw [tyL_len]
  by_cases h2 : kids.length = 2
  rotate_left
  · rw [if_neg (fun h => h2 h.1)]
    exact bifF (eqf (by omega)) rfl
  obtain ⟨o0, n0, k0, e0⟩ := hb 0 (by omega)
  obtain ⟨o1, n1, k1, e1⟩ := hb 1 (by omega)
  rw [tyL_get T (show 0 < kids.length by omega), tyL_get T (show 1 < kids.length by omega)]
  refine bifT (eqt (by omega)) (atExpr0 (by omega) e0 (callI (hT 0 (by omega) _ _ _ e0) (callB (s_isArrow (by have := hv.dv.len; omega) _) ?_)))
  rcases ha : isAr D (T 0) with _ | _
  · rw [if_neg (fun h => by cases h.2.1)]
    exact bifF rfl rfl
  have hl := hv.dv.len
  have hbd : 0 < T 0 ∧ T 0 ≤ D.length := by
    simp only [isAr, Bool.and_eq_true, decide_eq_true_eq] at ha
    exact ⟨ha.1, (isTy_iff.1 ha.2.1).2⟩
  have w : wrapI (T 0 - 1) = (((T 0).toNat - 1 : Nat) : Int) := by rw [wr (by omega) (by omega)]; omega
  refine bifT rfl (atExpr (k := 1) (by omega) e1 (callI (hT 1 (by omega) _ _ _ e1) (atDecI (k := (T 0).toNat - 1) w (by omega) ?_)))
  by_cases hq : T 1 = (gD D ((T 0).toNat - 1)).f
  · rw [if_pos ⟨h2, rfl, hq⟩]
    exact bifT (eqt hq) (atDecI (k := (T 0).toNat - 1) w (by omega) rfl)
  · rw [if_neg (fun h => hq h.2.2)]
    exact bifF (eqf hq) rfl
theorem s_tyOp {o n : Int} (h12 : o ≠ 12) (h13 : o ≠ 13) (h7 : o ≠ 7) (h8 : o ≠ 8) : spec_typeOf [.agg [.sl 3 (decsC D), .sl 5 (pmsC R)], .cell (.sl 1 (intsC V)), .agg [.int o, .int n, .sl 3 kids]] = rI (resP D R o n (tyL T kids.length)) := by
  refine spec_typeOf_le ?_
  by_cases h0 : o = 0
  · refine bifT (eqt h0) ?_
    unfold resP
    rw [if_pos h0, tyL_len]
    by_cases hl : kids.length = 0
    · refine bifT (zr hl) (callB (s_inRange _ _ _) ?_)
      by_cases hn : -999 ≤ n ∧ n ≤ 999
      · rw [if_pos ⟨hn, hl⟩, decide_eq_true hn.1, decide_eq_true hn.2]
        exact bifT rfl rfl
      · rw [if_neg (fun h => hn h.1)]
        refine bifF ?_ rfl
        rw [Bool.and_eq_false_iff, decide_eq_false_iff_not, decide_eq_false_iff_not]
        omega
    · rw [if_neg (fun h => hl h.2)]
      exact bifF (nz hl) rfl
  refine bifF (eqf h0) (bifF (eqf h12) ?_)
  by_cases h : o = 1 ∨ o = 2 ∨ o = 3 ∨ o = 4
  · have e : resP D R o n (tyL T kids.length) = (if n = 0 ∧ tyL T kids.length = [0, 0] then 0 else -1) := by
      unfold resP
      rw [if_neg h0, if_pos h]
    rw [e]
    rcases h with rfl | rfl | rfl | rfl
    · exact bifT rfl (s_two V kids hm T hb hT _ _ _)
    · exact bifF rfl (bifT rfl (s_two V kids hm T hb hT _ _ _))
    · exact bifF rfl (bifF rfl (bifT rfl (s_two V kids hm T hb hT _ _ _)))
    · exact bifF rfl (bifF rfl (bifF rfl (s_two V kids hm T hb hT _ _ _)))
  · refine bifF (eqf (fun h' => h (.inl h'))) (bifF (eqf (fun h' => h (.inr (.inl h')))) (bifF (eqf (fun h' => h (.inr (.inr (.inl h'))))) ?_))
    rw [eqf (show o ≠ 4 from fun h' => h (.inr (.inr (.inr h'))))]
    exact s_rest hv V kids hm T hb hT h h0 h13 h7 h8
end
end
end Go.Proofs.Ytoljlooeiljpfaa

set_option linter.unusedVariables false
set_option linter.unusedSimpArgs false
namespace Go.Proofs.Ytoljlooeiljpfaa
open Go
section
variable {D : List DM} {R : List PM}
noncomputable abbrev iTy (D : List DM) (R : List PM) (G M : List Int) (x : List AC) : Option AV := impl_typeIn [.agg [.sl 3 (decsC D), .sl 5 (pmsC R)], .agg [.sl 1 (intsC G), .sl 1 (intsC M)], .agg x]
noncomputable abbrev sTy (D : List DM) (R : List PM) (V : List Int) (x : List AC) : Option AV := spec_typeOf [.agg [.sl 3 (decsC D), .sl 5 (pmsC R)], .cell (.sl 1 (intsC V)), .agg x]
/-- Functions that are named are there. -/
inductive Nm (m : Nat) : List AC → Prop
  | node (o n : Int) (kids : List (List AC)) (h : o = 9 ∨ o = 10 → 0 ≤ n ∧ n < m) (hk : ∀ k, k < kids.length → Nm m (kids.getD k [])) : Nm m [.int o, .int n, .sl 3 kids]
/-- Both tell the type t. -/
def Tells (D : List DM) (R : List PM) (G M : List Int) (x : List AC) (t : Int) : Prop := okT D t ∧ iTy D R G M x = rI t ∧ sTy D R (G ++ M) x = rI t ∧ (0 ≤ t → Nm R.length x)
theorem neg1 {P : Prop} (h : 0 ≤ (-1 : Int)) : P := absurd h (by decide)
theorem chk_all {T : Nat → Int} {t0 : Int} : ∀ m k, 0 ≤ chk T t0 m k → 0 ≤ t0 ∧ ∀ i, k ≤ i → i < k + m → T i = t0
  | 0, k, h => ⟨h, fun i h1 h2 => by omega⟩
  | m + 1, k, h => by
    unfold chk at h
    split at h
    · rename_i e
      obtain ⟨h0, h1⟩ := chk_all m (k + 1) h
      refine ⟨h0, fun i g1 g2 => ?_⟩
      by_cases hi : i = k
      · rw [hi]; exact e
      · exact h1 i (by omega) (by omega)
    · exact neg1 h
theorem tyL_pos {T : Nat → Int} {m : Nat} {types : List Int} (h : tyL T m = types) (hp : ∀ t ∈ types, 0 ≤ t) : ∀ k, k < m → 0 ≤ T k := fun k hk => by
  have h1 : k < (tyL T m).length := by rw [tyL_len]; exact hk
  have h2 := List.getElem_mem h1
  rw [tyL_at] at h2
  rw [h] at h2
  exact hp _ h2
theorem resP_pos {D : List DM} {R : List PM} (hv : CP D R) {o n : Int} {T : Nat → Int} {m : Nat} (h : 0 ≤ resP D R o n (tyL T m)) : (o = 9 ∨ o = 10 → 0 ≤ n ∧ n < R.length) ∧ ∀ k, k < m → 0 ≤ T k := by
  unfold resP at h
  split at h
  · rename_i h0
    refine ⟨by omega, fun k hk => ?_⟩
    split at h
    · rename_i hc
      rw [tyL_len] at hc
      omega
    · exact neg1 h
  split at h
  · refine ⟨by omega, ?_⟩
    split at h
    · rename_i hc
      exact tyL_pos hc.2 (by simp)
    · exact neg1 h
  split at h
  · refine ⟨by omega, ?_⟩
    split at h
    · rename_i hc
      exact tyL_pos hc.2 (by simp)
    · exact neg1 h
  split at h
  · refine ⟨by omega, ?_⟩
    split at h
    · exact neg1 h
    · rename_i hn
      split at h
      · rename_i hc
        exact tyL_pos hc fun t ht => ((fld_lenP hv hn).2 t ht).1
      · exact neg1 h
  split at h
  · split at h
    · rename_i hc
      refine ⟨fun _ => hc, ?_⟩
      split at h
      · rename_i hq
        exact tyL_pos hq fun t ht => ((hv.ps n.toNat (by omega)).2 t ht).1
      · exact neg1 h
    · exact neg1 h
  split at h
  · split at h
    · rename_i hc
      refine ⟨fun _ => hc, ?_⟩
      split at h
      · exact neg1 h
      · split at h
        · rename_i hq
          exact tyL_pos hq fun t ht => ((hv.ps n.toNat (by omega)).2 t (List.mem_of_mem_take ht)).1
        · exact neg1 h
    · exact neg1 h
  split at h
  · rename_i h9 h10 _
    refine ⟨fun h' => by omega, ?_⟩
    split at h
    · split at h
      · rename_i hc
        rw [tyL_len] at hc
        intro k hk
        have ha := hc.2.1
        have hb := hc.2.2
        rw [tyL_get T (by omega)] at ha
        rw [tyL_get T (show 1 < m by omega), tyL_get T (show 0 < m by omega)] at hb
        simp only [isAr, Bool.and_eq_true, decide_eq_true_eq, beq_iff_eq] at ha
        have h2 := isTy_iff.1 ha.2.1
        have := (hv.dv.arr ((T 0).toNat - 1) (by omega) ha.2.2).1
        rcases (by omega : k = 0 ∨ k = 1) with rfl | rfl
        · omega
        · omega
      · exact neg1 h
    · exact neg1 h
  · exact neg1 h
theorem i_matchL (G M : List Int) (hM : M.length ≤ 2147483648) (o n : Int) (kids : List (List AC)) (fs : List (List Int)) (T : Nat → Int) (hl : fs.length + 1 = kids.length) (hm : kids.length ≤ 1048576) (h3 : ∀ k, k < fs.length → (fs.getD k []).length ≤ 3)
    (hb : ∀ k, k < kids.length → ∃ o n ks, kids.getD k [] = [.int o, .int n, .sl 3 ks])
    (hT : ∀ k, k < fs.length → iTy D R G (M ++ fs.getD k []) (kids.getD (1 + k) []) = rI (T k)) (t0 : Int) :
    ∀ m k : Nat, k + m = fs.length → impl_typeOfMatch_L0 (decsC D) (pmsC R) (intsC G) (intsC M) o n kids (consC fs) t0 (k : Int) = rI (chk T t0 m k) := by
  intro m
  induction m with
  | zero =>
    intro k hk
    exact impl_typeOfMatch_L0_le (bifF (decide_eq_false (by rw [consC_len]; omega)) rfl)
  | succ m ih =>
    intro k hk
    have hlt : k < fs.length := by omega
    obtain ⟨o', n', ks, e⟩ := hb (1 + k) (by omega)
    have ht := hT k hlt
    rw [e] at ht
    have w : wrapI (1 + (k : Int)) = ((1 + k : Nat) : Int) := by rw [wr (by omega) (by omega)]; omega
    refine impl_typeOfMatch_L0_le (bifT (decide_eq_true (by rw [consC_len]; omega)) (atConI (k := k) rfl (by omega) (callBd (i_bind G M _ (by have := h3 k hlt; omega)) ?_)))
    rw [w]
    refine atExpr (k := 1 + k) (by omega) e (callI ht ?_)
    unfold chk
    by_cases hq : T k = t0
    · rw [if_pos hq, wrk (by unfold maxI; omega)]
      exact bifF (nef hq) (ih (k + 1) (by omega))
    · rw [if_neg hq]
      exact bifT (net hq) rfl
theorem s_matchL (hv : CP D R) (V : List Int) (hV : V.length ≤ 2147483648) (o n : Int) (kids : List (List AC)) (j : Nat) (hj : j < D.length) (T : Nat → Int) (hl : (gD D j).cs.length + 1 = kids.length)
    (hb : ∀ k, k < kids.length → ∃ o n ks, kids.getD k [] = [.int o, .int n, .sl 3 ks])
    (hT : ∀ k, k < (gD D j).cs.length → sTy D R (V ++ (gD D j).cs.getD k []) (kids.getD (1 + k) []) = rI (T k)) (t0 : Int) :
    ∀ m k : Nat, k + m = (gD D j).cs.length → spec_matchType_L0 (intsC V) (decsC D) (pmsC R) o n kids (intsC (cL D j)) t0 (k : Int) = rI (chk T t0 m k) := by
  have hc := hv.dv.cs j hj
  intro m
  induction m with
  | zero =>
    intro k hk
    exact spec_matchType_L0_le (bifF (decide_eq_false (by rw [intsC_len, cL_len]; omega)) rfl)
  | succ m ih =>
    intro k hk
    have hlt : k < (gD D j).cs.length := by omega
    obtain ⟨o', n', ks, e⟩ := hb (1 + k) (by omega)
    have ht := hT k hlt
    rw [e] at ht
    obtain ⟨c1, c2⟩ := conT_hit (D := D) hj hlt
    have hf := s_conFields hv.dv ((sumC (D.take j) + k : Nat) : Int)
    rw [if_neg (by omega), c2] at hf
    have h3 := (hv.dv.c j hj _ (mem_getD hlt [])).1
    have w : wrapI (1 + (k : Int)) = ((1 + k : Nat) : Int) := by rw [wr (by omega) (by omega)]; omega
    refine spec_matchType_L0_le (bifT (decide_eq_true (by rw [intsC_len, cL_len]; omega)) (atNumI (k := k) rfl (by rw [cL_len]; exact hlt) ?_))
    rw [cL_get hlt, w]
    refine callS hf (callS (s_extend V _ (by omega)) (atExpr (k := 1 + k) (by omega) e (callI ht ?_)))
    unfold chk
    by_cases hq : T k = t0
    · rw [if_pos hq, wrk (by unfold maxI; omega)]
      exact bifF (nef hq) (ih (k + 1) (by omega))
    · rw [if_neg hq]
      exact bifT (net hq) rfl
theorem ty_both (hv : CP D R) : ∀ (s : Nat) (o n : Int) (kids : List (List AC)), Fit .expr [.int o, .int n, .sl 3 kids] → cS [.int o, .int n, .sl 3 kids] < s → s ≤ 31 → ∀ G M : List Int, (∀ t ∈ G ++ M, 0 ≤ t ∧ t ≤ D.length) → (G ++ M).length + 3 * s ≤ 1048576 →
    ∃ t, Tells D R G M [.int o, .int n, .sl 3 kids] t := by
  intro s
  induction s with
  | zero => intro o n kids _ h; omega
  | succ s ihs =>
    intro o n kids hf hs hs31 G M hV hlen
    obtain ⟨_, hn, hml, hk⟩ := fit_ex hf
    have hcs := cS_ex o n kids
    have hm : kids.length ≤ 1048576 := by omega
    have hb : ∀ k, k < kids.length → ∃ o n ks, kids.getD k [] = [.int o, .int n, .sl 3 ks] := fun k hlt => by
      obtain ⟨o', n', ks, e, _⟩ := fit_kid hk hlt
      exact ⟨o', n', ks, e⟩
    -- a kid in a scope
    have kid : ∀ k, k < kids.length → ∀ X : List Int, X.length ≤ 3 → (∀ t ∈ X, 0 ≤ t ∧ t ≤ D.length) → ∃ t, Tells D R G (M ++ X) (kids.getD k []) t := fun k hlt X hX hXt => by
      obtain ⟨o', n', ks, e, hf'⟩ := fit_kid hk hlt
      have h1 := kid_lt hlt (o := o) (n := n)
      rw [e] at h1 ⊢
      refine ihs o' n' ks hf' (by omega) (by omega) G (M ++ X) (fun t ht => ?_) (by rw [← List.append_assoc, List.length_append]; omega)
      rw [← List.append_assoc] at ht
      rcases List.mem_append.1 ht with ht | ht
      · exact hV t ht
      · exact hXt t ht
    obtain ⟨T, hT⟩ := pickT (fun k hlt => kid k hlt [] (by simp) (fun t ht => by cases ht))
    simp only [List.append_nil] at hT
    have hTi : ∀ k, k < kids.length → ∀ o n ks, kids.getD k [] = [.int o, .int n, .sl 3 ks] → iTy D R G M [.int o, .int n, .sl 3 ks] = rI (T k) := fun k hlt o n ks e => by
      have := (hT k hlt).2.1
      rw [e] at this
      exact this
    have hTs : ∀ k, k < kids.length → ∀ o n ks, kids.getD k [] = [.int o, .int n, .sl 3 ks] → sTy D R (G ++ M) [.int o, .int n, .sl 3 ks] = rI (T k) := fun k hlt o n ks e => by
      have := (hT k hlt).2.2.1
      rw [e] at this
      exact this
    have hGM : G.length + M.length ≤ 1048576 := by rw [List.length_append] at hlen; omega
    by_cases h12 : o = 12
    · subst h12
      by_cases h0 : kids.length = 0
      rotate_left
      · exact ⟨-1, .inl rfl, impl_typeIn_le (bifT rfl (bifT (decide_eq_true (by omega)) rfl)), spec_typeOf_le (bifF rfl (bifT rfl (bifF (nz h0) rfl))), neg1⟩
      refine ⟨tv (G ++ M) n, ?_, impl_typeIn_le (bifT rfl (bifF (decide_eq_false (by omega)) (callI (i_typeOfVar G M (by omega) (by omega) hn) rfl))), spec_typeOf_le (bifF rfl (bifT rfl (bifT (zr h0) (callB (s_inRange _ _ _) ?_)))), fun _ => .node _ _ _ (fun h => by omega) (fun k hk => by omega)⟩
      · unfold tv
        split
        · rename_i hc
          exact .inr (hV _ (mem_getD (by omega) 0))
        · exact .inl rfl
      · have hw : wrapI ((((intsC (G ++ M)).length : Nat) : Int) - 1) = ((G ++ M).length : Int) - 1 := by rw [intsC_len, List.length_append]; exact wr (by omega) (by omega)
        rw [hw]
        unfold tv
        by_cases hc : 0 ≤ n ∧ n < (G ++ M).length
        · rw [if_pos hc, decide_eq_true hc.1, decide_eq_true (show n ≤ ((G ++ M).length : Int) - 1 by omega)]
          exact bifT rfl (atNumI (k := n.toNat) (by omega) (by omega) rfl)
        · rw [if_neg hc]
          refine bifF ?_ rfl
          rw [Bool.and_eq_false_iff, decide_eq_false_iff_not, decide_eq_false_iff_not]
          omega
    by_cases h13 : o = 13
    · subst h13
      have hi : ∀ r, impl_typeOfLet [.agg [.sl 3 (decsC D), .sl 5 (pmsC R)], .agg [.sl 1 (intsC G), .sl 1 (intsC M)], .agg [.int 13, .int n, .sl 3 kids]] = rI r → iTy D R G M [.int 13, .int n, .sl 3 kids] = rI r := fun r h => impl_typeIn_le (bifF rfl (bifT rfl (callI h rfl)))
      have hsp : ∀ r, (bif (n == 0) then
                bif (((kids.length : Nat) : Int) == 2) then
                  atR_ kids 0 [.int 0, .int 0, .sl 3 []] fun n25 n26 l27 =>
                  callR (spec_typeOf [.agg [.sl 3 (decsC D), .sl 5 (pmsC R)], .cell (.sl 1 (intsC (G ++ M))), .agg [.int n25, .int n26, .sl 3 l27]]) false [(false, [.int 0])] fun n28 =>
                  bif (decide (n28 ≥ 0)) then
                    callR (spec_extend [.cell (.sl 1 (intsC (G ++ M))), .cell (.sl 1 [[.int n28]])]) false [(false, [.sl 1 []])] fun l29 =>
                    atR_ kids 1 [.int 0, .int 0, .sl 3 []] fun n30 n31 l32 =>
                    callR (spec_typeOf [.agg [.sl 3 (decsC D), .sl 5 (pmsC R)], .cell (.sl 1 l29), .agg [.int n30, .int n31, .sl 3 l32]]) false [(false, [.int 0])] fun n33 =>
                    some (.v (.cell (.int n33)))
                  else
                    some (.v (.cell (.int (-1))))
                else
                  some (.v (.cell (.int (-1))))
              else
                some (.v (.cell (.int (-1)))) : Option AV) = rI r → sTy D R (G ++ M) [.int 13, .int n, .sl 3 kids] = rI r := fun r h => spec_typeOf_le (bifF rfl (bifF rfl (bifF rfl (bifF rfl (bifF rfl (spec_typeOf_J13_le (bifF rfl (bifF rfl (bifF rfl (bifT rfl h)))))))))) 
      by_cases h0 : n = 0
      rotate_left
      · exact ⟨-1, .inl rfl, hi _ (impl_typeOfLet_le (bifT (net h0) rfl)), hsp _ (bifF (eqf h0) rfl), neg1⟩
      by_cases h2 : kids.length = 2
      rotate_left
      · exact ⟨-1, .inl rfl, hi _ (impl_typeOfLet_le (bifF (nef h0) (bifT (net (by omega)) rfl))), hsp _ (bifT (eqt h0) (bifF (eqf (by omega)) rfl)), neg1⟩
      obtain ⟨o0, n0, k0, e0⟩ := hb 0 (by omega)
      obtain ⟨o1, n1, k1, e1⟩ := hb 1 (by omega)
      have t0i := hTi 0 (by omega) _ _ _ e0
      have t0s := hTs 0 (by omega) _ _ _ e0
      have t0o := (hT 0 (by omega)).1
      by_cases hn0 : T 0 < 0
      · exact ⟨-1, .inl rfl, hi _ (impl_typeOfLet_le (bifF (nef h0) (bifF (nef (by omega)) (atExpr0 (by omega) e0 (callI t0i (bifT (decide_eq_true hn0) rfl)))))),
          hsp _ (bifT (eqt h0) (bifT (eqt (by omega)) (atExpr0 (by omega) e0 (callI t0s (bifF (decide_eq_false (by omega)) rfl))))), neg1⟩
      obtain ⟨t, ht1, ht2, ht3, ht4⟩ := kid 1 (by omega) [T 0] (by simp) (fun x hx => by
        simp only [List.mem_singleton] at hx
        subst hx
        rcases t0o with h | h <;> omega)
      rw [e1] at ht2 ht3 ht4
      rw [← List.append_assoc] at ht3
      exact ⟨t, ht1, hi _ (impl_typeOfLet_le (bifF (nef h0) (bifF (nef (by omega)) (atExpr0 (by omega) e0 (callI t0i (bifF (decide_eq_false hn0) (callBd (i_bind G M [T 0] (by simp; omega)) (atExpr (k := 1) (by omega) e1 (callI ht2 rfl))))))))),
        hsp _ (bifT (eqt h0) (bifT (eqt (by omega)) (atExpr0 (by omega) e0 (callI t0s (bifT (decide_eq_true (by omega)) (callS (s_extend (G ++ M) [T 0] (by simp; omega)) (atExpr (k := 1) (by omega) e1 (callI ht3 rfl)))))))), fun h => .node _ _ _ (fun h => by omega) (fun k hk => by
          rcases (by omega : k = 0 ∨ k = 1) with rfl | rfl
          · exact (hT 0 (by omega)).2.2.2 (by omega)
          · rw [e1]; exact ht4 h)⟩
    by_cases h7 : o = 7
    · subst h7
      have hi : ∀ r, impl_typeOfIf [.agg [.sl 3 (decsC D), .sl 5 (pmsC R)], .agg [.sl 1 (intsC G), .sl 1 (intsC M)], .agg [.int 7, .int n, .sl 3 kids]] = rI r → iTy D R G M [.int 7, .int n, .sl 3 kids] = rI r := fun r h => impl_typeIn_le (bifF rfl (bifF rfl (bifT rfl (callI h rfl))))
      have hsp : ∀ r, (bif (n == 0) then
                bif (((kids.length : Nat) : Int) == 3) then
                    atR_ kids 0 [.int 0, .int 0, .sl 3 []] fun n34 n35 l36 =>
                    callR (spec_typeOf [.agg [.sl 3 (decsC D), .sl 5 (pmsC R)], .cell (.sl 1 (intsC (G ++ M))), .agg [.int n34, .int n35, .sl 3 l36]]) false [(false, [.int 0])] fun n37 =>
                    bif (n37 == 0) then
                      atR_ kids 1 [.int 0, .int 0, .sl 3 []] fun n38 n39 l40 =>
                      callR (spec_typeOf [.agg [.sl 3 (decsC D), .sl 5 (pmsC R)], .cell (.sl 1 (intsC (G ++ M))), .agg [.int n38, .int n39, .sl 3 l40]]) false [(false, [.int 0])] fun n41 =>
                      atR_ kids 2 [.int 0, .int 0, .sl 3 []] fun n42 n43 l44 =>
                      callR (spec_typeOf [.agg [.sl 3 (decsC D), .sl 5 (pmsC R)], .cell (.sl 1 (intsC (G ++ M))), .agg [.int n42, .int n43, .sl 3 l44]]) false [(false, [.int 0])] fun n45 =>
                      bif (n45 == n41) then
                        some (.v (.cell (.int n41)))
                      else
                        some (.v (.cell (.int (-1))))
                    else
                      some (.v (.cell (.int (-1))))
                  else
                    some (.v (.cell (.int (-1))))
              else
                some (.v (.cell (.int (-1)))) : Option AV) = rI r → sTy D R (G ++ M) [.int 7, .int n, .sl 3 kids] = rI r := fun r h => spec_typeOf_le (bifF rfl (bifF rfl (bifF rfl (bifF rfl (bifF rfl (spec_typeOf_J13_le (bifF rfl (bifF rfl (bifF rfl (bifF rfl (bifT rfl h))))))))))) 
      by_cases h0 : n = 0
      rotate_left
      · exact ⟨-1, .inl rfl, hi _ (impl_typeOfIf_le (bifT (net h0) rfl)), hsp _ (bifF (eqf h0) rfl), neg1⟩
      by_cases h2 : kids.length = 3
      rotate_left
      · exact ⟨-1, .inl rfl, hi _ (impl_typeOfIf_le (bifF (nef h0) (bifT (net (by omega)) rfl))), hsp _ (bifT (eqt h0) (bifF (eqf (by omega)) rfl)), neg1⟩
      obtain ⟨o0, n0, k0, e0⟩ := hb 0 (by omega)
      obtain ⟨o1, n1, k1, e1⟩ := hb 1 (by omega)
      obtain ⟨o2, n2, k2, e2⟩ := hb 2 (by omega)
      have pre : ∀ r, (bif T 0 != 0 then rI (-1) else bif T 2 != T 1 then rI (-1) else rI (T 1)) = rI r → iTy D R G M [.int 7, .int n, .sl 3 kids] = rI r := fun r h => by
        refine hi _ (impl_typeOfIf_le (bifF (nef h0) (bifF (nef (by omega)) (atExpr (k := 1) (by omega) e1 (callI (hTi 1 (by omega) _ _ _ e1) (atExpr0 (by omega) e0 (callI (hTi 0 (by omega) _ _ _ e0) ?_)))))))
        by_cases hq : T 0 = 0
        · rw [nef hq] at h
          refine bifF (nef hq) (atExpr (k := 2) (by omega) e2 (callI (hTi 2 (by omega) _ _ _ e2) ?_))
          exact h
        · rw [net hq] at h
          exact bifT (net hq) h
      have prs : ∀ r, (bif T 0 == 0 then (bif T 2 == T 1 then rI (T 1) else rI (-1)) else rI (-1)) = rI r → sTy D R (G ++ M) [.int 7, .int n, .sl 3 kids] = rI r := fun r h => by
        refine hsp _ (bifT (eqt h0) (bifT (eqt (by omega)) (atExpr0 (by omega) e0 (callI (hTs 0 (by omega) _ _ _ e0) ?_))))
        by_cases hq : T 0 = 0
        · rw [eqt hq] at h
          exact bifT (eqt hq) (atExpr (k := 1) (by omega) e1 (callI (hTs 1 (by omega) _ _ _ e1) (atExpr (k := 2) (by omega) e2 (callI (hTs 2 (by omega) _ _ _ e2) h))))
        · rw [eqf hq] at h
          exact bifF (eqf hq) h
      by_cases hq : T 0 = 0
      rotate_left
      · exact ⟨-1, .inl rfl, pre _ (bifT (net hq) rfl), prs _ (bifF (eqf hq) rfl), neg1⟩
      by_cases hq2 : T 2 = T 1
      · exact ⟨T 1, (hT 1 (by omega)).1, pre _ (bifF (nef hq) (bifF (nef hq2) rfl)), prs _ (bifT (eqt hq) (bifT (eqt hq2) rfl)), fun h => .node _ _ _ (fun h => by omega) (fun k hk => (hT k hk).2.2.2 (by
          rcases (by omega : k = 0 ∨ k = 1 ∨ k = 2) with rfl | rfl | rfl <;> omega))⟩
      · exact ⟨-1, .inl rfl, pre _ (bifF (nef hq) (bifT (net hq2) rfl)), prs _ (bifT (eqt hq) (bifF (eqf hq2) rfl)), neg1⟩
    by_cases h8 : o = 8
    · subst h8
      have hi : ∀ r, impl_typeOfMatch [.agg [.sl 3 (decsC D), .sl 5 (pmsC R)], .agg [.sl 1 (intsC G), .sl 1 (intsC M)], .agg [.int 8, .int n, .sl 3 kids]] = rI r → iTy D R G M [.int 8, .int n, .sl 3 kids] = rI r := fun r h => impl_typeIn_le (bifF rfl (bifF rfl (bifF rfl (bifT rfl (callI h rfl)))))
      have hsp : ∀ r, spec_matchType [.agg [.sl 3 (decsC D), .sl 5 (pmsC R)], .cell (.sl 1 (intsC (G ++ M))), .agg [.int 8, .int n, .sl 3 kids]] = rI r → sTy D R (G ++ M) [.int 8, .int n, .sl 3 kids] = rI r := fun r h => spec_typeOf_le (bifF rfl (bifF rfl (bifF rfl (bifF rfl (bifF rfl (spec_typeOf_J13_le (bifF rfl (bifF rfl (bifF rfl (bifF rfl (bifF rfl (bifT rfl (callI h rfl)))))))))))))
      have hl4 := hv.dv.len
      rcases hd : isDa D n with _ | _
      · refine ⟨-1, .inl rfl, hi _ (impl_typeOfMatch_le (callB (i_isData (by omega) n) (by rw [hd]; exact bifT rfl rfl))), hsp _ (spec_matchType_le (callS (s_consOf hv.dv n) ?_)), neg1⟩
        refine bifT ?_ rfl
        rw [intsC_len]
        refine zr ?_
        split
        · rename_i hc
          rw [cL_len]
          unfold isDa at hd
          rw [decide_eq_true (show 0 < n by omega), isTy_iff.2 (show 0 ≤ n ∧ n ≤ (D.length : Int) by omega)] at hd
          simp only [Bool.true_and, decide_eq_false_iff_not] at hd
          omega
        · rfl
      have hda : (1 ≤ n ∧ n ≤ D.length) ∧ 0 < (gD D (n.toNat - 1)).cs.length := by
        unfold isDa at hd
        simp only [Bool.and_eq_true, decide_eq_true_eq] at hd
        have := isTy_iff.1 hd.2.1
        exact ⟨by omega, hd.2.2⟩
      have hco := s_consOf hv.dv n
      rw [if_pos hda.1] at hco
      have hj : n.toNat - 1 < D.length := by omega
      have w : wrapI (n - 1) = ((n.toNat - 1 : Nat) : Int) := by rw [wr (by omega) (by omega)]; omega
      generalize hjd : n.toNat - 1 = j at hj w hco hda
      have hc3 := hv.dv.cs j hj
      have hfs : ∀ k, k < (gD D j).cs.length → ((gD D j).cs.getD k []).length ≤ 3 ∧ ∀ t ∈ (gD D j).cs.getD k [], 0 ≤ t ∧ t ≤ D.length := fun k hk => hv.dv.c j hj _ (mem_getD hk [])
      have wl : wrapI (1 + ((((gD D j).cs.length : Nat)) : Int)) = ((1 + (gD D j).cs.length : Nat) : Int) := by rw [wr (by omega) (by omega)]; omega
      have prei : ∀ r, (bif (((kids.length : Nat) : Int) != ((1 + (gD D j).cs.length : Nat) : Int)) then rI (-1) else
          atR_ kids 0 [.int 0, .int 0, .sl 3 []] fun n12 n13 l14 =>
          callR (impl_typeIn [.agg [.sl 3 (decsC D), .sl 5 (pmsC R)], .agg [.sl 1 (intsC G), .sl 1 (intsC M)], .agg [.int n12, .int n13, .sl 3 l14]]) false [(false, [.int 0])] fun n15 =>
          bif (n15 != n) then
            some (.v (.cell (.int (-1))))
          else
            atR_ (consC (gD D j).cs) 0 [.sl 1 []] fun l16 =>
            callR (impl_bind [.agg [.sl 1 (intsC G), .sl 1 (intsC M)], .cell (.sl 1 l16)]) false [(true, [.sl 1 [], .sl 1 []])] fun l17 l18 =>
            atR_ kids 1 [.int 0, .int 0, .sl 3 []] fun n19 n20 l21 =>
            callR (impl_typeIn [.agg [.sl 3 (decsC D), .sl 5 (pmsC R)], .agg [.sl 1 l17, .sl 1 l18], .agg [.int n19, .int n20, .sl 3 l21]]) false [(false, [.int 0])] fun n22 =>
            impl_typeOfMatch_L0 (decsC D) (pmsC R) (intsC G) (intsC M) 8 n kids (consC (gD D j).cs) n22 1 : Option AV) = rI r → iTy D R G M [.int 8, .int n, .sl 3 kids] = rI r := fun r h => by
        refine hi _ (impl_typeOfMatch_le (callB (i_isData (by omega) n) ?_))
        rw [hd]
        refine bifF rfl (atDecI (k := j) w hj ?_)
        rw [consC_len, wl]
        exact h
      have pres : ∀ r, (bif (((kids.length : Nat) : Int) != ((1 + (gD D j).cs.length : Nat) : Int)) then rI (-1) else
          atR_ kids 0 [.int 0, .int 0, .sl 3 []] fun n8 n9 l10 =>
          callR (spec_typeOf [.agg [.sl 3 (decsC D), .sl 5 (pmsC R)], .cell (.sl 1 (intsC (G ++ M))), .agg [.int n8, .int n9, .sl 3 l10]]) false [(false, [.int 0])] fun n11 =>
          bif (n11 != n) then
            some (.v (.cell (.int (-1))))
          else
            atR_ (intsC (cL D j)) 0 [.int 0] fun n12 =>
            callR (spec_conFields [.cell (.sl 3 (decsC D)), .cell (.int n12)]) false [(false, [.sl 1 []])] fun l13 =>
            callR (spec_extend [.cell (.sl 1 (intsC (G ++ M))), .cell (.sl 1 l13)]) false [(false, [.sl 1 []])] fun l14 =>
            atR_ kids 1 [.int 0, .int 0, .sl 3 []] fun n15 n16 l17 =>
            callR (spec_typeOf [.agg [.sl 3 (decsC D), .sl 5 (pmsC R)], .cell (.sl 1 l14), .agg [.int n15, .int n16, .sl 3 l17]]) false [(false, [.int 0])] fun n18 =>
            spec_matchType_L0 (intsC (G ++ M)) (decsC D) (pmsC R) 8 n kids (intsC (cL D j)) n18 1 : Option AV) = rI r → sTy D R (G ++ M) [.int 8, .int n, .sl 3 kids] = rI r := fun r h => by
        refine hsp _ (spec_matchType_le (callS hco ?_))
        rw [intsC_len, cL_len, wl]
        exact bifF (nz (by omega)) h
      by_cases hl : kids.length = 1 + (gD D j).cs.length
      rotate_left
      · exact ⟨-1, .inl rfl, prei _ (bifT (net (by omega)) rfl), pres _ (bifT (net (by omega)) rfl), neg1⟩
      obtain ⟨o0, n0, k0, e0⟩ := hb 0 (by omega)
      by_cases hq : T 0 = n
      rotate_left
      · exact ⟨-1, .inl rfl, prei _ (bifF (nef (by omega)) (atExpr0 (by omega) e0 (callI (hTi 0 (by omega) _ _ _ e0) (bifT (net hq) rfl)))),
          pres _ (bifF (nef (by omega)) (atExpr0 (by omega) e0 (callI (hTs 0 (by omega) _ _ _ e0) (bifT (net hq) rfl)))), neg1⟩
      obtain ⟨S, hS⟩ := pickT (m := (gD D j).cs.length) (fun k hlt => kid (1 + k) (by omega) ((gD D j).cs.getD k []) (hfs k hlt).1 (hfs k hlt).2)
      have hSs : ∀ k, k < (gD D j).cs.length → sTy D R ((G ++ M) ++ (gD D j).cs.getD k []) (kids.getD (1 + k) []) = rI (S k) := fun k hk => by
        rw [List.append_assoc]
        exact (hS k hk).2.2.1
      obtain ⟨o1, n1, k1, e1⟩ := hb 1 (by omega)
      have s0i := (hS 0 hda.2).2.1
      have s0s := hSs 0 hda.2
      rw [e1] at s0i s0s
      have li := i_matchL (D := D) (R := R) G M (by omega) 8 n kids (gD D j).cs S (by omega) hm (fun k hk => (hfs k hk).1) hb (fun k hk => (hS k hk).2.1) (S 0) ((gD D j).cs.length - 1) 1 (by omega)
      have ls := s_matchL hv (G ++ M) (by rw [List.length_append]; omega) 8 n kids j hj S (by omega) hb hSs (S 0) ((gD D j).cs.length - 1) 1 (by omega)
      obtain ⟨c1, c2⟩ := conT_hit (D := D) hj hda.2
      have hfl := s_conFields hv.dv ((sumC (D.take j) + 0 : Nat) : Int)
      rw [if_neg (by omega), c2] at hfl
      have hb0 : M.length + ((gD D j).cs.getD 0 []).length ≤ 68719476736 := by
        have := (hfs 0 hda.2).1
        omega
      have hb1 : (G ++ M).length + ((gD D j).cs.getD 0 []).length ≤ 68719476736 := by
        have := (hfs 0 hda.2).1
        rw [List.length_append]
        omega
      refine ⟨chk S (S 0) ((gD D j).cs.length - 1) 1, chk_ok (hS 0 hda.2).1 _ _, prei _ (bifF (nef (by omega)) (atExpr0 (by omega) e0 (callI (hTi 0 (by omega) _ _ _ e0) (bifF (nef hq) (atConI (k := 0) rfl hda.2 (callBd (i_bind G M _ hb0) (atExpr (k := 1) (by omega) e1 (callI s0i li)))))))), ?_, fun h => .node _ _ _ (fun h => by omega) (fun k hk => ?_)⟩
      rotate_left
      · obtain ⟨g1, g2⟩ := chk_all _ _ h
        by_cases h0 : k = 0
        · subst h0; exact (hT 0 (by omega)).2.2.2 (by omega)
        · have hk' : k - 1 < (gD D j).cs.length := by omega
          have := (hS (k - 1) hk').2.2.2 (by
            by_cases h1 : k - 1 = 0
            · rw [h1]; exact g1
            · rw [g2 (k - 1) (by omega) (by omega)]; exact g1)
          rw [show 1 + (k - 1) = k by omega] at this
          exact this
      refine pres _ (bifF (nef (by omega)) (atExpr0 (by omega) e0 (callI (hTs 0 (by omega) _ _ _ e0) (bifF (nef hq) (atNumI (k := 0) rfl (by rw [cL_len]; exact hda.2) ?_)))))
      rw [cL_get hda.2]
      exact callS hfl (callS (s_extend (G ++ M) _ hb1) (atExpr (k := 1) (by omega) e1 (callI s0s ls)))
    exact ⟨resP D R o n (tyL T kids.length), resP_ok hv o n _, impl_typeIn_le (bifF (eqf h12) (bifF (eqf h13) (bifF (eqf h7) (bifF (eqf h8) (callS (i_typesIn G M kids (by omega) T hb hTi) (callI (pi_resultOf hv o n _ (by rw [tyL_len]; exact hml)) rfl)))))),
      s_tyOp hv (G ++ M) kids hml T hb hTs h12 h13 h7 h8, fun h => .node _ _ _ (resP_pos hv h).1 (fun k hk => (hT k hk).2.2.2 ((resP_pos hv h).2 k hk))⟩
end
end Go.Proofs.Ytoljlooeiljpfaa
