/- What operations make of variables: impl's side. -/
import Derived.Test.YtbdngmeoohjnoaaGreatQd
set_option linter.unusedVariables false
set_option linter.unusedSimpArgs false
namespace Go.Proofs.YtbdngmeoohjnoaaGreat
open Go
/-- Valid signatures, as far as they are needed. -/
structure CV (D : List DM) (R : List RM) : Prop where
  dv : DV D
  rl : R.length ≤ 4
  rok : ∀ x ∈ R, ROk x
  ps : ∀ k, k < R.length → (gR R k).ps.length ≤ 3 ∧ ∀ t ∈ (gR R k).ps, 0 ≤ t ∧ t ≤ D.length
  r : ∀ k, k < R.length → 0 ≤ (gR R k).r ∧ (gR R k).r ≤ D.length
theorem cv_of {D : List DM} {R : List RM} (hR : ∀ x ∈ R, ROk x) (h : nSigsOk D R = true) : CV D R := by
  simp only [nSigsOk, sigsOk, Bool.and_eq_true, decide_eq_true_eq, List.all_eq_true] at h
  obtain ⟨h1, ⟨h2, h3, h4, h5, h6⟩, h7⟩ := h
  refine ⟨dv_of h2, h1, hR, fun k hk => ?_, fun k hk => ?_⟩
  · have := h5 _ (gR_mem hk)
    simp only [sigOk, Bool.and_eq_true, decide_eq_true_eq, List.all_eq_true] at this
    exact ⟨this.1, fun t ht => isTy_iff.1 (this.2.1 t ht)⟩
  · have := h5 _ (gR_mem hk)
    simp only [sigOk, Bool.and_eq_true, decide_eq_true_eq, List.all_eq_true] at this
    exact isTy_iff.1 this.2.2
def pre1 (ps : List Int) : List Int := ps.take (ps.length - 1)
def resM (D : List DM) (R : List RM) (o n : Int) (T : List Int) : Int :=
  if o = 0 then (if (-999 ≤ n ∧ n ≤ 999) ∧ T.length = 0 then 0 else -1)
  else if o = 1 ∨ o = 2 ∨ o = 3 ∨ o = 4 then (if n = 0 ∧ T = [0, 0] then 0 else -1)
  else if o = 5 then (if n = 0 ∧ T = [0] then 0 else -1)
  else if o = 6 then (if conT D n < 0 then -1 else if T = fld D n then conT D n else -1)
  else if o = 9 then (if 0 ≤ n ∧ n < R.length then (if T = (gR R n.toNat).ps then (gR R n.toNat).r else -1) else -1)
  else if o = 10 then (if 0 ≤ n ∧ n < R.length then (if (gR R n.toNat).ps.length = 0 then -1 else if T = pre1 (gR R n.toNat).ps then arrL ((gR R n.toNat).ps.getD ((gR R n.toNat).ps.length - 1) 0) (gR R n.toNat).r D 0 else -1) else -1)
  else if o = 11 then (if n = 0 then (if T.length = 2 ∧ isAr D (T.getD 0 0) = true ∧ T.getD 1 0 = (gD D ((T.getD 0 0).toNat - 1)).f then (gD D ((T.getD 0 0).toNat - 1)).t else -1) else -1)
  else -1
section
variable {D : List DM} {R : List RM} (hv : CV D R)
include hv
theorem fld_len {n : Int} (h : ¬ conT D n < 0) : (fld D n).length ≤ 3 ∧ ∀ t ∈ fld D n, 0 ≤ t ∧ t ≤ D.length := by
  rcases conT_cases (D := D) n with h0 | ⟨j, i, hj, he, hc, hi, hf⟩
  · omega
  rw [hf]
  exact hv.dv.c j hj _ (mem_getD hi [])
omit hv in
theorem i_hasFunc (n : Int) : impl_hasFunc [.agg [.sl 3 (decsC D), .sl 5 (sigsC R)], .cell (.int n)] = rB (decide (0 ≤ n ∧ n < R.length)) := by
  refine impl_hasFunc_le ?_
  rw [sigsC_len]
  by_cases h : 0 ≤ n
  · refine bifT (decide_eq_true h) ?_
    simp [h] <;> rfl
  · refine bifF (decide_eq_false h) ?_
    simp [h] <;> rfl
theorem i_resultOfCon (n : Int) (T : List Int) (hT : T.length ≤ maxI) : impl_resultOfCon [.cell (.sl 3 (decsC D)), .cell (.int n), .cell (.sl 1 (intsC T))] = rI (if conT D n < 0 then -1 else if T = fld D n then conT D n else -1) := by
  refine impl_resultOfCon_le (callI (i_typeOfCon hv.dv n) ?_)
  by_cases h : conT D n < 0
  · rw [if_pos h]
    exact bifT (decide_eq_true h) rfl
  rw [if_neg h]
  refine bifF (decide_eq_false h) ?_
  have h1 : 1 ≤ conT D n := by
    rcases conT_cases (D := D) n with h0 | ⟨j, i, hj, he, _⟩ <;> omega
  refine callS (i_fieldsOfCon hv.dv h1) (callB (i_sameInts T _ hT) (callI (i_typeWhen _ _) ?_))
  by_cases hq : T = fld D n <;> simp [hq] <;> rfl
omit hv in
theorem i_resultOfCall (n : Int) (T : List Int) (hT : T.length ≤ maxI) : impl_resultOfCall [.agg [.sl 3 (decsC D), .sl 5 (sigsC R)], .cell (.int n), .cell (.sl 1 (intsC T))] = rI (if 0 ≤ n ∧ n < R.length then (if T = (gR R n.toNat).ps then (gR R n.toNat).r else -1) else -1) := by
  refine impl_resultOfCall_le (callB (i_hasFunc n) ?_)
  by_cases h : 0 ≤ n ∧ n < R.length
  · rw [if_pos h, decide_eq_true h]
    refine bifF rfl (atSigI (k := n.toNat) (by omega) (by omega) (callB (i_sameInts T _ hT) (atSigI (k := n.toNat) (by omega) (by omega) (callI (i_typeWhen _ _) ?_))))
    by_cases hq : T = (gR R n.toNat).ps <;> simp [hq] <;> rfl
  · rw [if_neg h, decide_eq_false h]
    exact bifT rfl rfl
theorem i_resultOfClose (n : Int) (T : List Int) (hT : T.length ≤ maxI) : impl_resultOfClose [.agg [.sl 3 (decsC D), .sl 5 (sigsC R)], .cell (.int n), .cell (.sl 1 (intsC T))] = rI (if 0 ≤ n ∧ n < R.length then (if (gR R n.toNat).ps.length = 0 then -1 else if T = pre1 (gR R n.toNat).ps then arrL ((gR R n.toNat).ps.getD ((gR R n.toNat).ps.length - 1) 0) (gR R n.toNat).r D 0 else -1) else -1) := by
  have hl := hv.dv.len
  refine impl_resultOfClose_le (callB (i_hasFunc n) ?_)
  by_cases h : 0 ≤ n ∧ n < R.length
  rotate_left
  · rw [if_neg h, decide_eq_false h]
    exact bifT rfl rfl
  rw [if_pos h, decide_eq_true h]
  refine bifF rfl (atSigI (k := n.toNat) (by omega) (by omega) ?_)
  have hp := (hv.ps n.toNat (by omega)).1
  rw [intsC_len]
  by_cases h0 : (gR R n.toNat).ps.length = 0
  · rw [if_pos h0]
    exact bifT (zr h0) rfl
  rw [if_neg h0]
  refine bifF (nz h0) (atSigI (k := n.toNat) (by omega) (by omega) ?_)
  have w : wrapI ((((intsC (gR R n.toNat).ps).length : Nat) : Int) - 1) = (((gR R n.toNat).ps.length - 1 : Nat) : Int) := by
    rw [intsC_len, wr (by omega) (by omega)]
    omega
  rw [w]
  refine cutTo (by omega) (by omega) (by rw [intsC_len]; omega) ?_
  rw [show ((intsC (gR R n.toNat).ps).drop (0 : Int).toNat).take ((((gR R n.toNat).ps.length - 1 : Nat) : Int).toNat - (0 : Int).toNat) = intsC (pre1 (gR R n.toNat).ps) by simp [pre1, intsC_take]]
  refine callB (i_sameInts T _ hT) (atNumI rfl (by omega) (atSigI (k := n.toNat) (by omega) (by omega) (callI (i_arrow D (by omega) _ _) (callI (i_typeWhen _ _) ?_))))
  by_cases hq : T = pre1 (gR R n.toNat).ps <;> simp [hq] <;> rfl
theorem i_resultOfApply (T : List Int) : impl_resultOfApply [.cell (.sl 3 (decsC D)), .cell (.sl 1 (intsC T))] = rI (if T.length = 2 ∧ isAr D (T.getD 0 0) = true ∧ T.getD 1 0 = (gD D ((T.getD 0 0).toNat - 1)).f then (gD D ((T.getD 0 0).toNat - 1)).t else -1) := by
  have hl := hv.dv.len
  refine impl_resultOfApply_le ?_
  rw [intsC_len]
  by_cases h2 : T.length = 2
  rotate_left
  · rw [if_neg (fun h => h2 h.1)]
    exact bifT (net (by omega)) rfl
  refine bifF (nef (by omega)) (atNumI (k := 0) rfl (by omega) (callB (i_isArrow (by omega) _) ?_))
  rcases ha : isAr D (T.getD 0 0) with _ | _
  · rw [if_neg (fun h => by cases h.2.1)]
    exact bifT rfl rfl
  have hb : 0 < T.getD 0 0 ∧ T.getD 0 0 ≤ D.length := by
    simp only [isAr, Bool.and_eq_true, decide_eq_true_eq] at ha
    exact ⟨ha.1, (isTy_iff.1 ha.2.1).2⟩
  refine bifF rfl (atNumI (k := 0) rfl (by omega) (atDecI (k := (T.getD 0 0).toNat - 1) (by rw [wr (by omega) (by omega)]; omega) (by omega) (atNumI (k := 1) rfl (by omega) (callI (i_typeWhen _ _) ?_))))
  by_cases hq : T.getD 1 0 = (gD D ((T.getD 0 0).toNat - 1)).f
  · rw [if_pos (show T.length = 2 ∧ true = true ∧ T.getD 1 0 = (gD D ((T.getD 0 0).toNat - 1)).f from ⟨h2, rfl, hq⟩), eqt hq]; rfl
  · rw [if_neg (show ¬ (T.length = 2 ∧ true = true ∧ T.getD 1 0 = (gD D ((T.getD 0 0).toNat - 1)).f) from fun h => hq h.2.2), eqf hq]; rfl
omit hv in
theorem i_two (T : List Int) (hT : T.length ≤ maxI) (n : Int) {X : Option AV} (h : X = (bif (n == 0) then
        callR (impl_sameInts [.cell (.sl 1 (intsC T)), .cell (.sl 1 [[.int 0], [.int 0]])]) false [(false, [.bool false])] fun b9 =>
        callR (impl_typeWhen [.cell (.bool b9), .cell (.int 0)]) false [(false, [.int 0])] fun n10 =>
        some (.v (.cell (.int n10)))
      else
        callR (impl_typeWhen [.cell (.bool false), .cell (.int 0)]) false [(false, [.int 0])] fun n11 =>
        some (.v (.cell (.int n11))))) : X = rI (if n = 0 ∧ T = [0, 0] then 0 else -1) := by
  rw [h]
  by_cases h0 : n = 0
  · refine bifT (eqt h0) (callB (i_sameInts T [0, 0] hT) (callI (i_typeWhen _ _) ?_))
    by_cases hq : T = [0, 0] <;> simp [hq, h0] <;> rfl
  · refine bifF (eqf h0) (callI (i_typeWhen _ _) ?_)
    simp [h0] <;> rfl
theorem i_resultOf (o n : Int) (T : List Int) (hT : T.length ≤ maxI) : impl_resultOf [.agg [.sl 3 (decsC D), .sl 5 (sigsC R)], .cell (.int o), .cell (.int n), .cell (.sl 1 (intsC T))] = rI (resM D R o n T) := by
  refine impl_resultOf_le ?_
  unfold resM
  by_cases h0 : o = 0
  · rw [if_pos h0]
    refine bifT (eqt h0) ?_
    by_cases h1 : -999 ≤ n
    · refine bifT (decide_eq_true h1) ?_
      by_cases h2 : n ≤ 999
      · refine bifT (decide_eq_true h2) (callI (i_typeWhen _ _) ?_)
        rw [intsC_len]
        by_cases h3 : T.length = 0
        · rw [if_pos (show (-999 ≤ n ∧ n ≤ 999) ∧ T.length = 0 from ⟨⟨h1, h2⟩, h3⟩), zr h3]; rfl
        · rw [if_neg (show ¬ ((-999 ≤ n ∧ n ≤ 999) ∧ T.length = 0) from fun h => h3 h.2), nz h3]; rfl
      · refine bifF (decide_eq_false h2) (callI (i_typeWhen _ _) ?_)
        rw [if_neg (show ¬ ((-999 ≤ n ∧ n ≤ 999) ∧ T.length = 0) from fun h => h2 h.1.2)]; rfl
    · refine bifF (decide_eq_false h1) (callI (i_typeWhen _ _) ?_)
      rw [if_neg (show ¬ ((-999 ≤ n ∧ n ≤ 999) ∧ T.length = 0) from fun h => h1 h.1.1)]; rfl
  rw [if_neg h0]
  refine bifF (eqf h0) ?_
  by_cases h1 : o = 1
  · subst h1
    rw [if_pos (.inl rfl)]
    exact bifT rfl (bifT rfl (i_two T hT n rfl))
  refine bifF (eqf h1) ?_
  by_cases h2 : o = 2
  · subst h2
    rw [if_pos (.inr (.inl rfl))]
    exact bifT rfl (bifT rfl (i_two T hT n rfl))
  refine bifF (eqf h2) ?_
  by_cases h3 : o = 3
  · subst h3
    rw [if_pos (.inr (.inr (.inl rfl)))]
    exact bifT rfl (bifT rfl (i_two T hT n rfl))
  refine bifF (eqf h3) ?_
  by_cases h4 : o = 4
  · subst h4
    rw [if_pos (.inr (.inr (.inr rfl)))]
    exact bifT rfl (i_two T hT n rfl)
  refine bifF (eqf h4) ?_
  rw [if_neg (fun h => by rcases h with h | h | h | h <;> contradiction)]
  by_cases h5 : o = 5
  · rw [if_pos h5]
    refine bifT (eqt h5) ?_
    by_cases hn : n = 0
    · refine bifT (eqt hn) (callB (i_sameInts T [0] hT) (callI (i_typeWhen _ _) ?_))
      by_cases hq : T = [0] <;> simp [hq, hn] <;> rfl
    · refine bifF (eqf hn) (callI (i_typeWhen _ _) ?_)
      simp [hn] <;> rfl
  rw [if_neg h5]
  refine bifF (eqf h5) ?_
  by_cases h6 : o = 6
  · rw [if_pos h6]
    exact bifT (eqt h6) (callI (i_resultOfCon hv n T hT) rfl)
  rw [if_neg h6]
  refine bifF (eqf h6) ?_
  by_cases h9 : o = 9
  · rw [if_pos h9]
    exact bifT (eqt h9) (callI (i_resultOfCall n T hT) rfl)
  rw [if_neg h9]
  refine bifF (eqf h9) ?_
  by_cases h10 : o = 10
  · rw [if_pos h10]
    exact bifT (eqt h10) (callI (i_resultOfClose hv n T hT) rfl)
  rw [if_neg h10]
  refine bifF (eqf h10) ?_
  by_cases h11 : o = 11
  · rw [if_pos h11]
    refine bifT (eqt h11) ?_
    by_cases hn : n = 0
    · rw [if_pos hn]
      exact bifF (nef hn) (callI (i_resultOfApply hv T) rfl)
    · rw [if_neg hn]
      exact bifT (net hn) rfl
  rw [if_neg h11]
  exact bifF (eqf h11) rfl
theorem resM_long {o n : Int} {T : List Int} (h : 3 < T.length) : resM D R o n T = -1 := by
  unfold resM
  split
  · rw [if_neg (fun h' => by omega)]
  split
  · rw [if_neg (fun h' => by rw [h'.2] at h; simp at h)]
  split
  · rw [if_neg (fun h' => by rw [h'.2] at h; simp at h)]
  split
  · split
    · rfl
    · rename_i hc
      rw [if_neg (fun h' => by have := (fld_len hv hc).1; rw [← h'] at this; omega)]
  split
  · split
    · rename_i hc
      rw [if_neg (fun h' => by have := (hv.ps n.toNat (by omega)).1; rw [← h'] at this; omega)]
    · rfl
  split
  · split
    · rename_i hc
      split
      · rfl
      · rw [if_neg (fun h' => by
          have := (hv.ps n.toNat (by omega)).1
          have h2 : T.length ≤ (gR R n.toNat).ps.length := by rw [h', pre1, List.length_take]; omega
          omega)]
    · rfl
  split
  · split
    · rw [if_neg (fun h' => by omega)]
    · rfl
  · rfl
end
end Go.Proofs.YtbdngmeoohjnoaaGreat
