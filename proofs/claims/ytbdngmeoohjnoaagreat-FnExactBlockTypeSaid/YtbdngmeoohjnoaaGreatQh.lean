/- Steps, the counting ones among them, both sides. -/
import Derived.Test.YtbdngmeoohjnoaaGreatQg
set_option linter.unusedVariables false
set_option linter.unusedSimpArgs false
namespace Go.Proofs.YtbdngmeoohjnoaaGreat
open Go
theorem s_defines (o : Int) : spec_defines [.cell (.int o)] = rB (decide (0 ≤ o) && decide (o ≤ 11)) := spec_defines_le (callB (s_inRange o 0 11) rfl)
theorem s_isCounting (o : Int) : spec_isCounting [.cell (.int o)] = rB (decide (14 ≤ o ∧ o ≤ 17)) := spec_isCounting_le (callB (s_inRange o 14 17) (rB_congr (by simp)))
theorem i_isCounting (o : Int) : impl_isCounting [.cell (.int o)] = rB (decide (14 ≤ o ∧ o ≤ 17)) := by
  refine impl_isCounting_le ?_
  by_cases h : 14 ≤ o
  · exact bifT (decide_eq_true h) (rB_congr (by simp [h]))
  · exact bifF (decide_eq_false h) (rB_congr (by simp [h]))
def okT (D : List DM) (t : Int) : Prop := t = -1 ∨ (0 ≤ t ∧ t ≤ D.length)
theorem arrL_ok (f t : Int) : ∀ (D : List DM) (k : Nat), arrL f t D k = -1 ∨ (0 ≤ arrL f t D k ∧ arrL f t D k ≤ ((k + D.length : Nat) : Int))
  | [], _ => .inl rfl
  | d :: ds, k => by
    unfold arrL
    split
    · right; simp only [List.length_cons]; omega
    · have := arrL_ok f t ds (k + 1)
      simp only [List.length_cons]
      omega
section
variable {D : List DM} {R : List RM}
theorem resM_ok (hv : CV D R) (o n : Int) (T : List Int) : okT D (resM D R o n T) := by
  unfold okT resM
  split
  · split <;> omega
  split
  · split <;> omega
  split
  · split <;> omega
  split
  · rcases conT_cases (D := D) n with h0 | ⟨j, i, hj, he, _⟩
    · rw [h0]; simp
    · split
      · omega
      · split <;> omega
  split
  · split
    · have := hv.r n.toNat (by omega)
      split <;> omega
    · omega
  split
  · split
    · split
      · omega
      · split
        · have := arrL_ok ((gR R n.toNat).ps.getD ((gR R n.toNat).ps.length - 1) 0) (gR R n.toNat).r D 0
          rw [Nat.zero_add] at this
          exact this
        · omega
    · omega
  split
  · split
    · split
      · rename_i hc
        have hb : (0 < T.getD 0 0 ∧ T.getD 0 0 ≤ D.length) ∧ (gD D ((T.getD 0 0).toNat - 1)).cs.length = 0 := by
          have hi := hc.2.1
          simp only [isAr, Bool.and_eq_true, decide_eq_true_eq, beq_iff_eq] at hi
          exact ⟨⟨hi.1, (isTy_iff.1 hi.2.1).2⟩, hi.2.2⟩
        have := (hv.dv.arr ((T.getD 0 0).toNat - 1) (by omega) hb.2).2
        omega
      · omega
    · omega
  · omega
theorem resM_op (o n : Int) (T : List Int) : resM D R o n T = -1 ∨ (0 ≤ o ∧ o ≤ 11) := by
  by_cases h : 0 ≤ o ∧ o ≤ 11
  · exact .inr h
  · left
    unfold resM
    rw [if_neg (by omega), if_neg (by omega), if_neg (by omega), if_neg (by omega), if_neg (by omega), if_neg (by omega), if_neg (by omega)]
theorem tM_ok (hv : CV D R) (V : List Int) (o n i : Int) (args : List Int) (kids : List (List AC)) : okT D (tM D R V o n i args kids) := by
  unfold tM madeM
  split
  · split
    · exact .inl rfl
    · exact resM_ok hv _ _ _
  · exact .inl rfl
theorem tM_op (V : List Int) (o n i : Int) (args : List Int) (kids : List (List AC)) : tM D R V o n i args kids = -1 ∨ (0 ≤ o ∧ o ≤ 11) := by
  unfold tM madeM
  split
  · split
    · exact .inl rfl
    · exact resM_op _ _ _
  · exact .inl rfl
theorem madeM_num {V : List Int} {o n : Int} {args : List Int} (hn : n ≠ 0) (hh : ¬ (o = 0 ∨ o = 6 ∨ o = 8 ∨ o = 9 ∨ o = 10)) : madeM D R V o n args = -1 := by
  unfold madeM resM
  simp [show o ≠ 0 by omega, show o ≠ 6 by omega, show o ≠ 9 by omega, show o ≠ 10 by omega, hn]
theorem s_stepType (hv : CV D R) (V args : List Int) (hV : V.length ≤ 2147483648) (ha : IntsOk args) (kids : List (List AC)) (o n i : Int) (hi : inI i) (h7 : o ≠ 7) (h8 : o ≠ 8) (hc : ¬ (14 ≤ o ∧ o ≤ 17)) :
    spec_stepType [.agg [.sl 3 (decsC D), .sl 5 (rousC R)], .cell (.sl 1 (intsC V)), .agg [.int o, .int n, .int i, .sl 1 (intsC args), .sl 2 kids]] = rI (tM D R V o n i args kids) := by
  have tail : (n ≠ 0 → (o = 0 ∨ o = 6 ∨ o = 8 ∨ o = 9 ∨ o = 10)) → intoM V o i = true → ∀ X : Option AV, X = (bif decide (((kids.length : Nat) : Int) > 0) then (bif o != 7 then (bif o != 8 then rI (-1) else spec_stepType_J3 (intsC V) (decsC D) (rousC R) o n i (intsC args) kids) else spec_stepType_J3 (intsC V) (decsC D) (rousC R) o n i (intsC args) kids) else spec_stepType_J3 (intsC V) (decsC D) (rousC R) o n i (intsC args) kids) → X = rI (tM D R V o n i args kids) := by
    intro hn hin X hX
    rw [hX]
    unfold tM
    by_cases hk : kids.length = 0
    · have hq : intoM V o i = true ∧ kids.length = 0 := ⟨hin, hk⟩
      rw [if_pos hq]
      exact bifF (decide_eq_false (by omega)) (s_J3 hv V args hV ha kids o n i h7 h8 hc hn)
    · rw [if_neg (fun h => hk h.2)]
      exact bifT (decide_eq_true (by omega)) (bifT (net h7) (bifT (net h8) rfl))
  refine spec_stepType_le ?_
  by_cases hn0 : n = 0
  · refine bifF (nef hn0) (callB (s_validInto V hV o n i hi _ _) ?_)
    rcases hin : intoM V o i with _ | _
    · refine bifT rfl (rI_congr ?_)
      unfold tM
      rw [if_neg (by rw [hin]; simp)]
    · exact bifF rfl (tail (fun h => absurd hn0 h) hin _ rfl)
  · refine bifT (net hn0) (callB (s_hasNum o) ?_)
    by_cases hh : o = 0 ∨ o = 6 ∨ o = 8 ∨ o = 9 ∨ o = 10
    · rw [decide_eq_true hh]
      refine bifF rfl (callB (s_validInto V hV o n i hi _ _) ?_)
      rcases hin : intoM V o i with _ | _
      · refine bifT rfl (rI_congr ?_)
        unfold tM
        rw [if_neg (by rw [hin]; simp)]
      · exact bifF rfl (tail (fun _ => hh) hin _ rfl)
    · rw [decide_eq_false hh]
      refine bifT rfl (rI_congr ?_)
      unfold tM
      rw [madeM_num hn0 hh, ite_self]
def cnt1 (D : List DM) (V : List Int) (o : Int) (args : List Int) : Bool := decide (args.length = 1) && (decide (0 < tv V (args.getD 0 0)) && (decide (o = 14 ∨ o = 15) || !isAr D (tv V (args.getD 0 0))))
def cntM (D : List DM) (V : List Int) (o n i : Int) (args : List Int) (kids : List (List AC)) : Bool := decide (n = 0) && (decide (i = 0) && (decide (kids.length = 0) && cnt1 D V o args))
theorem isDa_isAr {t : Int} (h : 0 < t) (h2 : t ≤ D.length) : isDa D t = !isAr D t := by
  unfold isDa isAr isTy
  rw [decide_eq_true h, decide_eq_true h2, decide_eq_true (show 0 ≤ t by omega)]
  rcases Nat.eq_zero_or_pos (gD D (t.toNat - 1)).cs.length with h0 | h0
  · simp [h0]
  · simp [h0, show (gD D (t.toNat - 1)).cs.length ≠ 0 by omega]
theorem i_validCounting (hv : CV D R) (G M args : List Int) (hV : VV D (G ++ M)) (ha : IntsOk args) (kids : List (List AC)) (o n i : Int) (hc : 14 ≤ o ∧ o ≤ 17) :
    impl_validCounting [.cell (.sl 3 (decsC D)), .agg [.sl 1 (intsC G), .sl 1 (intsC M)], .agg [.int o, .int n, .int i, .sl 1 (intsC args), .sl 2 kids]] = rB (cntM D (G ++ M) o n i args kids) := by
  have hD := hv.dv.len
  have hVl := hV.len
  rw [List.length_append] at hVl
  refine impl_validCounting_le ?_
  unfold cntM
  by_cases hn : n = 0
  rotate_left
  · rw [decide_eq_false hn]; exact bifT (net hn) rfl
  refine bifF (nef hn) ?_
  rw [decide_eq_true hn]
  by_cases hi : i = 0
  rotate_left
  · rw [decide_eq_false hi]; exact bifT (net hi) rfl
  refine bifF (nef hi) ?_
  rw [decide_eq_true hi, intsC_len]
  unfold cnt1
  by_cases h1 : args.length = 1
  rotate_left
  · rw [decide_eq_false h1]; exact bifT (net (by omega)) (rB_congr (by simp))
  refine bifF (nef (by omega)) ?_
  rw [decide_eq_true h1]
  by_cases hk : kids.length = 0
  rotate_left
  · rw [decide_eq_false hk]; exact bifT (decide_eq_true (by omega)) rfl
  refine bifF (decide_eq_false (by omega)) ?_
  rw [decide_eq_true hk]
  refine atNumI (k := 0) rfl (by omega) (callI (i_typeOfVar G M (by omega) (by omega) (ha.all _ (mem_getD (by omega) _))) ?_)
  have ht := tv_ty hV (args.getD 0 0)
  generalize tv (G ++ M) (args.getD 0 0) = t at ht ⊢
  by_cases h6 : o = 16 ∨ o = 17
  · have e : isDa D t = (decide (0 < t) && !isAr D t) := by
      by_cases h0 : 0 < t
      · rw [isDa_isAr h0 (by omega), decide_eq_true h0]; rfl
      · unfold isDa; rw [decide_eq_false h0]; rfl
    have e2 : isDa D t = (true && (true && (true && (true && (decide (0 < t) && (decide (o = 14 ∨ o = 15) || !isAr D t)))))) := by
      rw [e, decide_eq_false (show ¬ (o = 14 ∨ o = 15) by omega)]
      simp
    rw [← e2]
    rcases h6 with rfl | rfl
    · exact bifT rfl (callB (i_isData (by omega) t) rfl)
    · exact bifF rfl (bifT rfl (callB (i_isData (by omega) t) rfl))
  · refine bifF (eqf (by omega)) (bifF (eqf (by omega)) (rB_congr ?_))
    rw [decide_eq_true (show o = 14 ∨ o = 15 by omega)]
    simp
theorem s_countingType (hv : CV D R) (V args : List Int) (hV : VV D V) (ha : IntsOk args) (kids : List (List AC)) (o n i : Int) (hc : 14 ≤ o ∧ o ≤ 17) :
    spec_countingType [.agg [.sl 3 (decsC D), .sl 5 (rousC R)], .cell (.sl 1 (intsC V)), .agg [.int o, .int n, .int i, .sl 1 (intsC args), .sl 2 kids]] = rI (if cnt1 D V o args = true then 0 else -1) := by
  have hD := hv.dv.len
  have hVl := hV.len
  refine spec_countingType_le ?_
  rw [intsC_len, intsC_len]
  unfold cnt1
  by_cases h1 : args.length = 1
  rotate_left
  · rw [decide_eq_false h1]; exact bifT (net (by omega)) rfl
  refine bifF (nef (by omega)) (atNumI (k := 0) rfl (by omega) (callB (s_inRange _ _ _) ?_))
  rw [decide_eq_true h1, wr (by omega) (by omega)]
  have ht := tv_ty hV (args.getD 0 0)
  by_cases hr : 0 ≤ args.getD 0 0 ∧ args.getD 0 0 < V.length
  rotate_left
  · rw [tv_out hr]
    refine bifT ?_ rfl
    rw [Bool.not_eq_true', Bool.and_eq_false_iff, decide_eq_false_iff_not, decide_eq_false_iff_not]
    omega
  have et := tv_in hr
  rw [decide_eq_true hr.1, decide_eq_true (show args.getD 0 0 ≤ (V.length : Int) - 1 by omega)]
  refine bifF rfl (atNumI (k := 0) rfl (by omega) (atNumI (k := (args.getD 0 0).toNat) (by omega) (by omega) ?_))
  rw [← et]
  by_cases h0 : tv V (args.getD 0 0) = 0
  · rw [h0]; exact bifT rfl rfl
  have hpos : 0 < tv V (args.getD 0 0) := by
    rcases ht with h | h
    · have := (hV.ty _ (mem_getD (show (args.getD 0 0).toNat < V.length by omega) 0)).1
      omega
    · omega
  rw [decide_eq_true hpos]
  refine bifF (eqf h0) ?_
  by_cases h14 : o = 14
  · subst h14; exact bifF rfl rfl
  refine bifT (net h14) ?_
  by_cases h15 : o = 15
  · subst h15; exact bifF rfl rfl
  refine bifT (net h15) (atNumI (k := 0) rfl (by omega) (atNumI (k := (args.getD 0 0).toNat) (by omega) (by omega) ?_))
  rw [← et, decide_eq_false (show ¬ (o = 14 ∨ o = 15) by omega)]
  refine callB (s_isArrow (by omega) _) ?_
  rcases isAr D (tv V (args.getD 0 0)) with _ | _
  · exact bifF rfl rfl
  · exact bifT rfl rfl
theorem s_stepCnt (hv : CV D R) (V args : List Int) (hV : VV D V) (ha : IntsOk args) (kids : List (List AC)) (o n i : Int) (hi : inI i) (hc : 14 ≤ o ∧ o ≤ 17) :
    spec_stepType [.agg [.sl 3 (decsC D), .sl 5 (rousC R)], .cell (.sl 1 (intsC V)), .agg [.int o, .int n, .int i, .sl 1 (intsC args), .sl 2 kids]] = rI (if cntM D V o n i args kids = true then 0 else -1) := by
  refine spec_stepType_le ?_
  unfold cntM
  by_cases hn : n = 0
  rotate_left
  · rw [decide_eq_false hn]
    refine bifT (net hn) (callB (s_hasNum o) ?_)
    rw [decide_eq_false (by omega)]
    exact bifT rfl rfl
  rw [decide_eq_true hn]
  refine bifF (nef hn) (callB (s_validInto V hV.len o n i hi _ _) ?_)
  have e : intoM V o i = decide (i = 0) := by
    unfold intoM
    rw [decide_eq_false (show ¬ o = 6 by omega)]
    simp
  rw [e]
  by_cases h0 : i = 0
  rotate_left
  · rw [decide_eq_false h0]; exact bifT rfl rfl
  rw [decide_eq_true h0]
  refine bifF rfl ?_
  by_cases hk : kids.length = 0
  rotate_left
  · rw [decide_eq_false hk]
    exact bifT (decide_eq_true (by omega)) (bifT (net (by omega)) (bifT (net (by omega)) rfl))
  rw [decide_eq_true hk]
  refine bifF (decide_eq_false (by omega)) (spec_stepType_J3_le ?_)
  have h := s_countingType hv V args hV ha kids o n i hc
  have h4 : o = 14 ∨ o = 15 ∨ o = 16 ∨ o = 17 := by omega
  rcases h4 with rfl | rfl | rfl | rfl <;> (repeat (first | refine bifF rfl ?_ | refine bifT rfl ?_)) <;> exact callI h rfl
end
end Go.Proofs.YtbdngmeoohjnoaaGreat
