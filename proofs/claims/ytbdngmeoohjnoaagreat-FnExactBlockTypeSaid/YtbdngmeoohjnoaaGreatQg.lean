/- What a step makes: spec's side, all but choices. -/
import Derived.Test.YtbdngmeoohjnoaaGreatQf
set_option linter.unusedVariables false
set_option linter.unusedSimpArgs false
namespace Go.Proofs.YtbdngmeoohjnoaaGreat
open Go
section
variable {D : List DM} {R : List RM} (hv : CV D R)
include hv
theorem s_routine (V args : List Int) (hV : V.length ≤ 2147483648) (ha : IntsOk args) (kids : List (List AC)) (o n i : Int) (ho : o = 9 ∨ o = 10) :
    spec_routineType [.agg [.sl 3 (decsC D), .sl 5 (rousC R)], .cell (.sl 1 (intsC V)), .agg [.int o, .int n, .int i, .sl 1 (intsC args), .sl 2 kids]] = rI (madeM D R V o n args) := by
  have hR := hv.rl
  have hD := hv.dv.len
  refine spec_routineType_le (callB (s_inRange _ _ _) ?_)
  rw [rousC_len, wr (by omega) (by omega)]
  by_cases h : 0 ≤ n ∧ n < R.length
  rotate_left
  · have e : madeM D R V o n args = -1 := by
      unfold madeM resM lendsM
      rw [decide_eq_false h]
      rcases ho with rfl | rfl <;> simp [h]
    rw [e]
    refine bifT ?_ rfl
    by_cases h1 : 0 ≤ n
    · rw [decide_eq_true h1, decide_eq_false (show ¬ n ≤ (R.length : Int) - 1 by omega)]; rfl
    · rw [decide_eq_false h1]; rfl
  rw [decide_eq_true h.1, decide_eq_true (show n ≤ (R.length : Int) - 1 by omega)]
  refine bifF rfl (atRouI (k := n.toNat) (by omega) (by omega) ?_)
  have hp := hv.ps n.toNat (by omega)
  rcases ho with rfl | rfl
  · refine bifT rfl (callB (s_typed V args _ (by omega) ha.len (fun t ht => (hp.2 t ht).1)) ?_)
    have e : madeM D R V 9 n args = if args.map (tv V) = (gR R n.toNat).ps then (gR R n.toNat).r else -1 := by
      unfold madeM resM
      simp [h]
    rw [e]
    by_cases hq : args.map (tv V) = (gR R n.toNat).ps
    · rw [decide_eq_true hq, if_pos hq]; exact bifF rfl rfl
    · rw [decide_eq_false hq, if_neg hq]; exact bifT rfl rfl
  · refine bifF rfl ?_
    rw [intsC_len, intsC_len]
    have e : madeM D R V 10 n args = if 0 < (gR R n.toNat).lent.length then -1 else if (gR R n.toNat).ps.length = 0 then -1 else if args.map (tv V) = pre1 (gR R n.toNat).ps then arrL ((gR R n.toNat).ps.getD ((gR R n.toNat).ps.length - 1) 0) (gR R n.toNat).r D 0 else -1 := by
      unfold madeM resM lendsM
      rw [decide_eq_true h]
      simp only [Bool.true_and, decide_eq_true_eq, true_and, if_pos h]
      rfl
    rw [e]
    by_cases h0 : (gR R n.toNat).ps.length = 0
    · rw [if_pos h0, ite_self]
      exact bifT (zr h0) rfl
    refine bifF (nz h0) ?_
    by_cases hl : 0 < (gR R n.toNat).lent.length
    · rw [if_pos hl]
      exact bifT (decide_eq_true (by omega)) rfl
    rw [if_neg hl, if_neg h0]
    refine bifF (decide_eq_false (by omega)) ?_
    have w : wrapI ((((gR R n.toNat).ps.length : Nat) : Int) - 1) = (((gR R n.toNat).ps.length - 1 : Nat) : Int) := by
      rw [wr (by omega) (by omega)]
      omega
    rw [w]
    refine cutTo (by omega) (by omega) (by rw [intsC_len]; omega) ?_
    rw [show ((intsC (gR R n.toNat).ps).drop (0 : Int).toNat).take ((((gR R n.toNat).ps.length - 1 : Nat) : Int).toNat - (0 : Int).toNat) = intsC (pre1 (gR R n.toNat).ps) by simp [pre1, intsC_take]]
    refine callB (s_typed V args (pre1 (gR R n.toNat).ps) (by omega) ha.len (fun t ht => (hp.2 t (List.mem_of_mem_take ht)).1)) ?_
    by_cases hq : args.map (tv V) = pre1 (gR R n.toNat).ps
    · rw [decide_eq_true hq, if_pos hq]
      exact bifF rfl (atNumI rfl (by omega) (callI (s_arrow D (by omega) _ _) rfl))
    · rw [decide_eq_false hq, if_neg hq]; exact bifT rfl rfl
theorem s_J3 (V args : List Int) (hV : V.length ≤ 2147483648) (ha : IntsOk args) (kids : List (List AC)) (o n i : Int) (h7 : o ≠ 7) (h8 : o ≠ 8) (hc : ¬ (14 ≤ o ∧ o ≤ 17)) (hn : n ≠ 0 → (o = 0 ∨ o = 6 ∨ o = 8 ∨ o = 9 ∨ o = 10)) :
    spec_stepType_J3 (intsC V) (decsC D) (rousC R) o n i (intsC args) kids = rI (madeM D R V o n args) := by
  have hD := hv.dv.len
  refine spec_stepType_J3_le ?_
  by_cases h0 : o = 0
  · subst h0
    refine bifT rfl ?_
    rw [intsC_len]
    have e : madeM D R V 0 n args = if (-999 ≤ n ∧ n ≤ 999) ∧ args.length = 0 then 0 else -1 := by
      unfold madeM resM
      simp
    rw [e]
    by_cases h3 : args.length = 0
    rotate_left
    · rw [if_neg (fun h => h3 h.2)]
      exact bifF (nz h3) rfl
    refine bifT (zr h3) (callB (s_inRange n (-999) 999) ?_)
    by_cases h4 : -999 ≤ n ∧ n ≤ 999
    · have hq : (-999 ≤ n ∧ n ≤ 999) ∧ args.length = 0 := ⟨h4, h3⟩
      rw [if_pos hq, decide_eq_true h4.1, decide_eq_true h4.2]
      exact bifT rfl rfl
    · rw [if_neg (fun h => h4 h.1)]
      refine bifF ?_ rfl
      by_cases h5 : -999 ≤ n
      · rw [decide_eq_true h5, decide_eq_false (show ¬ n ≤ 999 by omega)]; rfl
      · rw [decide_eq_false h5]; rfl
  by_cases h1 : o = 1
  · subst h1
    have hn0 : n = 0 := by
      by_cases hq : n = 0
      · exact hq
      · have := hn hq
        omega
    subst hn0
    have e : madeM D R V 1 0 args = if args.map (tv V) = [0, 0] then 0 else -1 := by
      unfold madeM resM
      simp
    rw [e]
    repeat (first | refine bifF rfl ?_ | refine bifT rfl ?_)
    refine callB (s_typed V args [0, 0] (by omega) ha.len (by simp)) ?_
    by_cases hq : args.map (tv V) = [0, 0]
    · rw [decide_eq_true hq, if_pos hq]; exact bifT rfl rfl
    · rw [decide_eq_false hq, if_neg hq]; exact bifF rfl rfl
  by_cases h2 : o = 2
  · subst h2
    have hn0 : n = 0 := by
      by_cases hq : n = 0
      · exact hq
      · have := hn hq
        omega
    subst hn0
    have e : madeM D R V 2 0 args = if args.map (tv V) = [0, 0] then 0 else -1 := by
      unfold madeM resM
      simp
    rw [e]
    repeat (first | refine bifF rfl ?_ | refine bifT rfl ?_)
    refine callB (s_typed V args [0, 0] (by omega) ha.len (by simp)) ?_
    by_cases hq : args.map (tv V) = [0, 0]
    · rw [decide_eq_true hq, if_pos hq]; exact bifT rfl rfl
    · rw [decide_eq_false hq, if_neg hq]; exact bifF rfl rfl
  by_cases h3 : o = 3
  · subst h3
    have hn0 : n = 0 := by
      by_cases hq : n = 0
      · exact hq
      · have := hn hq
        omega
    subst hn0
    have e : madeM D R V 3 0 args = if args.map (tv V) = [0, 0] then 0 else -1 := by
      unfold madeM resM
      simp
    rw [e]
    repeat (first | refine bifF rfl ?_ | refine bifT rfl ?_)
    refine callB (s_typed V args [0, 0] (by omega) ha.len (by simp)) ?_
    by_cases hq : args.map (tv V) = [0, 0]
    · rw [decide_eq_true hq, if_pos hq]; exact bifT rfl rfl
    · rw [decide_eq_false hq, if_neg hq]; exact bifF rfl rfl
  by_cases h4 : o = 4
  · subst h4
    have hn0 : n = 0 := by
      by_cases hq : n = 0
      · exact hq
      · have := hn hq
        omega
    subst hn0
    have e : madeM D R V 4 0 args = if args.map (tv V) = [0, 0] then 0 else -1 := by
      unfold madeM resM
      simp
    rw [e]
    repeat (first | refine bifF rfl ?_ | refine bifT rfl ?_)
    refine callB (s_typed V args [0, 0] (by omega) ha.len (by simp)) ?_
    by_cases hq : args.map (tv V) = [0, 0]
    · rw [decide_eq_true hq, if_pos hq]; exact bifT rfl rfl
    · rw [decide_eq_false hq, if_neg hq]; exact bifF rfl rfl
  by_cases h5 : o = 5
  · subst h5
    have hn0 : n = 0 := by
      by_cases hq : n = 0
      · exact hq
      · have := hn hq
        omega
    subst hn0
    have e : madeM D R V 5 0 args = if args.map (tv V) = [0] then 0 else -1 := by
      by_cases hq : args.map (tv V) = [0] <;> simp [madeM, resM, hq]
    rw [e]
    repeat (first | refine bifF rfl ?_ | refine bifT rfl ?_)
    refine callB (s_typed V args [0] (by omega) ha.len (by simp)) ?_
    by_cases hq : args.map (tv V) = [0]
    · rw [decide_eq_true hq, if_pos hq]; exact bifT rfl rfl
    · rw [decide_eq_false hq, if_neg hq]; exact bifF rfl rfl
  by_cases h6 : o = 6
  · subst h6
    have e : madeM D R V 6 n args = if conT D n < 0 then -1 else if args.map (tv V) = fld D n then conT D n else -1 := by
      unfold madeM resM
      simp
    rw [e]
    repeat (first | refine bifF rfl ?_ | refine bifT rfl ?_)
    refine callI (s_conType hv.dv n) ?_
    by_cases hq : conT D n < 0
    · rw [if_pos hq]
      exact bifF (decide_eq_false (by omega)) rfl
    rw [if_neg hq]
    have h1 : 1 ≤ conT D n := by
      rcases conT_cases (D := D) n with h0 | ⟨j, i, hj, he, _⟩ <;> omega
    have hf := s_conFields hv.dv n
    rw [if_neg (by omega)] at hf
    refine bifT (decide_eq_true (by omega)) (callS hf (callB (s_typed V args (fld D n) (by omega) ha.len (fun t ht => ((fld_len hv hq).2 t ht).1)) ?_))
    by_cases hq : args.map (tv V) = fld D n
    · rw [decide_eq_true hq, if_pos hq]; exact bifT rfl (callI (s_conType hv.dv n) rfl)
    · rw [decide_eq_false hq, if_neg hq]; exact bifF rfl rfl
  by_cases h9 : o = 9
  · subst h9
    repeat (first | refine bifF rfl ?_ | refine bifT rfl ?_)
    exact callI (s_routine hv V args hV ha kids 9 n i (.inl rfl)) rfl
  by_cases h10 : o = 10
  · subst h10
    repeat (first | refine bifF rfl ?_ | refine bifT rfl ?_)
    exact callI (s_routine hv V args hV ha kids 10 n i (.inr rfl)) rfl
  by_cases h11 : o = 11
  · subst h11
    have hn0 : n = 0 := by
      by_cases hq : n = 0
      · exact hq
      · have := hn hq
        omega
    subst hn0
    repeat (first | refine bifF rfl ?_ | refine bifT rfl ?_)
    rw [intsC_len, intsC_len]
    by_cases h2 : args.length = 2
    rotate_left
    · have e : madeM D R V 11 0 args = -1 := by
        unfold madeM resM
        simp [h2]
      rw [e]
      exact bifF (eqf (by omega)) rfl
    refine bifT (eqt (by omega)) ?_
    obtain ⟨a, b, rfl⟩ : ∃ a b, args = [a, b] := by
      match args, h2 with
      | [a, b], _ => exact ⟨a, b, rfl⟩
    have e : madeM D R V 11 0 [a, b] = if isAr D (tv V a) = true ∧ tv V b = (gD D ((tv V a).toNat - 1)).f then (gD D ((tv V a).toNat - 1)).t else -1 := by
      unfold madeM resM
      simp
    rw [e]
    refine atNumI (k := 0) rfl (by simp) (callB (s_inRange _ _ _) ?_)
    rw [wr (by omega) (by omega)]
    change @Eq (Option AV) _ _
    by_cases hr : 0 ≤ a ∧ a < V.length
    rotate_left
    · have e2 : isAr D (tv V a) = false := by
        rw [tv_out hr]
        rfl
      rw [if_neg (by rw [e2]; simp)]
      refine bifF ?_ rfl
      show (decide (0 ≤ a) && decide (a ≤ (V.length : Int) - 1)) = false
      rw [Bool.and_eq_false_iff, decide_eq_false_iff_not, decide_eq_false_iff_not]
      omega
    have et := tv_in hr
    refine bifT (by simp; omega) (atNumI (k := 0) rfl (by simp) (atNumI (k := a.toNat) (show a = _ by omega) (by omega) (callB (s_isArrow (by omega) _) ?_)))
    rw [← et]
    rcases hi : isAr D (tv V a) with _ | _
    · rw [if_neg (by simp)]
      exact bifF rfl rfl
    have hb : (0 < tv V a ∧ tv V a ≤ D.length) ∧ (gD D ((tv V a).toNat - 1)).cs.length = 0 := by
      simp only [isAr, Bool.and_eq_true, decide_eq_true_eq, beq_iff_eq] at hi
      exact ⟨⟨hi.1, (isTy_iff.1 hi.2.1).2⟩, hi.2.2⟩
    have hk : (tv V a).toNat - 1 < D.length := by omega
    have hf := hv.dv.arr _ hk hb.2
    refine bifT rfl (atNumI (k := 0) rfl (by simp) (atNumI (k := a.toNat) (show a = _ by omega) (by omega) ?_))
    rw [← et]
    refine atDecI (k := (tv V a).toNat - 1) (by rw [wr (by omega) (by omega)]; omega) hk (cutTo (by omega) (by simp) (by rw [intsC_len]; simp) ?_)
    refine callB (s_typed V [b] [(gD D ((tv V a).toNat - 1)).f] (by omega) (by simp [maxI]) (by simpa using hf.1.1)) ?_
    by_cases hq : tv V b = (gD D ((tv V a).toNat - 1)).f
    · have hq2 : true = true ∧ tv V b = (gD D ((tv V a).toNat - 1)).f := ⟨rfl, hq⟩
      rw [if_pos hq2, decide_eq_true (by simpa using hq)]; exact bifT rfl rfl
    · rw [if_neg (fun h => hq h.2), decide_eq_false (by simpa using hq)]; exact bifF rfl rfl
  have h14 : o ≠ 14 := by omega
  have h15 : o ≠ 15 := by omega
  have h16 : o ≠ 16 := by omega
  have h17 : o ≠ 17 := by omega
  have e : madeM D R V o n args = -1 := by
    unfold madeM resM
    simp [h0, h1, h2, h3, h4, h5, h6, h9, h10, h11]
  rw [e]
  repeat (refine bifF (eqf (by assumption)) ?_)
  rfl
end
end Go.Proofs.YtbdngmeoohjnoaaGreat
