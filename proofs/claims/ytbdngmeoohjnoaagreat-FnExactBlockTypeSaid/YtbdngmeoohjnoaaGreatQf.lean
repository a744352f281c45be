/- What a step makes: impl's and spec's side, all but choices. -/
import Derived.Test.YtbdngmeoohjnoaaGreatQe
set_option linter.unusedVariables false
set_option linter.unusedSimpArgs false
namespace Go.Proofs.YtbdngmeoohjnoaaGreat
open Go
theorem rB_congr {a b : Bool} (h : a = b) : rB a = rB b := by rw [h]
/-- Variables: few, and all of them of types. -/
structure VV (D : List DM) (V : List Int) : Prop where
  len : V.length ≤ 2147483648
  ty : ∀ t ∈ V, 0 ≤ t ∧ t ≤ D.length
theorem tv_ty {D : List DM} {V : List Int} (h : VV D V) (v : Int) : tv V v = -1 ∨ (0 ≤ tv V v ∧ tv V v ≤ D.length) := by
  unfold tv
  split
  · exact .inr (h.ty _ (mem_getD (by omega) _))
  · exact .inl rfl
theorem tv_in {V : List Int} {v : Int} (h : 0 ≤ v ∧ v < V.length) : tv V v = V.getD v.toNat 0 := by unfold tv; rw [if_pos h]
theorem tv_out {V : List Int} {v : Int} (h : ¬ (0 ≤ v ∧ v < V.length)) : tv V v = -1 := by unfold tv; rw [if_neg h]
def intoM (V : List Int) (o i : Int) : Bool := decide (i = 0) || (decide (o = 6) && decide (0 < tv V (i - 1)))
def lendsM (R : List RM) (n : Int) : Bool := decide (0 ≤ n ∧ n < R.length) && decide (0 < (gR R n.toNat).lent.length)
def madeM (D : List DM) (R : List RM) (V : List Int) (o n : Int) (args : List Int) : Int := if o = 10 ∧ lendsM R n = true then -1 else resM D R o n (args.map (tv V))
def tM (D : List DM) (R : List RM) (V : List Int) (o n i : Int) (args : List Int) (kids : List (List AC)) : Int :=
  if intoM V o i = true ∧ kids.length = 0 then madeM D R V o n args else -1
theorem wi {i : Int} (h : inI i) : (-9223372036854775808 ≤ i - 1 ∧ wrapI (i - 1) = i - 1) ∨ (i - 1 < 0 ∧ wrapI (i - 1) = 9223372036854775807) := by
  by_cases h0 : i = -9223372036854775808
  · subst h0; exact .inr ⟨by omega, by decide⟩
  · left; unfold inI at h; exact ⟨by omega, wr (by omega) (by omega)⟩
theorem tv_wi {V : List Int} (hV : V.length ≤ 2147483648) {i : Int} (h : inI i) : tv V (wrapI (i - 1)) = tv V (i - 1) := by
  rcases wi h with ⟨_, e⟩ | ⟨e1, e2⟩
  · rw [e]
  · rw [e2, tv_out (by omega), tv_out (by omega)]
section
variable {D : List DM} {R : List RM}
theorem i_hasRoutine (ds : List (List AC)) (n : Int) : impl_hasRoutine [.agg [.sl 3 ds, .sl 5 (rousC R)], .cell (.int n)] = rB (decide (0 ≤ n ∧ n < R.length)) := by
  refine impl_hasRoutine_le ?_
  rw [rousC_len]
  by_cases h : 0 ≤ n
  · refine bifT (decide_eq_true h) ?_
    simp [h] <;> rfl
  · refine bifF (decide_eq_false h) ?_
    simp [h] <;> rfl
theorem i_lends (ds : List (List AC)) (n : Int) : impl_lends [.agg [.sl 3 ds, .sl 5 (rousC R)], .cell (.int n)] = rB (lendsM R n) := by
  refine impl_lends_le (callB (i_hasRoutine ds n) ?_)
  unfold lendsM
  by_cases h : 0 ≤ n ∧ n < R.length
  · rw [decide_eq_true h]
    refine bifT rfl (atRouI (k := n.toNat) (by omega) (by omega) ?_)
    rw [intsC_len]
    exact rB_congr (by simp)
  · rw [decide_eq_false h]
    exact bifF rfl rfl
theorem i_typeMade (hv : CV D R) (G M args : List Int) (kids : List (List AC)) (o n i : Int) (hG : G.length ≤ 68719476736) (hM : M.length ≤ 68719476736) (ha : ∀ a ∈ args, inI a) (hl : args.length ≤ 3) :
    impl_typeMade [.agg [.sl 3 (decsC D), .sl 5 (rousC R)], .agg [.sl 1 (intsC G), .sl 1 (intsC M)], .agg [.int o, .int n, .int i, .sl 1 (intsC args), .sl 2 kids]] = rI (resM D R o n (args.map (tv (G ++ M)))) := by
  have key : ∀ m k : Nat, k + m = args.length → impl_typeMade_L0 (decsC D) (rousC R) (intsC G) (intsC M) o n i (intsC args) kids (intsC ((args.map (tv (G ++ M))).take k)) (intsC args) (((intsC args).length : Nat) : Int) (k : Int) = rI (resM D R o n (args.map (tv (G ++ M)))) := by
    intro m
    induction m with
    | zero =>
      intro k hk
      refine impl_typeMade_L0_le (bifF (decide_eq_false (by rw [intsC_len]; omega)) ?_)
      rw [List.take_of_length_le (by rw [List.length_map]; omega)]
      exact callProg (i_sigsOf _ R hv.rl) (callI (i_resultOf hv o n _ (by rw [List.length_map]; unfold maxI; omega)) rfl)
    | succ m ih =>
      intro k hk
      have h1 : k < args.length := by omega
      refine impl_typeMade_L0_le (bifT (decide_eq_true (by rw [intsC_len]; omega)) (atNum h1 (callI (i_typeOfVar G M hG hM (ha _ (List.getElem_mem h1))) (appTo (by simp [intsC_len]; omega) ?_))))
      have e := take_app (xs := args.map (tv (G ++ M))) (k := k) (by rw [List.length_map]; exact h1)
      rw [List.getElem_map] at e
      rw [e, wrk (by unfold maxI; omega)]
      exact ih (k + 1) (by omega)
  exact impl_typeMade_le (key args.length 0 (by omega))
theorem i_typeOfStep (hv : CV D R) (G M args : List Int) (kids : List (List AC)) (o n i : Int) (hV : (G ++ M).length ≤ 2147483648) (ha : IntsOk args) (hi : inI i) (h7 : o ≠ 7) (h8 : o ≠ 8) :
    impl_typeOfStep [.agg [.sl 3 (decsC D), .sl 5 (rousC R)], .agg [.sl 1 (intsC G), .sl 1 (intsC M)], .agg [.int o, .int n, .int i, .sl 1 (intsC args), .sl 2 kids]] = rI (tM D R (G ++ M) o n i args kids) := by
  have hVl := hV
  rw [List.length_append] at hVl
  have hG : G.length ≤ 68719476736 := by omega
  have hM : M.length ≤ 68719476736 := by omega
  refine impl_typeOfStep_le ?_
  unfold tM madeM
  by_cases h0 : i = 0
  · have hin : intoM (G ++ M) o i = true := by simp [intoM, h0]
    refine bifF (nef h0) (bifF (eqf h7) (bifF (eqf h8) ?_))
    by_cases hk : kids.length = 0
    rotate_left
    · rw [if_neg (fun h => hk h.2)]
      exact bifT (decide_eq_true (by omega)) rfl
    have hc : intoM (G ++ M) o i = true ∧ kids.length = 0 := ⟨hin, hk⟩
    rw [if_pos hc]
    refine bifF (decide_eq_false (by omega)) ?_
    rw [intsC_len]
    by_cases hl : args.length ≤ 3
    rotate_left
    · refine bifT (decide_eq_true (by omega)) (bifT (decide_eq_true (by omega)) ?_)
      rw [resM_long hv (by rw [List.length_map]; omega), ite_self]
    refine bifF (decide_eq_false (by omega)) ?_
    have hm := i_typeMade hv G M args kids o n i hG hM ha.all hl
    by_cases h10 : o = 10
    · refine bifT (eqt h10) (callB (i_lends _ n) ?_)
      by_cases hd : lendsM R n = true
      · have hq : o = 10 ∧ lendsM R n = true := ⟨h10, hd⟩
        rw [if_pos hq]
        exact bifT hd rfl
      · rw [if_neg (fun h => hd h.2)]
        exact bifF (by simpa using hd) (callI hm rfl)
    · rw [if_neg (fun h => h10 h.1)]
      exact bifF (eqf h10) (callI hm rfl)
  · refine bifT (net h0) ?_
    by_cases h6 : o = 6
    · refine bifF (nef h6) (callI (i_typeOfVar G M hG hM (v := wrapI (i - 1)) (by rcases wi hi with ⟨_, e⟩ | ⟨_, e⟩ <;> (rw [e]; have hi' := hi; unfold inI at hi' ⊢; omega))) ?_)
      rw [tv_wi hV hi]
      by_cases hp : tv (G ++ M) (i - 1) ≤ 0
      · rw [if_neg (by simp [intoM, h0, h6]; omega)]
        exact bifT (decide_eq_true hp) rfl
      · have hin : intoM (G ++ M) o i = true := by simp [intoM, h6]; omega
        refine bifF (decide_eq_false hp) (bifF (eqf h7) (bifF (eqf h8) ?_))
        by_cases hk : kids.length = 0
        rotate_left
        · rw [if_neg (fun h => hk h.2)]
          exact bifT (decide_eq_true (by omega)) rfl
        have hc : intoM (G ++ M) o i = true ∧ kids.length = 0 := ⟨hin, hk⟩
        rw [if_pos hc]
        refine bifF (decide_eq_false (by omega)) ?_
        rw [intsC_len]
        by_cases hl : args.length ≤ 3
        rotate_left
        · refine bifT (decide_eq_true (by omega)) (bifT (decide_eq_true (by omega)) ?_)
          rw [resM_long hv (by rw [List.length_map]; omega), ite_self]
        refine bifF (decide_eq_false (by omega)) ?_
        have hm := i_typeMade hv G M args kids o n i hG hM ha.all hl
        by_cases h10 : o = 10
        · refine bifT (eqt h10) (callB (i_lends _ n) ?_)
          by_cases hd : lendsM R n = true
          · have hq : o = 10 ∧ lendsM R n = true := ⟨h10, hd⟩
            rw [if_pos hq]
            exact bifT hd rfl
          · rw [if_neg (fun h => hd h.2)]
            exact bifF (by simpa using hd) (callI hm rfl)
        · rw [if_neg (fun h => h10 h.1)]
          exact bifF (eqf h10) (callI hm rfl)
    · rw [if_neg (by simp [intoM, h0, h6])]
      exact bifT (net h6) rfl
theorem s_validInto (V : List Int) (hV : V.length ≤ 2147483648) (o n i : Int) (hi : inI i) (a kids : List (List AC)) : spec_validInto [.cell (.sl 1 (intsC V)), .agg [.int o, .int n, .int i, .sl 1 a, .sl 2 kids]] = rB (intoM V o i) := by
  refine spec_validInto_le ?_
  by_cases h0 : i = 0
  · refine bifT (eqt h0) (rB_congr (by simp [intoM, h0]))
  refine bifF (eqf h0) ?_
  by_cases h6 : o = 6
  rotate_left
  · refine bifF (eqf h6) (rB_congr (by simp [intoM, h0, h6]))
  refine bifT (eqt h6) (callB (s_inRange _ _ _) ?_)
  rw [intsC_len]
  by_cases hr : 1 ≤ i ∧ i ≤ V.length
  · rw [decide_eq_true hr.1, decide_eq_true hr.2]
    unfold inI at hi
    refine bifT rfl (atNumI (k := (i - 1).toNat) (by rw [wr (by omega) (by omega)]; omega) (by omega) (rB_congr ?_))
    unfold intoM
    rw [tv_in (by omega)]
    simp [h0, h6]
  · have e : intoM V o i = false := by
      unfold intoM
      rw [tv_out (by omega)]
      simp [h0]
    rw [e]
    refine bifF ?_ rfl
    by_cases h1 : 1 ≤ i
    · rw [decide_eq_true h1, decide_eq_false (show ¬ i ≤ (V.length : Int) by omega)]; rfl
    · rw [decide_eq_false h1]; rfl
theorem s_hasNum (o : Int) : spec_hasNum [.cell (.int o)] = rB (decide (o = 0 ∨ o = 6 ∨ o = 8 ∨ o = 9 ∨ o = 10)) := by
  refine spec_hasNum_le ?_
  by_cases h0 : o = 0
  · exact bifT (eqt h0) (rB_congr (by simp [h0]))
  refine bifF (eqf h0) ?_
  by_cases h6 : o = 6
  · exact bifT (eqt h6) (rB_congr (by simp [h6]))
  refine bifF (eqf h6) ?_
  by_cases h8 : o = 8
  · exact bifT (eqt h8) (rB_congr (by simp [h8]))
  refine bifF (eqf h8) ?_
  by_cases h9 : o = 9
  · exact bifT (eqt h9) (rB_congr (by simp [h9]))
  refine bifF (eqf h9) (rB_congr ?_)
  by_cases h10 : o = 10 <;> simp [h0, h6, h8, h9, h10]
end
end Go.Proofs.YtbdngmeoohjnoaaGreat
