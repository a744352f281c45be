/- Steps, the counting ones among them, both sides. -/
import Derived.Test.YtgiehkiicmnchaaQg
set_option linter.unusedVariables false
set_option linter.unusedSimpArgs false
namespace Go.Proofs.Ytgiehkiicmnchaa
open Go
theorem s_defines (o : Int) : spec_defines [.cell (.int o)] = rB (decide (0 ≤ o) && decide (o ≤ 11)) := spec_defines_le (callB (s_inRange o 0 11) rfl)
def okT (D : List DM) (t : Int) : Prop := t = -1 ∨ (0 ≤ t ∧ t ≤ D.length)
theorem arrL_ok (f t : Int) : ∀ (D : List DM) (k : Nat), arrL f t D k = -1 ∨ (0 ≤ arrL f t D k ∧ arrL f t D k ≤ ((k + D.length : Nat) : Int))
  | [], _ => .inl rfl
  | d :: ds, k => by
    unfold arrL
    split
    · right; simp only [List.length_cons]; omega
    · have := arrL_ok f t ds (k + 1)
      simp only [List.length_cons]
      omega
section
variable {D : List DM} {R : List RM}
theorem resM_ok (hv : CV D R) (o n : Int) (T : List Int) : okT D (resM D R o n T) := by
  unfold okT resM
  split
  · split <;> omega
  split
  · split <;> omega
  split
  · split <;> omega
  split
  · rcases conT_cases (D := D) n with h0 | ⟨j, i, hj, he, _⟩
    · rw [h0]; simp
    · split
      · omega
      · split <;> omega
  split
  · split
    · have := hv.r n.toNat (by omega)
      split <;> omega
    · omega
  split
  · split
    · split
      · omega
      · split
        · have := arrL_ok ((gR R n.toNat).ps.getD ((gR R n.toNat).ps.length - 1) 0) (gR R n.toNat).r D 0
          rw [Nat.zero_add] at this
          exact this
        · omega
    · omega
  split
  · split
    · split
      · rename_i hc
        have hb : (0 < T.getD 0 0 ∧ T.getD 0 0 ≤ D.length) ∧ (gD D ((T.getD 0 0).toNat - 1)).cs.length = 0 := by
          have hi := hc.2.1
          simp only [isAr, Bool.and_eq_true, decide_eq_true_eq, beq_iff_eq] at hi
          exact ⟨⟨hi.1, (isTy_iff.1 hi.2.1).2⟩, hi.2.2⟩
        have := (hv.dv.arr ((T.getD 0 0).toNat - 1) (by omega) hb.2).2
        omega
      · omega
    · omega
  · omega
theorem resM_op (o n : Int) (T : List Int) : resM D R o n T = -1 ∨ (0 ≤ o ∧ o ≤ 11) := by
  by_cases h : 0 ≤ o ∧ o ≤ 11
  · exact .inr h
  · left
    unfold resM
    rw [if_neg (by omega), if_neg (by omega), if_neg (by omega), if_neg (by omega), if_neg (by omega), if_neg (by omega), if_neg (by omega)]
theorem tM_ok (hv : CV D R) (V : List Int) (o n i : Int) (args : List Int) (kids : List (List AC)) : okT D (tM D R V o n i args kids) := by
  unfold tM madeM
  split
  · split
    · exact .inl rfl
    · exact resM_ok hv _ _ _
  · exact .inl rfl
theorem tM_op (V : List Int) (o n i : Int) (args : List Int) (kids : List (List AC)) : tM D R V o n i args kids = -1 ∨ (0 ≤ o ∧ o ≤ 11) := by
  unfold tM madeM
  split
  · split
    · exact .inl rfl
    · exact resM_op _ _ _
  · exact .inl rfl
theorem madeM_num {V : List Int} {o n : Int} {args : List Int} (hn : n ≠ 0) (hh : ¬ (o = 0 ∨ o = 6 ∨ o = 8 ∨ o = 9 ∨ o = 10)) : madeM D R V o n args = -1 := by
  unfold madeM resM
  simp [show o ≠ 0 by omega, show o ≠ 6 by omega, show o ≠ 9 by omega, show o ≠ 10 by omega, hn]
def cnt1 (D : List DM) (V : List Int) (o : Int) (args : List Int) : Bool := decide (args.length = 1) && (decide (0 < tv V (args.getD 0 0)) && (decide (o = 14 ∨ o = 15) || !isAr D (tv V (args.getD 0 0))))
def cntM (D : List DM) (V : List Int) (o n i : Int) (args : List Int) (kids : List (List AC)) : Bool := decide (n = 0) && (decide (i = 0) && (decide (kids.length = 0) && cnt1 D V o args))
theorem isDa_isAr {t : Int} (h : 0 < t) (h2 : t ≤ D.length) : isDa D t = !isAr D t := by
  unfold isDa isAr isTy
  rw [decide_eq_true h, decide_eq_true h2, decide_eq_true (show 0 ≤ t by omega)]
  rcases Nat.eq_zero_or_pos (gD D (t.toNat - 1)).cs.length with h0 | h0
  · simp [h0]
  · simp [h0, show (gD D (t.toNat - 1)).cs.length ≠ 0 by omega]
end
end Go.Proofs.Ytgiehkiicmnchaa
