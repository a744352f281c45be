/- Choices, both sides. -/
import Derived.Test.YtgiehkiicmnchaaQh
set_option linter.unusedVariables false
set_option linter.unusedSimpArgs false
namespace Go.Proofs.Ytgiehkiicmnchaa
open Go
theorem callBd {ρ : Type} {r : ρ} {x : Option AV} {a0 : List (List AC)} {a1 : List (List AC)} (h : x = some (.v (.agg [.sl 1 a0, .sl 1 a1]))) {K : Fn (Option ρ) (shapesOf [(true, [.sl 1 [], .sl 1 []])])} (h2 : (K : List (List AC) → List (List AC) → Option ρ) a0 a1 = some r) : callR x false [(true, [.sl 1 [], .sl 1 []])] K = some r := by rw [h]; exact h2
def cL (D : List DM) (j : Nat) : List Int := (List.range (gD D j).cs.length).map fun i => ((sumC (D.take j) + i : Nat) : Int)
theorem cL_len (D : List DM) (j : Nat) : (cL D j).length = (gD D j).cs.length := by simp [cL]
theorem cL_get {D : List DM} {j k : Nat} (h : k < (gD D j).cs.length) : (cL D j).getD k 0 = ((sumC (D.take j) + k : Nat) : Int) := by
  simp [cL, List.getD, h]
theorem s_consOf {D : List DM} (hv : DV D) (n : Int) : spec_consOf [.cell (.sl 3 (decsC D)), .cell (.int n)] = rL (if 1 ≤ n ∧ n ≤ D.length then cL D (n.toNat - 1) else []) := by
  have hD := hv.len
  refine spec_consOf_le (callB (s_inRange _ _ _) ?_)
  rw [decsC_len]
  by_cases h : 1 ≤ n ∧ n ≤ D.length
  rotate_left
  · rw [if_neg h]
    refine bifT ?_ rfl
    rw [Bool.not_eq_true', Bool.and_eq_false_iff, decide_eq_false_iff_not, decide_eq_false_iff_not]
    omega
  rw [if_pos h, decide_eq_true h.1, decide_eq_true h.2]
  refine bifF rfl ?_
  have hj : n.toNat - 1 < D.length := by omega
  have w : wrapI (n - 1) = ((n.toNat - 1 : Nat) : Int) := by rw [wr (by omega) (by omega)]; omega
  generalize n.toNat - 1 = j at hj w ⊢
  have hc := hv.cs j hj
  have hs := sumC_le hv.cs j (by omega)
  have key : ∀ m k : Nat, k + m = (gD D j).cs.length → spec_consOf_L0 (decsC D) n (intsC ((cL D j).take k)) (k : Int) = rL (cL D j) := by
    intro m
    induction m with
    | zero =>
      intro k hk
      refine spec_consOf_L0_le (atDecI (k := j) w hj (bifF (decide_eq_false (by rw [consC_len]; omega)) ?_))
      rw [List.take_of_length_le (by rw [cL_len]; omega)]
    | succ m ih =>
      intro k hk
      refine spec_consOf_L0_le (atDecI (k := j) w hj (bifT (decide_eq_true (by rw [consC_len]; omega)) ?_))
      rw [w]
      refine callI (s_firstCon hv (k := j) (by omega)) (appTo (by rw [intsC_len, List.length_take, cL_len]; simp; omega) ?_)
      have hlt : k < (cL D j).length := by rw [cL_len]; omega
      have e := take_app hlt
      have e2 : (cL D j)[k] = ((sumC (D.take j) + k : Nat) : Int) := by
        have := cL_get (D := D) (j := j) (k := k) (by omega)
        rw [← this]
        simp [List.getD, hlt]
      rw [e2] at e
      rw [wr (n := ((sumC (D.take j) : Nat) : Int) + (k : Int)) (by omega) (by omega), ← Int.natCast_add, e, wrk (by unfold maxI; omega)]
      exact ih (k + 1) (by omega)
  exact key (gD D j).cs.length 0 (by omega)
def chk (T : Nat → Int) (t0 : Int) : Nat → Nat → Int
  | 0, _ => t0
  | m + 1, k => if T k = t0 then chk T t0 m (k + 1) else -1
theorem chk_neg (T : Nat → Int) : ∀ m k, chk T (-1) m k = -1
  | 0, _ => rfl
  | m + 1, k => by unfold chk; rw [chk_neg T m (k + 1), ite_self]
theorem chk_ok {D : List DM} {T : Nat → Int} {t0 : Int} (h : okT D t0) : ∀ m k, okT D (chk T t0 m k)
  | 0, _ => h
  | m + 1, k => by
    unfold chk
    split
    · exact chk_ok h m (k + 1)
    · exact .inl rfl
section
variable {D : List DM} {R : List RM}
end
end Go.Proofs.Ytgiehkiicmnchaa
