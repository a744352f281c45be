/- What a step makes: impl's and spec's side, all but choices. -/
import Derived.Test.YtgiehkiicmnchaaQe
set_option linter.unusedVariables false
set_option linter.unusedSimpArgs false
namespace Go.Proofs.Ytgiehkiicmnchaa
open Go
theorem rB_congr {a b : Bool} (h : a = b) : rB a = rB b := by rw [h]
/-- Variables: few, and all of them of types. -/
structure VV (D : List DM) (V : List Int) : Prop where
  len : V.length ≤ 2147483648
  ty : ∀ t ∈ V, 0 ≤ t ∧ t ≤ D.length
theorem tv_ty {D : List DM} {V : List Int} (h : VV D V) (v : Int) : tv V v = -1 ∨ (0 ≤ tv V v ∧ tv V v ≤ D.length) := by
  unfold tv
  split
  · exact .inr (h.ty _ (mem_getD (by omega) _))
  · exact .inl rfl
theorem tv_in {V : List Int} {v : Int} (h : 0 ≤ v ∧ v < V.length) : tv V v = V.getD v.toNat 0 := by unfold tv; rw [if_pos h]
theorem tv_out {V : List Int} {v : Int} (h : ¬ (0 ≤ v ∧ v < V.length)) : tv V v = -1 := by unfold tv; rw [if_neg h]
def intoM (V : List Int) (o i : Int) : Bool := decide (i = 0) || (decide (o = 6) && decide (0 < tv V (i - 1)))
def lendsM (R : List RM) (n : Int) : Bool := decide (0 ≤ n ∧ n < R.length) && decide (0 < (gR R n.toNat).lent.length)
def madeM (D : List DM) (R : List RM) (V : List Int) (o n : Int) (args : List Int) : Int := if o = 10 ∧ lendsM R n = true then -1 else resM D R o n (args.map (tv V))
def tM (D : List DM) (R : List RM) (V : List Int) (o n i : Int) (args : List Int) (kids : List (List AC)) : Int :=
  if intoM V o i = true ∧ kids.length = 0 then madeM D R V o n args else -1
theorem wi {i : Int} (h : inI i) : (-9223372036854775808 ≤ i - 1 ∧ wrapI (i - 1) = i - 1) ∨ (i - 1 < 0 ∧ wrapI (i - 1) = 9223372036854775807) := by
  by_cases h0 : i = -9223372036854775808
  · subst h0; exact .inr ⟨by omega, by decide⟩
  · left; unfold inI at h; exact ⟨by omega, wr (by omega) (by omega)⟩
theorem tv_wi {V : List Int} (hV : V.length ≤ 2147483648) {i : Int} (h : inI i) : tv V (wrapI (i - 1)) = tv V (i - 1) := by
  rcases wi h with ⟨_, e⟩ | ⟨e1, e2⟩
  · rw [e]
  · rw [e2, tv_out (by omega), tv_out (by omega)]
section
variable {D : List DM} {R : List RM}
theorem i_hasRoutine (ds : List (List AC)) (n : Int) : impl_hasRoutine [.agg [.sl 3 ds, .sl 5 (rousC R)], .cell (.int n)] = rB (decide (0 ≤ n ∧ n < R.length)) := by
  refine impl_hasRoutine_le ?_
  rw [rousC_len]
  by_cases h : 0 ≤ n
  · refine bifT (decide_eq_true h) ?_
    simp [h] <;> rfl
  · refine bifF (decide_eq_false h) ?_
    simp [h] <;> rfl
theorem i_lends (ds : List (List AC)) (n : Int) : impl_lends [.agg [.sl 3 ds, .sl 5 (rousC R)], .cell (.int n)] = rB (lendsM R n) := by
  refine impl_lends_le (callB (i_hasRoutine ds n) ?_)
  unfold lendsM
  by_cases h : 0 ≤ n ∧ n < R.length
  · rw [decide_eq_true h]
    refine bifT rfl (atRouI (k := n.toNat) (by omega) (by omega) ?_)
    rw [intsC_len]
    exact rB_congr (by simp)
  · rw [decide_eq_false h]
    exact bifF rfl rfl
end
end Go.Proofs.Ytgiehkiicmnchaa
