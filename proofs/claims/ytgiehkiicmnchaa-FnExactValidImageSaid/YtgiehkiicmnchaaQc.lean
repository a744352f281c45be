/- Numbers of steps; constructors, variables and lists of types: what impl's and spec's functions compute. -/
import Derived.Test.YtgiehkiicmnchaaQb
set_option linter.unusedVariables false
set_option linter.unusedSimpArgs false
namespace Go.Proofs.Ytgiehkiicmnchaa
open Go
/-- The number of steps: of all rows of steps. -/
def acN : AC → Nat
  | .int _ => 0
  | .bool _ => 0
  | .sl k rows => (if k = 5 then rows.length else 0) + rsN rows
where
  rsN : List (List AC) → Nat
    | [] => 0
    | r :: rs => cN r + rsN rs
  cN : List AC → Nat
    | [] => 0
    | c :: cs => acN c + cN cs
abbrev cN := acN.cN
abbrev rsN := acN.rsN
theorem rsN_nil : rsN [] = 0 := by simp [rsN, acN.rsN]
theorem rsN_cons (r : List AC) (rs : List (List AC)) : rsN (r :: rs) = cN r + rsN rs := by simp [rsN, acN.rsN, cN]
theorem rsN_drop {rs : List (List AC)} {k : Nat} (h : k < rs.length) : rsN (rs.drop k) = cN (rs.getD k []) + rsN (rs.drop (k + 1)) := by
  rw [List.drop_eq_getElem_cons h, rsN_cons]
  simp [List.getD, h]
theorem rsN_ints (xs : List Int) : rsN (intsC xs) = 0 := by
  induction xs with
  | nil => exact rsN_nil
  | cons x xs ih =>
    show rsN ([.int x] :: intsC xs) = 0
    rw [rsN_cons, ih]
    simp [cN, acN.cN, acN]
theorem cN_step (o n i : Int) (args : List Int) (kids : List (List AC)) : cN [.int o, .int n, .int i, .sl 1 (intsC args), .sl 2 kids] = rsN kids := by
  have := rsN_ints args
  simp [cN, acN.cN, acN, rsN] at *
  omega
theorem cN_block (steps : List (List AC)) (r : Int) : cN [.sl 5 steps, .int r] = steps.length + rsN steps := by simp [cN, acN.cN, acN, rsN]
theorem fit_step_inv {o n i : Int} {a kids : List (List AC)} (h : Fit .step [.int o, .int n, .int i, .sl 1 a, .sl 2 kids]) : kids.length ≤ maxI ∧ ∀ b ∈ kids, Fit .block b := by
  generalize ht : Ty.step = t at h
  generalize hx : [AC.int o, AC.int n, AC.int i, AC.sl 1 a, AC.sl 2 kids] = x at h
  cases h with
  | step _ _ _ _ _ _ _ _ _ hl h => cases hx; exact ⟨hl, h⟩
  | _ => cases ht
theorem rI_congr {a b : Int} (h : a = b) : rI a = rI b := by rw [h]
def stepsM (b : List AC) : Int := if cN b ≤ 600 then cN b else -1
end Go.Proofs.Ytgiehkiicmnchaa
