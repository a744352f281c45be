/- What operations make of variables: impl's side. -/
import Derived.Test.YtgiehkiicmnchaaQd
set_option linter.unusedVariables false
set_option linter.unusedSimpArgs false
namespace Go.Proofs.Ytgiehkiicmnchaa
open Go
/-- Valid signatures, as far as they are needed. -/
structure CV (D : List DM) (R : List RM) : Prop where
  dv : DV D
  rl : R.length ≤ 4
  rok : ∀ x ∈ R, ROk x
  ps : ∀ k, k < R.length → (gR R k).ps.length ≤ 3 ∧ ∀ t ∈ (gR R k).ps, 0 ≤ t ∧ t ≤ D.length
  r : ∀ k, k < R.length → 0 ≤ (gR R k).r ∧ (gR R k).r ≤ D.length
theorem cv_of {D : List DM} {R : List RM} (hR : ∀ x ∈ R, ROk x) (h : nSigsOk D R = true) : CV D R := by
  simp only [nSigsOk, sigsOk, Bool.and_eq_true, decide_eq_true_eq, List.all_eq_true] at h
  obtain ⟨h1, ⟨h2, h3, h4, h5, h6⟩, h7⟩ := h
  refine ⟨dv_of h2, h1, hR, fun k hk => ?_, fun k hk => ?_⟩
  · have := h5 _ (gR_mem hk)
    simp only [sigOk, Bool.and_eq_true, decide_eq_true_eq, List.all_eq_true] at this
    exact ⟨this.1, fun t ht => isTy_iff.1 (this.2.1 t ht)⟩
  · have := h5 _ (gR_mem hk)
    simp only [sigOk, Bool.and_eq_true, decide_eq_true_eq, List.all_eq_true] at this
    exact isTy_iff.1 this.2.2
def pre1 (ps : List Int) : List Int := ps.take (ps.length - 1)
def resM (D : List DM) (R : List RM) (o n : Int) (T : List Int) : Int :=
  if o = 0 then (if (-999 ≤ n ∧ n ≤ 999) ∧ T.length = 0 then 0 else -1)
  else if o = 1 ∨ o = 2 ∨ o = 3 ∨ o = 4 then (if n = 0 ∧ T = [0, 0] then 0 else -1)
  else if o = 5 then (if n = 0 ∧ T = [0] then 0 else -1)
  else if o = 6 then (if conT D n < 0 then -1 else if T = fld D n then conT D n else -1)
  else if o = 9 then (if 0 ≤ n ∧ n < R.length then (if T = (gR R n.toNat).ps then (gR R n.toNat).r else -1) else -1)
  else if o = 10 then (if 0 ≤ n ∧ n < R.length then (if (gR R n.toNat).ps.length = 0 then -1 else if T = pre1 (gR R n.toNat).ps then arrL ((gR R n.toNat).ps.getD ((gR R n.toNat).ps.length - 1) 0) (gR R n.toNat).r D 0 else -1) else -1)
  else if o = 11 then (if n = 0 then (if T.length = 2 ∧ isAr D (T.getD 0 0) = true ∧ T.getD 1 0 = (gD D ((T.getD 0 0).toNat - 1)).f then (gD D ((T.getD 0 0).toNat - 1)).t else -1) else -1)
  else -1
section
variable {D : List DM} {R : List RM} (hv : CV D R)
include hv
theorem fld_len {n : Int} (h : ¬ conT D n < 0) : (fld D n).length ≤ 3 ∧ ∀ t ∈ fld D n, 0 ≤ t ∧ t ≤ D.length := by
  rcases conT_cases (D := D) n with h0 | ⟨j, i, hj, he, hc, hi, hf⟩
  · omega
  rw [hf]
  exact hv.dv.c j hj _ (mem_getD hi [])
theorem resM_long {o n : Int} {T : List Int} (h : 3 < T.length) : resM D R o n T = -1 := by
  unfold resM
  split
  · rw [if_neg (fun h' => by omega)]
  split
  · rw [if_neg (fun h' => by rw [h'.2] at h; simp at h)]
  split
  · rw [if_neg (fun h' => by rw [h'.2] at h; simp at h)]
  split
  · split
    · rfl
    · rename_i hc
      rw [if_neg (fun h' => by have := (fld_len hv hc).1; rw [← h'] at this; omega)]
  split
  · split
    · rename_i hc
      rw [if_neg (fun h' => by have := (hv.ps n.toNat (by omega)).1; rw [← h'] at this; omega)]
    · rfl
  split
  · split
    · rename_i hc
      split
      · rfl
      · rw [if_neg (fun h' => by
          have := (hv.ps n.toNat (by omega)).1
          have h2 : T.length ≤ (gR R n.toNat).ps.length := by rw [h', pre1, List.length_take]; omega
          omega)]
    · rfl
  split
  · split
    · rw [if_neg (fun h' => by omega)]
    · rfl
  · rfl
end
end Go.Proofs.Ytgiehkiicmnchaa
