/- Contracts of chapter 2: the functions that a function names, from outside. -/
import Derived.Test.YtihmkaodjpgikaaGreatPv5
import Derived.Test.YtihmkaodjpgikaaGreatPn1
import Derived.Test.YtihmkaodjpgikaaGreatPn2
namespace Go.Proofs.YtihmkaodjpgikaaGreat
open Go.RowKit Go.BigFrame
theorem asc_empty : Asc [] := fun _ _ _ h => absurd h (by simp)
/-- The functions that a function names. -/
def calV (p : Pg) (f : Int) : List Int := if progOk p = true ∧ hasF p f = true then (fnAt p f).body.nam [] else []
theorem calV_no {p : Pg} {f : Int} (h : progOk p = false ∨ hasF p f = false) : calV p f = [] := by
  unfold calV
  rw [if_neg]
  rintro ⟨h1, h2⟩
  rcases h with h | h
  · rw [h] at h1; cases h1
  · rw [h] at h2; cases h2
theorem calV_yes {p : Pg} {k : Nat} (h1 : progOk p = true) (h2 : hasF p (k : Int) = true) : calV p (k : Int) = (nthF p.funcs k).body.nam [] := by
  unfold calV fnAt; rw [if_pos ⟨h1, h2⟩, Int.toNat_natCast]
theorem body_small {p : Pg} {k : Nat} (h : progOk p = true) (hk : k < p.funcs.length) : 1 + sumL one_ (nthF p.funcs k).body.kids ≤ 30 := by
  refine Decidable.byContradiction fun h30 => ?_
  have hsig := sigs_at (prog_sigs h) hk
  have hat := prog_at h hk
  unfold sigOk at hsig
  simp only [Bool.and_eq_true] at hsig
  have hres := hsig.2.2
  unfold isTy at hres
  simp only [Bool.and_eq_true, decide_eq_true_eq] at hres
  rw [show typeV p (nthF p.funcs k).params (nthF p.funcs k).body = -1 by unfold typeV; rw [if_neg (fun e => h30 e.2.2)]] at hat
  omega
theorem calV_len (p : Pg) (f : Int) : (calV p f).length ≤ 1048576 := by
  rcases hs : progOk p with _ | _
  · rw [calV_no (.inl hs)]; simp
  · rcases hb : hasF p f with _ | _
    · rw [calV_no (.inr hb)]; simp
    · obtain ⟨k, rfl, hk⟩ : ∃ k : Nat, f = (k : Int) ∧ k < p.funcs.length := by
        unfold hasF at hb
        obtain ⟨h1, h2⟩ := Bool.and_eq_true_iff.1 hb
        have h1 := of_decide_eq_true h1
        have h2 := of_decide_eq_true h2
        exact ⟨f.toNat, by omega, by omega⟩
      rw [calV_yes hs hb]
      have := (nam_ok (nthF p.funcs k).body [] asc_empty).2
      have h30 := body_small hs hk
      rw [sum_eq] at this
      have e1 : one_ (nthF p.funcs k).body.op (nthF p.funcs k).body.num = 1 := rfl
      simp only [List.length_nil] at this
      omega
end Go.Proofs.YtihmkaodjpgikaaGreat
