/- Contracts of chapter 2, as the model types: expressions. -/
import Derived.Test.YtihmkaodjpgikaaGreatPu6
import Derived.Test.YtihmkaodjpgikaaGreatPu6b
import Derived.Test.YtihmkaodjpgikaaGreatPu7
import Derived.Test.YtihmkaodjpgikaaGreatPu7b
import Derived.Test.YtihmkaodjpgikaaGreatPu7c
namespace Go.Proofs.YtihmkaodjpgikaaGreat
open Go.RowKit Go.BigFrame
theorem op_all (o : Int) : o = 0 ∨ o = 1 ∨ o = 2 ∨ o = 3 ∨ o = 4 ∨ o = 5 ∨ o = 6 ∨ o = 7 ∨ o = 8 ∨ o = 9 ∨ o = 10 ∨ o = 11 ∨ o = 12 ∨ o = 13 ∨ ¬ (0 ≤ o ∧ o ≤ 13) := by omega
theorem sTypeOf_any {w0 : World} {L U : Nat} {u : Value} {ks : List Ex} (h : Exs w0 L U u ks) (p : Pg) (hto : typesOk p.decls = true) (hfl : p.funcs.length ≤ 1900000) : ∀ (o n : Int), TyS p w0 L U u (.node o n ks) := by
  induction h with
  | mk A c V ks r hk ih =>
    intro o n pv vv vars w hS hU sc hl
    have hsum : (Ex.node o n ks).sum one_ = 1 + sumL one_ ks := by rw [sum_eq]; rfl
    rw [hsum] at hl
    have hs : vars.length + 3 + 3 * sumL one_ ks ≤ 1900000 := by omega
    have HV : Hid (∀ i, i < ks.length → ∃ A' c', V i = .slice A' (nthX ks i).kids.length c') := fun i hi => by
      obtain ⟨A', c', e, _⟩ := (hk i hi).open_
      exact ⟨A', c', e⟩
    have HC : Hid (∀ i, i < ks.length → TyS p w0 L U (V i) (nthX ks i)) := fun i hi => by
      have h2 := ih i hi (nthX ks i).op (nthX ks i).num
      have e : Ex.node (nthX ks i).op (nthX ks i).num (nthX ks i).kids = nthX ks i := by cases nthX ks i; rfl
      rw [e] at h2
      exact h2
    clear ih hk hsum
    show Calls Tryz.prog 31 #[pv, vv, .agg #[.int .i64 o, .int .i64 n, .slice A ks.length c]] w fun x w' => x = .returned (.int .i64 ((Ex.node o n ks).ty p vars)) ∧ Below w.heap.size w w'
    rw [ty_eq]
    show Calls Tryz.prog 31 #[pv, vv, .agg #[.int .i64 o, .int .i64 n, .slice A ks.length c]] w fun x w' => x = .returned (.int .i64 (tyN p o n (tyL p ks) vars)) ∧ Below w.heap.size w w'
    rcases op_all o with rfl | rfl | rfl | rfl | rfl | rfl | rfl | rfl | rfl | rfl | rfl | rfl | rfl | rfl | ho
    · rw [show tyN p 0 n (tyL p ks) vars = resV p 0 n (tysL p vars ks) by unfold tyN; rw [if_neg (by omega), if_neg (by omega), if_neg (by omega), if_neg (by omega), tysL_eq]]
      exact typeOfInt_of p r HV HC pv vv vars n w hS hU sc hs
    · rw [show tyN p 1 n (tyL p ks) vars = resV p 1 n (tysL p vars ks) by unfold tyN; rw [if_neg (by omega), if_neg (by omega), if_neg (by omega), if_neg (by omega), tysL_eq]]
      exact typeOfArith1_of p r HV HC pv vv vars n w hS hU sc hs
    · rw [show tyN p 2 n (tyL p ks) vars = resV p 2 n (tysL p vars ks) by unfold tyN; rw [if_neg (by omega), if_neg (by omega), if_neg (by omega), if_neg (by omega), tysL_eq]]
      exact typeOfArith2_of p r HV HC pv vv vars n w hS hU sc hs
    · rw [show tyN p 3 n (tyL p ks) vars = resV p 3 n (tysL p vars ks) by unfold tyN; rw [if_neg (by omega), if_neg (by omega), if_neg (by omega), if_neg (by omega), tysL_eq]]
      exact typeOfArith3_of p r HV HC pv vv vars n w hS hU sc hs
    · rw [show tyN p 4 n (tyL p ks) vars = resV p 4 n (tysL p vars ks) by unfold tyN; rw [if_neg (by omega), if_neg (by omega), if_neg (by omega), if_neg (by omega), tysL_eq]]
      exact typeOfArith4_of p r HV HC pv vv vars n w hS hU sc hs
    · rw [show tyN p 5 n (tyL p ks) vars = resV p 5 n (tysL p vars ks) by unfold tyN; rw [if_neg (by omega), if_neg (by omega), if_neg (by omega), if_neg (by omega), tysL_eq]]
      exact typeOfPrint_of p r HV HC pv vv vars n w hS hU sc hs
    · rw [show tyN p 6 n (tyL p ks) vars = resV p 6 n (tysL p vars ks) by unfold tyN; rw [if_neg (by omega), if_neg (by omega), if_neg (by omega), if_neg (by omega), tysL_eq], show resV p 6 n (tysL p vars ks) = conRes p.decls n (tysL p vars ks) by unfold resV; rw [if_neg (by omega), if_neg (by omega), if_neg (by omega), if_pos rfl]]
      exact typeOfConS_of p r HV HC pv vv vars n hto w hS hU sc hs
    · rw [show tyN p 7 n (tyL p ks) vars = ifV n (tyL p ks) vars by unfold tyN; rw [if_neg (by omega), if_neg (by omega), if_pos rfl]]
      exact typeOfIfS_of p r HV HC pv vv vars n w hS hU sc hs
    · rw [show tyN p 8 n (tyL p ks) vars = matchV p.decls n (tyL p ks) vars by unfold tyN; rw [if_neg (by omega), if_neg (by omega), if_neg (by omega), if_pos rfl]]
      exact typeOfMatchS_of p r HV HC pv vv vars n hto w hS hU sc hs
    · rw [show tyN p 9 n (tyL p ks) vars = resV p 9 n (tysL p vars ks) by unfold tyN; rw [if_neg (by omega), if_neg (by omega), if_neg (by omega), if_neg (by omega), tysL_eq], show resV p 9 n (tysL p vars ks) = callRes p n (tysL p vars ks) by unfold resV; rw [if_neg (by omega), if_neg (by omega), if_neg (by omega), if_neg (by omega), if_pos rfl]]
      exact typeOfCallS_of p r HV HC pv vv vars n hfl w hS hU sc hs
    · rw [show tyN p 10 n (tyL p ks) vars = resV p 10 n (tysL p vars ks) by unfold tyN; rw [if_neg (by omega), if_neg (by omega), if_neg (by omega), if_neg (by omega), tysL_eq], show resV p 10 n (tysL p vars ks) = closeRes p n (tysL p vars ks) by unfold resV; rw [if_neg (by omega), if_neg (by omega), if_neg (by omega), if_neg (by omega), if_neg (by omega), if_pos rfl]]
      exact typeOfCloseS_of p r HV HC pv vv vars n hfl w hS hU sc hs
    · rw [show tyN p 11 n (tyL p ks) vars = resV p 11 n (tysL p vars ks) by unfold tyN; rw [if_neg (by omega), if_neg (by omega), if_neg (by omega), if_neg (by omega), tysL_eq], show resV p 11 n (tysL p vars ks) = (if n = 0 then applyRes p.decls (tysL p vars ks) else -1) by unfold resV; rw [if_neg (by omega), if_neg (by omega), if_neg (by omega), if_neg (by omega), if_neg (by omega), if_neg (by omega), if_pos rfl]]
      exact typeOfApplyS_of p r HV HC pv vv vars n w hS hU sc hs
    · rw [show tyN p 12 n (tyL p ks) vars = (if ks.length = 0 then varTy vars n else -1) by unfold tyN; rw [if_pos rfl, length_tyL]]
      exact typeOfVarS_of p r HV HC pv vv vars n w hS hU sc hs
    · rw [show tyN p 13 n (tyL p ks) vars = letV n (tyL p ks) vars by unfold tyN; rw [if_neg (by omega), if_pos rfl]]
      exact typeOfLetS_of p r HV HC pv vv vars n w hS hU sc hs
    · rw [show tyN p o n (tyL p ks) vars = -1 by
        unfold tyN; rw [if_neg (by omega), if_neg (by omega), if_neg (by omega), if_neg (by omega)]
        unfold resV; rw [if_neg (by omega), if_neg (by omega), if_neg (by omega), if_neg (by omega), if_neg (by omega), if_neg (by omega), if_neg (by omega)]]
      exact typeOfNone_of p pv vv vars n o ho w sc
end Go.Proofs.YtihmkaodjpgikaaGreat
