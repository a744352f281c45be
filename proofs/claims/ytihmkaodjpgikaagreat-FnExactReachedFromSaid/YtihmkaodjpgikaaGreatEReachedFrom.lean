/- At every argument the law FnExactReachedFrom answers true and leaves its arguments as they were: ReachedFrom answers as its model, writes into no argument, owns its answer. Conditions: none. -/
import Derived.Test.YtihmkaodjpgikaaGreatRows
import Derived.WalkKit
import Derived.ProofKit
import Derived.OpenShut
import Derived.ChangeOld
import Derived.Below
import Derived.Test.YtihmkaodjpgikaaGreatQ
import Derived.Test.YtihmkaodjpgikaaGreatGa
import Derived.Test.YtihmkaodjpgikaaGreatGb
import Derived.Test.YtihmkaodjpgikaaGreatT3r
import Derived.Test.YtihmkaodjpgikaaGreatGe
import Derived.Test.YtihmkaodjpgikaaGreatRf4
namespace Go.Proofs.YtihmkaodjpgikaaGreat
open Go.ChangeShapes Go.WideShapes Go.ChangeAt Go.RowKit
set_option linter.unusedVariables false
theorem fnExactReachedFrom_own : ownKnob Tryz.prog.godebug = none := by kernel_rfl
theorem fnExactReachedFrom_laidOut : laidOutB Tryz.prog = true := by kernel_rfl
set_option maxRecDepth 100000 in
theorem fnExactReachedFrom_lifted (os : Os) (started : os.Started) (H : Type) (enc : TypeId × Value → H) :
    ReturnsInHanded {} Tryz.checked os 3 .any (Rows.fnExactReachedFromSpec.pre6 enc Tryz.prog Tryz.f3 Rows.fnExactReachedFromRow.domain false) (Rows.fnExactReachedFromSpec.post enc Tryz.prog Tryz.f3 false true false false) := by
  refine returnsInHanded_of_change (C := Tryz.checked) fnExactReachedFrom_own started (by kernel_rfl) Tryz.func3
    (ChangeSpec.witness6 (enc := enc) (C := Tryz.checked) false ⟨#[], #[.agg #[.slice none 0 0, .slice none 0 0], .int .i64 0], []⟩ 8 (by kernel_rfl) (by kernel_rfl) (by kernel_rfl) (by kernel_rfl)) ?_
  intro W base args ds gs before hval0 hW hcnd _
  have hval : ∀ (j : Nat) t v, Tryz.f3.params[j]? = some t → args[j]? = some v → Value.okWide Tryz.prog W .any base t v := hval0
  have hW' := hW
  obtain ⟨p, q, hA0, hV, rfl, hfz, hnd⟩ := hW
  have hA : DataW.TrodAll enc Tryz.prog W 0 (fun _ => true) true Tryz.f3.params.toList args.toList ds p := hA0
  rw [Tryz.params3] at hA hval
  obtain ⟨v0, vs0, d0, ds0, p0, q0, hargs, rfl, rfl, h0, r0⟩ := trodAll_cons hA
  obtain ⟨v1, vs1, d1, ds1, p1, q1, rfl, rfl, rfl, h1, r1⟩ := trodAll_cons r0
  obtain ⟨rfl, rfl, rfl⟩ := trodAll_nil r1
  obtain rfl : args = #[v0, v1] := by cases args; simp_all
  obtain ⟨rfl, rfl⟩ := trodVars_none hV
  obtain ⟨a1, rfl, rfl, rfl, w1⟩ := open_int Tryz.underlying3 (hval 1 3 v1 rfl rfl) h1

  have k0 := h0
  have lt0 : ∀ x ∈ p0, x.block < W.heap.size := by obtain ⟨m, hm⟩ := k0; exact DataW.trod_lt m _ _ _ hm
  obtain ⟨P0, H0, R0⟩ : ∃ p, Pgm W 0 W.heap.size v0 p ∧ progR p := by
    obtain ⟨fuel, hf⟩ := h0
    obtain ⟨cs0, rfl, hcs0⟩ := okWide_struct Tryz.underlying25 (hval 0 25 v0 rfl rfl)
    obtain ⟨u, v, p, e, h⟩ := prog_openR Tryz.underlying25 (by kernel_rfl) rfl rfl rfl rfl (by kernel_rfl) (by kernel_rfl) Tryz.underlying22 Tryz.underlying54 (by kernel_rfl) rfl rfl rfl rfl rfl rfl (by kernel_rfl) Tryz.underlying52 Tryz.underlying103 (by kernel_rfl) rfl rfl Tryz.underlying27 (by kernel_rfl) Tryz.underlying23 Tryz.underlying60 (by kernel_rfl) rfl rfl rfl rfl rfl rfl Tryz.underlying27 (by kernel_rfl) Tryz.underlying3 (by kernel_rfl) Tryz.underlying58 (by kernel_rfl) rfl rfl rfl rfl rfl rfl Tryz.underlying56 (by kernel_rfl) hf
    refine ⟨p, ?_⟩
    have e' : cs0.toList = [u, v] := e
    rw [← Array.toArray_toList (xs := cs0), e']
    exact h
  clear hA0 hval0
  refine (fnExactReachedFrom_walk P0 v0 a1 W H0 R0).mono fun e W' ⟨he, bel⟩ => ?_
  subst he
  exact ⟨_, rfl, _, _, _, [], _, [], hW', trodAll_mk1 (shut_bool Tryz.underlying4 _), (trodAll_cons_mk (Below.trod fnExactReachedFrom_laidOut (by kernel_rfl) (of_decide_eq_true (by kernel_rfl)) k0 bel lt0) (trodAll_cons_mk (shut_int Tryz.underlying3 w1) trodAll_mk0)), rfl, bel.frame _, fun h => by cases h⟩
set_option maxHeartbeats 4000000 in
theorem fnExactReachedFrom_closed : joinedFacts Tryz.prog 3 Tryz.f3 Rows.fnExactReachedFromSpec Rows.fnExactReachedFromRow = true := by
  have e1 : (Rows.fnExactReachedFromRow.lifted == Tryz.prog.liftsFinal) = true := head_lifted
  have e2 : (Tryz.prog.make == some Rows.fnExactReachedFromRow.make) = true := head_make
  have e3 := head_enter
  unfold joinedFacts
  simp only [Bool.and_eq_true]
  repeat' (refine And.intro ?_ ?_)
  all_goals first | with_reducible exact e1 | with_reducible exact e2 | with_reducible exact e3 | (as_aux_lemma => kernel_rfl)
theorem fnExactReachedFrom_over : Rows.fnExactReachedFromRow.holds Tryz.pinned (OpenSpec.ofChange Rows.fnExactReachedFromSpec) :=
  OpenClaim.holds_of_wide 3 Tryz.f3 rfl rfl rfl rfl rfl rfl rfl ⟨rfl, rfl, rfl, rfl, rfl⟩ rfl rfl rfl rfl rfl (by as_aux_lemma => kernel_rfl) Tryz.func3 fnExactReachedFrom_closed
    (of_decide_eq_true (by as_aux_lemma => kernel_rfl)) (by as_aux_lemma => (unfold Func.isWrapper; rw [if_neg (of_decide_eq_false (by as_aux_lemma => kernel_rfl))]; exact ⟨rfl, rfl⟩))
    (fun os started H enc _ => fnExactReachedFrom_lifted os started H enc)
theorem fnExactReachedFrom_holds : Rows.FnExactReachedFromSaid := fnExactReachedFrom_over
#print axioms fnExactReachedFrom_holds
end Go.Proofs.YtihmkaodjpgikaaGreat
