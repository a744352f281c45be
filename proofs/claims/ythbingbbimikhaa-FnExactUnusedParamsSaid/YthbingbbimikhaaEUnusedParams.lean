/- At every argument the law FnExactUnusedParams answers true and leaves its arguments as they were: UnusedParams answers as its model, writes into no argument, owns its answer. Conditions: none. -/
import Derived.Test.YthbingbbimikhaaRows
import Derived.WalkKit
import Derived.ProofKit
import Derived.OpenShut
import Derived.ChangeOld
import Derived.Below
import Derived.Test.YthbingbbimikhaaQ
import Derived.Test.YthbingbbimikhaaGa
import Derived.Test.YthbingbbimikhaaGb
import Derived.Test.YthbingbbimikhaaT3r
import Derived.Test.YthbingbbimikhaaGe
import Derived.Test.YthbingbbimikhaaPc4
namespace Go.Proofs.Ythbingbbimikhaa
open Go.ChangeShapes Go.WideShapes Go.ChangeAt Go.RowKit
set_option linter.unusedVariables false
theorem fnExactUnusedParams_own : ownKnob Try.prog.godebug = none := by kernel_rfl
theorem fnExactUnusedParams_laidOut : laidOutB Try.prog = true := by kernel_rfl
set_option maxRecDepth 100000 in
theorem fnExactUnusedParams_lifted (os : Os) (started : os.Started) (H : Type) (enc : TypeId × Value → H) :
    ReturnsInHanded {} Try.checked os 6 .any (Rows.fnExactUnusedParamsSpec.pre6 enc Try.prog Try.f6 Rows.fnExactUnusedParamsRow.domain false) (Rows.fnExactUnusedParamsSpec.post enc Try.prog Try.f6 false true false false) := by
  refine returnsInHanded_of_change (C := Try.checked) fnExactUnusedParams_own started (by kernel_rfl) Try.func6
    (ChangeSpec.witness6 (enc := enc) (C := Try.checked) false ⟨#[], #[.agg #[.slice none 0 0, .slice none 0 0], .int .i64 0], []⟩ 8 (by kernel_rfl) (by kernel_rfl) (by kernel_rfl) (by kernel_rfl)) ?_
  intro W base args ds gs before hval0 hW hcnd _
  have hval : ∀ (j : Nat) t v, Try.f6.params[j]? = some t → args[j]? = some v → Value.okWide Try.prog W .any base t v := hval0
  have hW' := hW
  obtain ⟨p, q, hA0, hV, rfl, hfz, hnd⟩ := hW
  have hA : DataW.TrodAll enc Try.prog W 0 (fun _ => true) true Try.f6.params.toList args.toList ds p := hA0
  rw [Try.params6] at hA hval
  obtain ⟨v0, vs0, d0, ds0, p0, q0, hargs, rfl, rfl, h0, r0⟩ := trodAll_cons hA
  obtain ⟨v1, vs1, d1, ds1, p1, q1, rfl, rfl, rfl, h1, r1⟩ := trodAll_cons r0
  obtain ⟨rfl, rfl, rfl⟩ := trodAll_nil r1
  obtain rfl : args = #[v0, v1] := by cases args; simp_all
  obtain ⟨rfl, rfl⟩ := trodVars_none hV
  obtain ⟨a1, rfl, rfl, rfl, w1⟩ := open_int Try.underlying3 (hval 1 3 v1 rfl rfl) h1

  have k0 := h0
  have lt0 : ∀ x ∈ p0, x.block < W.heap.size := by obtain ⟨m, hm⟩ := k0; exact DataW.trod_lt m _ _ _ hm
  obtain ⟨P0, H0, R0⟩ : ∃ p, Pgm W 0 W.heap.size v0 p ∧ progR p := by
    obtain ⟨fuel, hf⟩ := h0
    obtain ⟨cs0, rfl, hcs0⟩ := okWide_struct Try.underlying25 (hval 0 25 v0 rfl rfl)
    obtain ⟨u, v, p, e, h⟩ := prog_openR Try.underlying25 (by kernel_rfl) rfl rfl rfl rfl (by kernel_rfl) (by kernel_rfl) Try.underlying22 Try.underlying86 (by kernel_rfl) rfl rfl rfl rfl rfl rfl (by kernel_rfl) Try.underlying84 Try.underlying122 (by kernel_rfl) rfl rfl Try.underlying26 (by kernel_rfl) Try.underlying23 Try.underlying89 (by kernel_rfl) rfl rfl rfl rfl rfl rfl Try.underlying26 (by kernel_rfl) Try.underlying3 (by kernel_rfl) Try.underlying29 (by kernel_rfl) rfl rfl rfl rfl rfl rfl Try.underlying27 (by kernel_rfl) hf
    refine ⟨p, ?_⟩
    have e' : cs0.toList = [u, v] := e
    rw [← Array.toArray_toList (xs := cs0), e']
    exact h
  clear hA0 hval0
  refine (fnExactUnusedParams_walk P0 v0 a1 W H0 R0).mono fun e W' ⟨he, bel⟩ => ?_
  subst he
  exact ⟨_, rfl, _, _, _, [], _, [], hW', trodAll_mk1 (shut_bool Try.underlying4 _), (trodAll_cons_mk (Below.trod fnExactUnusedParams_laidOut (by kernel_rfl) (of_decide_eq_true (by kernel_rfl)) k0 bel lt0) (trodAll_cons_mk (shut_int Try.underlying3 w1) trodAll_mk0)), rfl, bel.frame _, fun h => by cases h⟩
set_option maxHeartbeats 4000000 in
theorem fnExactUnusedParams_closed : joinedFacts Try.prog 6 Try.f6 Rows.fnExactUnusedParamsSpec Rows.fnExactUnusedParamsRow = true := by
  have e1 : (Rows.fnExactUnusedParamsRow.lifted == Try.prog.liftsFinal) = true := head_lifted
  have e2 : (Try.prog.make == some Rows.fnExactUnusedParamsRow.make) = true := head_make
  have e3 := head_enter
  unfold joinedFacts
  simp only [Bool.and_eq_true]
  repeat' (refine And.intro ?_ ?_)
  all_goals first | with_reducible exact e1 | with_reducible exact e2 | with_reducible exact e3 | (as_aux_lemma => kernel_rfl)
theorem fnExactUnusedParams_over : Rows.fnExactUnusedParamsRow.holds Try.pinned (OpenSpec.ofChange Rows.fnExactUnusedParamsSpec) :=
  OpenClaim.holds_of_wide 6 Try.f6 rfl rfl rfl rfl rfl rfl rfl ⟨rfl, rfl, rfl, rfl, rfl⟩ rfl rfl rfl rfl rfl (by as_aux_lemma => kernel_rfl) Try.func6 fnExactUnusedParams_closed
    (of_decide_eq_true (by as_aux_lemma => kernel_rfl)) (by as_aux_lemma => (unfold Func.isWrapper; rw [if_neg (of_decide_eq_false (by as_aux_lemma => kernel_rfl))]; exact ⟨rfl, rfl⟩))
    (fun os started H enc _ => fnExactUnusedParams_lifted os started H enc)
theorem fnExactUnusedParams_holds : Rows.FnExactUnusedParamsSaid := fnExactUnusedParams_over
#print axioms fnExactUnusedParams_holds
end Go.Proofs.Ythbingbbimikhaa
