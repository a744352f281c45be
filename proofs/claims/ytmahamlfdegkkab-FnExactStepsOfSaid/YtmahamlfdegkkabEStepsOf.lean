/- At every argument the law FnExactStepsOf answers true and leaves its arguments as they were: StepsOf answers as its model, writes into no argument. Conditions: none. -/
import Derived.Test.YtmahamlfdegkkabRows
import Derived.WalkKit
import Derived.ProofKit
import Derived.OpenShut
import Derived.ChangeOld
import Derived.Below
import Derived.Test.YtmahamlfdegkkabQ
import Derived.Test.YtmahamlfdegkkabY7
import Derived.Test.YtmahamlfdegkkabY8
namespace Go.Proofs.Ytmahamlfdegkkab
open Go.ChangeShapes Go.WideShapes Go.ChangeAt Go.RowKit
set_option linter.unusedVariables false
theorem fnExactStepsOf_own : ownKnob Try.prog.godebug = none := by kernel_rfl
theorem fnExactStepsOf_laidOut : laidOutB Try.prog = true := by kernel_rfl
set_option maxRecDepth 100000 in
theorem fnExactStepsOf_lifted (os : Os) (started : os.Started) (H : Type) (enc : TypeId × Value → H) :
    ReturnsInHanded {} Try.checked os 7 .any (Rows.fnExactStepsOfSpec.pre6 enc Try.prog Try.f7 Rows.fnExactStepsOfRow.domain false) (Rows.fnExactStepsOfSpec.post enc Try.prog Try.f7 false true false false) := by
  refine returnsInHanded_of_change (C := Try.checked) fnExactStepsOf_own started (by kernel_rfl) Try.func7
    (ChangeSpec.witness6 (enc := enc) (C := Try.checked) false ⟨#[], #[.agg #[.slice none 0 0, .int .i64 0]], []⟩ 8 (by kernel_rfl) (by kernel_rfl) (by kernel_rfl) (by kernel_rfl)) ?_
  intro W base args ds gs before hval0 hW hcnd _
  have hval : ∀ (j : Nat) t v, Try.f7.params[j]? = some t → args[j]? = some v → Value.okWide Try.prog W .any base t v := hval0
  have hW' := hW
  obtain ⟨p, q, hA0, hV, rfl, hfz, hnd⟩ := hW
  have hA : DataW.TrodAll enc Try.prog W 0 (fun _ => true) true Try.f7.params.toList args.toList ds p := hA0
  rw [Try.params7] at hA hval
  obtain ⟨v0, vs0, d0, ds0, p0, q0, hargs, rfl, rfl, h0, r0⟩ := trodAll_cons hA
  obtain ⟨rfl, rfl, rfl⟩ := trodAll_nil r0
  obtain rfl : args = #[v0] := by cases args; simp_all
  obtain ⟨rfl, rfl⟩ := trodVars_none hV


  have k0 := h0
  have lt0 : ∀ x ∈ p0, x.block < W.heap.size := by obtain ⟨m, hm⟩ := k0; exact DataW.trod_lt m _ _ _ hm
  obtain ⟨u0, y0, S0, rfl, H0⟩ : ∃ u y ss, v0 = .agg #[u, .int .i64 y] ∧ Sts W 0 W.heap.size u ss := by
    obtain ⟨fuel, hf⟩ := h0
    obtain ⟨cs0, rfl, hcs0⟩ := okWide_struct Try.underlying44 (hval 0 44 v0 rfl rfl)
    obtain ⟨u, y, ss, e, h⟩ := block_open Try.underlying42 Try.underlying77 (by kernel_rfl) rfl rfl rfl rfl rfl rfl rfl rfl rfl rfl Try.underlying3 (by kernel_rfl) Try.underlying35 (by kernel_rfl) Try.underlying75 (by kernel_rfl) Try.underlying44 (by kernel_rfl) rfl rfl rfl rfl (by kernel_rfl) hf
    refine ⟨u, y, ss, ?_, h⟩
    have e' : cs0.toList = [u, Value.int .i64 y] := e
    rw [← Array.toArray_toList (xs := cs0), e']
  clear hA0 hval0
  refine (fnExactStepsOf_walk S0 u0 y0 W H0).mono fun e W' ⟨he, bel⟩ => ?_
  subst he
  exact ⟨_, rfl, _, _, _, [], _, [], hW', trodAll_mk1 (shut_bool Try.underlying4 _), (trodAll_cons_mk (Below.trod fnExactStepsOf_laidOut (by kernel_rfl) (of_decide_eq_true (by kernel_rfl)) k0 bel lt0) trodAll_mk0), rfl, bel.frame _, fun h => by cases h⟩
set_option maxHeartbeats 4000000 in
theorem fnExactStepsOf_closed : joinedFacts Try.prog 7 Try.f7 Rows.fnExactStepsOfSpec Rows.fnExactStepsOfRow = true := by
  have e1 : (Rows.fnExactStepsOfRow.lifted == Try.prog.liftsFinal) = true := head_lifted
  have e2 : (Try.prog.make == some Rows.fnExactStepsOfRow.make) = true := head_make
  have e3 := head_enter
  unfold joinedFacts
  simp only [Bool.and_eq_true]
  repeat' (refine And.intro ?_ ?_)
  all_goals first | with_reducible exact e1 | with_reducible exact e2 | with_reducible exact e3 | (as_aux_lemma => kernel_rfl)
theorem fnExactStepsOf_over : Rows.fnExactStepsOfRow.holds Try.pinned (OpenSpec.ofChange Rows.fnExactStepsOfSpec) :=
  OpenClaim.holds_of_wide 7 Try.f7 rfl rfl rfl rfl rfl rfl rfl ⟨rfl, rfl, rfl, rfl, rfl⟩ rfl rfl rfl rfl rfl (by as_aux_lemma => kernel_rfl) Try.func7 fnExactStepsOf_closed
    (of_decide_eq_true (by as_aux_lemma => kernel_rfl)) (by as_aux_lemma => (unfold Func.isWrapper; rw [if_neg (of_decide_eq_false (by as_aux_lemma => kernel_rfl))]; exact ⟨rfl, rfl⟩))
    (fun os started H enc _ => fnExactStepsOf_lifted os started H enc)
theorem fnExactStepsOf_holds : Rows.FnExactStepsOfSaid := fnExactStepsOf_over
#print axioms fnExactStepsOf_holds
end Go.Proofs.Ytmahamlfdegkkab
