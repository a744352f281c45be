/- At every argument the law FnExactNodesOf answers true and leaves its arguments as they were: NodesOf answers as its model, writes into no argument. Conditions: none. -/
import Derived.Test.YtmahamlfdegkkabRows
import Derived.WalkKit
import Derived.ProofKit
import Derived.OpenShut
import Derived.ChangeOld
import Derived.Below
import Derived.Test.YtmahamlfdegkkabQ
import Derived.Test.YtmahamlfdegkkabT3
import Derived.Test.YtmahamlfdegkkabT9
namespace Go.Proofs.Ytmahamlfdegkkab
open Go.ChangeShapes Go.WideShapes Go.ChangeAt Go.RowKit
set_option linter.unusedVariables false
theorem fnExactNodesOf_own : ownKnob Try.prog.godebug = none := by kernel_rfl
theorem fnExactNodesOf_laidOut : laidOutB Try.prog = true := by kernel_rfl
set_option maxRecDepth 100000 in
theorem fnExactNodesOf_lifted (os : Os) (started : os.Started) (H : Type) (enc : TypeId × Value → H) :
    ReturnsInHanded {} Try.checked os 3 .any (Rows.fnExactNodesOfSpec.pre6 enc Try.prog Try.f3 Rows.fnExactNodesOfRow.domain false) (Rows.fnExactNodesOfSpec.post enc Try.prog Try.f3 false true false false) := by
  refine returnsInHanded_of_change (C := Try.checked) fnExactNodesOf_own started (by kernel_rfl) Try.func3
    (ChangeSpec.witness6 (enc := enc) (C := Try.checked) false ⟨#[], #[.agg #[.int .i64 0, .int .i64 0, .slice none 0 0]], []⟩ 8 (by kernel_rfl) (by kernel_rfl) (by kernel_rfl) (by kernel_rfl)) ?_
  intro W base args ds gs before hval0 hW hcnd _
  have hval : ∀ (j : Nat) t v, Try.f3.params[j]? = some t → args[j]? = some v → Value.okWide Try.prog W .any base t v := hval0
  have hW' := hW
  obtain ⟨p, q, hA0, hV, rfl, hfz, hnd⟩ := hW
  have hA : DataW.TrodAll enc Try.prog W 0 (fun _ => true) true Try.f3.params.toList args.toList ds p := hA0
  rw [Try.params3] at hA hval
  obtain ⟨v0, vs0, d0, ds0, p0, q0, hargs, rfl, rfl, h0, r0⟩ := trodAll_cons hA
  obtain ⟨rfl, rfl, rfl⟩ := trodAll_nil r0
  obtain rfl : args = #[v0] := by cases args; simp_all
  obtain ⟨rfl, rfl⟩ := trodVars_none hV


  have k0 := h0
  have lt0 : ∀ x ∈ p0, x.block < W.heap.size := by obtain ⟨m, hm⟩ := k0; exact DataW.trod_lt m _ _ _ hm
  obtain ⟨x0, y0, u0, K0, rfl, H0⟩ : ∃ x y u ks, v0 = .agg #[.int .i64 x, .int .i64 y, u] ∧ Exs W 0 W.heap.size u ks := by
    obtain ⟨fuel, hf⟩ := h0
    obtain ⟨cs0, rfl, hcs0⟩ := okWide_struct Try.underlying24 (hval 0 24 v0 rfl rfl)
    obtain ⟨x, y, u, ks, e, h⟩ := expr_open Try.underlying24 (by kernel_rfl) rfl rfl rfl rfl rfl rfl Try.underlying3 (by kernel_rfl) (by kernel_rfl) Try.underlying22 hf
    refine ⟨x, y, u, ks, ?_, h⟩
    have e' : cs0.toList = [Value.int .i64 x, .int .i64 y, u] := e
    rw [← Array.toArray_toList (xs := cs0), e']
  clear hA0 hval0
  refine (fnExactNodesOf_walk x0 y0 K0 u0 W H0).mono fun e W' ⟨he, bel⟩ => ?_
  subst he
  exact ⟨_, rfl, _, _, _, [], _, [], hW', trodAll_mk1 (shut_bool Try.underlying4 _), (trodAll_cons_mk (Below.trod fnExactNodesOf_laidOut (by kernel_rfl) (of_decide_eq_true (by kernel_rfl)) k0 bel lt0) trodAll_mk0), rfl, bel.frame _, fun h => by cases h⟩
set_option maxHeartbeats 4000000 in
theorem fnExactNodesOf_closed : joinedFacts Try.prog 3 Try.f3 Rows.fnExactNodesOfSpec Rows.fnExactNodesOfRow = true := by
  have e1 : (Rows.fnExactNodesOfRow.lifted == Try.prog.liftsFinal) = true := head_lifted
  have e2 : (Try.prog.make == some Rows.fnExactNodesOfRow.make) = true := head_make
  have e3 := head_enter
  unfold joinedFacts
  simp only [Bool.and_eq_true]
  repeat' (refine And.intro ?_ ?_)
  all_goals first | with_reducible exact e1 | with_reducible exact e2 | with_reducible exact e3 | (as_aux_lemma => kernel_rfl)
theorem fnExactNodesOf_over : Rows.fnExactNodesOfRow.holds Try.pinned (OpenSpec.ofChange Rows.fnExactNodesOfSpec) :=
  OpenClaim.holds_of_wide 3 Try.f3 rfl rfl rfl rfl rfl rfl rfl ⟨rfl, rfl, rfl, rfl, rfl⟩ rfl rfl rfl rfl rfl (by as_aux_lemma => kernel_rfl) Try.func3 fnExactNodesOf_closed
    (of_decide_eq_true (by as_aux_lemma => kernel_rfl)) (by as_aux_lemma => (unfold Func.isWrapper; rw [if_neg (of_decide_eq_false (by as_aux_lemma => kernel_rfl))]; exact ⟨rfl, rfl⟩))
    (fun os started H enc _ => fnExactNodesOf_lifted os started H enc)
theorem fnExactNodesOf_holds : Rows.FnExactNodesOfSaid := fnExactNodesOf_over
#print axioms fnExactNodesOf_holds
end Go.Proofs.Ytmahamlfdegkkab
