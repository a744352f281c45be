/- At every argument the law FnExactInhabited answers true and leaves its arguments as they were: Inhabited answers as its model, writes into no argument, owns its answer. Conditions: none. -/
import Derived.Test.YtmahamlfdegkkaaRows
import Derived.WalkKit
import Derived.ProofKit
import Derived.OpenShut
import Derived.ChangeOld
import Derived.Below
import Derived.Test.YtmahamlfdegkkaaQ
import Derived.Test.YtmahamlfdegkkaaOp
import Derived.Test.YtmahamlfdegkkaaJ3
namespace Go.Proofs.Ytmahamlfdegkkaa
open Go.ChangeShapes Go.WideShapes Go.ChangeAt Go.RowKit
set_option linter.unusedVariables false
theorem fnExactInhabited_own : ownKnob Try.prog.godebug = none := by kernel_rfl
theorem fnExactInhabited_laidOut : laidOutB Try.prog = true := by kernel_rfl
set_option maxRecDepth 100000 in
theorem fnExactInhabited_lifted (os : Os) (started : os.Started) (H : Type) (enc : TypeId × Value → H) :
    ReturnsInHanded {} Try.checked os 14 .any (Rows.fnExactInhabitedSpec.pre6 enc Try.prog Try.f14 Rows.fnExactInhabitedRow.domain false) (Rows.fnExactInhabitedSpec.post enc Try.prog Try.f14 false true false false) := by
  refine returnsInHanded_of_change (C := Try.checked) fnExactInhabited_own started (by kernel_rfl) Try.func14
    (ChangeSpec.witness6 (enc := enc) (C := Try.checked) false ⟨#[], #[.slice none 0 0], []⟩ 8 (by kernel_rfl) (by kernel_rfl) (by kernel_rfl) (by kernel_rfl)) ?_
  intro W base args ds gs before hval0 hW hcnd _
  have hval : ∀ (j : Nat) t v, Try.f14.params[j]? = some t → args[j]? = some v → Value.okWide Try.prog W .any base t v := hval0
  have hW' := hW
  obtain ⟨p, q, hA0, hV, rfl, hfz, hnd⟩ := hW
  have hA : DataW.TrodAll enc Try.prog W 0 (fun _ => true) true Try.f14.params.toList args.toList ds p := hA0
  rw [Try.params14] at hA hval
  obtain ⟨v0, vs0, d0, ds0, p0, q0, hargs, rfl, rfl, h0, r0⟩ := trodAll_cons hA
  obtain ⟨rfl, rfl, rfl⟩ := trodAll_nil r0
  obtain rfl : args = #[v0] := by cases args; simp_all
  obtain ⟨rfl, rfl⟩ := trodVars_none hV

  obtain ⟨a0, len0, cap0, rfl⟩ := okWide_slice Try.underlying41 (hval 0 41 v0 rfl rfl)
  have k0 := h0
  have lt0 : ∀ x ∈ p0, x.block < W.heap.size := by obtain ⟨m, hm⟩ := k0; exact DataW.trod_lt m _ _ _ hm
  obtain ⟨D0, H0⟩ : ∃ ds, Decs W 0 W.heap.size (.slice a0 len0 cap0) ds := by
    obtain ⟨fuel, hf⟩ := h0
    exact decs_open Try.underlying41 Try.underlying64 (by kernel_rfl) rfl rfl rfl rfl rfl rfl Try.underlying3 (by kernel_rfl) (by kernel_rfl) Try.underlying62 Try.underlying79 (by kernel_rfl) rfl rfl Try.underlying26 (by kernel_rfl) Try.underlying3 (by kernel_rfl) hf
  clear hA0 hval0
  refine (fnExactInhabited_walk D0 _ W H0).mono fun e W' ⟨he, bel⟩ => ?_
  subst he
  exact ⟨_, rfl, _, _, _, [], _, [], hW', trodAll_mk1 (shut_bool Try.underlying4 _), (trodAll_cons_mk (Below.trod fnExactInhabited_laidOut (by kernel_rfl) (of_decide_eq_true (by kernel_rfl)) k0 bel lt0) trodAll_mk0), rfl, bel.frame _, fun h => by cases h⟩
set_option maxHeartbeats 4000000 in
theorem fnExactInhabited_closed : joinedFacts Try.prog 14 Try.f14 Rows.fnExactInhabitedSpec Rows.fnExactInhabitedRow = true := by
  have e1 : (Rows.fnExactInhabitedRow.lifted == Try.prog.liftsFinal) = true := head_lifted
  have e2 : (Try.prog.make == some Rows.fnExactInhabitedRow.make) = true := head_make
  have e3 := head_enter
  unfold joinedFacts
  simp only [Bool.and_eq_true]
  repeat' (refine And.intro ?_ ?_)
  all_goals first | with_reducible exact e1 | with_reducible exact e2 | with_reducible exact e3 | (as_aux_lemma => kernel_rfl)
theorem fnExactInhabited_over : Rows.fnExactInhabitedRow.holds Try.pinned (OpenSpec.ofChange Rows.fnExactInhabitedSpec) :=
  OpenClaim.holds_of_wide 14 Try.f14 rfl rfl rfl rfl rfl rfl rfl ⟨rfl, rfl, rfl, rfl, rfl⟩ rfl rfl rfl rfl rfl (by as_aux_lemma => kernel_rfl) Try.func14 fnExactInhabited_closed
    (of_decide_eq_true (by as_aux_lemma => kernel_rfl)) (by as_aux_lemma => (unfold Func.isWrapper; rw [if_neg (of_decide_eq_false (by as_aux_lemma => kernel_rfl))]; exact ⟨rfl, rfl⟩))
    (fun os started H enc _ => fnExactInhabited_lifted os started H enc)
theorem fnExactInhabited_holds : Rows.FnExactInhabitedSaid := fnExactInhabited_over
#print axioms fnExactInhabited_holds
end Go.Proofs.Ytmahamlfdegkkaa
