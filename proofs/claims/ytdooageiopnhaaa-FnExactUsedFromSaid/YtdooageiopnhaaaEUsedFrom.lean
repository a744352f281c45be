/- At every argument the law FnExactUsedFrom answers true and leaves its arguments as they were: UsedFrom answers as its model, writes into no argument, and shares no memory. Conditions: none. -/
import Derived.Test.YtdooageiopnhaaaRows
import Derived.WalkKit
import Derived.ProofKit
import Derived.OpenShut
import Derived.ChangeOld
import Derived.Below
import Derived.Test.YtdooageiopnhaaaQ
import Derived.Test.YtdooageiopnhaaaY7
import Derived.Test.YtdooageiopnhaaaUw
namespace Go.Proofs.Ytdooageiopnhaaa
open Go.ChangeShapes Go.WideShapes Go.ChangeAt Go.RowKit
set_option linter.unusedVariables false
theorem fnExactUsedFrom_own : ownKnob Try.prog.godebug = none := by kernel_rfl
theorem fnExactUsedFrom_laidOut : laidOutB Try.prog = true := by kernel_rfl
set_option maxRecDepth 100000 in
theorem fnExactUsedFrom_lifted (os : Os) (started : os.Started) (H : Type) (enc : TypeId × Value → H) :
    ReturnsInHanded {} Try.checked os 4 .any (Rows.fnExactUsedFromSpec.pre6 enc Try.prog Try.f4 Rows.fnExactUsedFromRow.domain false) (Rows.fnExactUsedFromSpec.post enc Try.prog Try.f4 false true false false) := by
  refine returnsInHanded_of_change (C := Try.checked) fnExactUsedFrom_own started (by kernel_rfl) Try.func4
    (ChangeSpec.witness6 (enc := enc) (C := Try.checked) false ⟨#[], #[.agg #[.slice none 0 0, .int .i64 0], .int .i64 0, .int .i64 0], []⟩ 8 (by kernel_rfl) (by kernel_rfl) (by kernel_rfl) (by kernel_rfl)) ?_
  intro W base args ds gs before hval0 hW hcnd _
  have hval : ∀ (j : Nat) t v, Try.f4.params[j]? = some t → args[j]? = some v → Value.okWide Try.prog W .any base t v := hval0
  have hW' := hW
  obtain ⟨p, q, hA0, hV, rfl, hfz, hnd⟩ := hW
  have hA : DataW.TrodAll enc Try.prog W 0 (fun _ => true) true Try.f4.params.toList args.toList ds p := hA0
  rw [Try.params4] at hA hval
  obtain ⟨v0, vs0, d0, ds0, p0, q0, hargs, rfl, rfl, h0, r0⟩ := trodAll_cons hA
  obtain ⟨v1, vs1, d1, ds1, p1, q1, rfl, rfl, rfl, h1, r1⟩ := trodAll_cons r0
  obtain ⟨v2, vs2, d2, ds2, p2, q2, rfl, rfl, rfl, h2, r2⟩ := trodAll_cons r1
  obtain ⟨rfl, rfl, rfl⟩ := trodAll_nil r2
  obtain rfl : args = #[v0, v1, v2] := by cases args; simp_all
  obtain ⟨rfl, rfl⟩ := trodVars_none hV
  obtain ⟨a1, rfl, rfl, rfl, w1⟩ := open_int Try.underlying3 (hval 1 3 v1 rfl rfl) h1
  obtain ⟨a2, rfl, rfl, rfl, w2⟩ := open_int Try.underlying3 (hval 2 3 v2 rfl rfl) h2

  have k0 := h0
  have lt0 : ∀ x ∈ p0, x.block < W.heap.size := by obtain ⟨m, hm⟩ := k0; exact DataW.trod_lt m _ _ _ hm
  obtain ⟨u0, y0, S0, rfl, H0⟩ : ∃ u y ss, v0 = .agg #[u, .int .i64 y] ∧ Sts W 0 W.heap.size u ss := by
    obtain ⟨fuel, hf⟩ := h0
    obtain ⟨cs0, rfl, hcs0⟩ := okWide_struct Try.underlying24 (hval 0 24 v0 rfl rfl)
    obtain ⟨u, y, ss, e, h⟩ := block_open Try.underlying22 Try.underlying51 (by kernel_rfl) rfl rfl rfl rfl rfl rfl rfl rfl rfl rfl Try.underlying3 (by kernel_rfl) Try.underlying26 (by kernel_rfl) Try.underlying49 (by kernel_rfl) Try.underlying24 (by kernel_rfl) rfl rfl rfl rfl (by kernel_rfl) hf
    refine ⟨u, y, ss, ?_, h⟩
    have e' : cs0.toList = [u, Value.int .i64 y] := e
    rw [← Array.toArray_toList (xs := cs0), e']
  clear hA0 hval0
  refine (fnExactUsedFrom_walk S0 u0 y0 a1 a2 W H0).mono fun e W' ⟨he, bel⟩ => ?_
  subst he
  exact ⟨_, rfl, _, _, _, [], _, [], hW', trodAll_mk1 (shut_bool Try.underlying4 _), (trodAll_cons_mk (Below.trod fnExactUsedFrom_laidOut (by kernel_rfl) (of_decide_eq_true (by kernel_rfl)) k0 bel lt0) (trodAll_cons_mk (shut_int Try.underlying3 w1) (trodAll_cons_mk (shut_int Try.underlying3 w2) trodAll_mk0))), rfl, bel.frame _, fun h => by cases h⟩
set_option maxHeartbeats 4000000 in
theorem fnExactUsedFrom_closed : joinedFacts Try.prog 4 Try.f4 Rows.fnExactUsedFromSpec Rows.fnExactUsedFromRow = true := by
  have e1 : (Rows.fnExactUsedFromRow.lifted == Try.prog.liftsFinal) = true := head_lifted
  have e2 : (Try.prog.make == some Rows.fnExactUsedFromRow.make) = true := head_make
  have e3 := head_enter
  unfold joinedFacts
  simp only [Bool.and_eq_true]
  repeat' (refine And.intro ?_ ?_)
  all_goals first | with_reducible exact e1 | with_reducible exact e2 | with_reducible exact e3 | (as_aux_lemma => kernel_rfl)
theorem fnExactUsedFrom_over : Rows.fnExactUsedFromRow.holds Try.pinned (OpenSpec.ofChange Rows.fnExactUsedFromSpec) :=
  OpenClaim.holds_of_wide 4 Try.f4 rfl rfl rfl rfl rfl rfl rfl ⟨rfl, rfl, rfl, rfl, rfl⟩ rfl rfl rfl rfl rfl (by as_aux_lemma => kernel_rfl) Try.func4 fnExactUsedFrom_closed
    (of_decide_eq_true (by as_aux_lemma => kernel_rfl)) (by as_aux_lemma => (unfold Func.isWrapper; rw [if_neg (of_decide_eq_false (by as_aux_lemma => kernel_rfl))]; exact ⟨rfl, rfl⟩))
    (fun os started H enc _ => fnExactUsedFrom_lifted os started H enc)
theorem fnExactUsedFrom_holds : Rows.FnExactUsedFromSaid := fnExactUsedFrom_over
#print axioms fnExactUsedFrom_holds
end Go.Proofs.Ytdooageiopnhaaa
