/- At every argument the law FnExactTypeOf answers true and leaves its arguments as they were: TypeOf answers as its model and writes into no argument. Conditions: none. -/
import Derived.Test.YthbingbbimikhaaRows
import Derived.WalkKit
import Derived.ProofKit
import Derived.OpenShut
import Derived.ChangeOld
import Derived.Below
import Derived.Test.YthbingbbimikhaaQ
import Derived.Test.YthbingbbimikhaaGa
import Derived.Test.YthbingbbimikhaaGb
import Derived.Test.YthbingbbimikhaaT3r
import Derived.Test.YthbingbbimikhaaGe
import Derived.Test.YthbingbbimikhaaPw1
namespace Go.Proofs.Ythbingbbimikhaa
open Go.ChangeShapes Go.WideShapes Go.ChangeAt Go.RowKit
set_option linter.unusedVariables false
theorem fnExactTypeOf_own : ownKnob Try.prog.godebug = none := by kernel_rfl
theorem fnExactTypeOf_laidOut : laidOutB Try.prog = true := by kernel_rfl
set_option maxRecDepth 100000 in
theorem fnExactTypeOf_lifted (os : Os) (started : os.Started) (H : Type) (enc : TypeId × Value → H) :
    ReturnsInHanded {} Try.checked os 3 .any (Rows.fnExactTypeOfSpec.pre6 enc Try.prog Try.f3 Rows.fnExactTypeOfRow.domain false) (Rows.fnExactTypeOfSpec.post enc Try.prog Try.f3 false true false false) := by
  refine returnsInHanded_of_change (C := Try.checked) fnExactTypeOf_own started (by kernel_rfl) Try.func3
    (ChangeSpec.witness6 (enc := enc) (C := Try.checked) false ⟨#[], #[.agg #[.slice none 0 0, .slice none 0 0], .slice none 0 0, .agg #[.int .i64 0, .int .i64 0, .slice none 0 0]], []⟩ 8 (by kernel_rfl) (by kernel_rfl) (by kernel_rfl) (by kernel_rfl)) ?_
  intro W base args ds gs before hval0 hW hcnd _
  have hval : ∀ (j : Nat) t v, Try.f3.params[j]? = some t → args[j]? = some v → Value.okWide Try.prog W .any base t v := hval0
  have hW' := hW
  obtain ⟨p, q, hA0, hV, rfl, hfz, hnd⟩ := hW
  have hA : DataW.TrodAll enc Try.prog W 0 (fun _ => true) true Try.f3.params.toList args.toList ds p := hA0
  rw [Try.params3] at hA hval
  obtain ⟨v0, vs0, d0, ds0, p0, q0, hargs, rfl, rfl, h0, r0⟩ := trodAll_cons hA
  obtain ⟨v1, vs1, d1, ds1, p1, q1, rfl, rfl, rfl, h1, r1⟩ := trodAll_cons r0
  obtain ⟨v2, vs2, d2, ds2, p2, q2, rfl, rfl, rfl, h2, r2⟩ := trodAll_cons r1
  obtain ⟨rfl, rfl, rfl⟩ := trodAll_nil r2
  obtain rfl : args = #[v0, v1, v2] := by cases args; simp_all
  obtain ⟨rfl, rfl⟩ := trodVars_none hV


  have k0 := h0
  have lt0 : ∀ x ∈ p0, x.block < W.heap.size := by obtain ⟨m, hm⟩ := k0; exact DataW.trod_lt m _ _ _ hm
  obtain ⟨P0, H0⟩ : ∃ p, Pgm W 0 W.heap.size v0 p := by
    obtain ⟨fuel, hf⟩ := h0
    obtain ⟨cs0, rfl, hcs0⟩ := okWide_struct Try.underlying25 (hval 0 25 v0 rfl rfl)
    obtain ⟨u, v, p, e, h⟩ := prog_open Try.underlying25 (by kernel_rfl) rfl rfl rfl rfl (by kernel_rfl) (by kernel_rfl) Try.underlying22 Try.underlying86 (by kernel_rfl) rfl rfl rfl rfl rfl rfl (by kernel_rfl) Try.underlying84 Try.underlying122 (by kernel_rfl) rfl rfl Try.underlying26 (by kernel_rfl) Try.underlying23 Try.underlying89 (by kernel_rfl) rfl rfl rfl rfl rfl rfl Try.underlying26 (by kernel_rfl) Try.underlying3 (by kernel_rfl) Try.underlying29 (by kernel_rfl) rfl rfl rfl rfl rfl rfl Try.underlying27 (by kernel_rfl) hf
    refine ⟨p, ?_⟩
    have e' : cs0.toList = [u, v] := e
    rw [← Array.toArray_toList (xs := cs0), e']
    exact h
  obtain ⟨a1, len1, cap1, rfl⟩ := okWide_slice Try.underlying26 (hval 1 26 v1 rfl rfl)
  have k1 := h1
  have lt1 : ∀ x ∈ p1, x.block < W.heap.size := by obtain ⟨m, hm⟩ := k1; exact DataW.trod_lt m _ _ _ hm
  obtain ⟨X1, H1⟩ : ∃ xs, Ints W 0 W.heap.size (.slice a1 len1 cap1) xs := by
    obtain ⟨fuel, hf⟩ := h1
    exact ints_open Try.underlying26 Try.underlying3 (by kernel_rfl) hf
  have k2 := h2
  have lt2 : ∀ x ∈ p2, x.block < W.heap.size := by obtain ⟨m, hm⟩ := k2; exact DataW.trod_lt m _ _ _ hm
  obtain ⟨x2, y2, u2, K2, rfl, H2, b2, R2⟩ : ∃ x y u ks, v2 = .agg #[.int .i64 x, .int .i64 y, u] ∧ Exs W 0 W.heap.size u ks ∧ y ≤ 9223372036854775807 ∧ rngL ks := by
    obtain ⟨fuel, hf⟩ := h2
    obtain ⟨cs0, rfl, hcs0⟩ := okWide_struct Try.underlying29 (hval 2 29 v2 rfl rfl)
    obtain ⟨x, y, u, ks, e, h⟩ := expr_openR Try.underlying29 (by kernel_rfl) rfl rfl rfl rfl rfl rfl Try.underlying3 (by kernel_rfl) (by kernel_rfl) Try.underlying27 hf
    refine ⟨x, y, u, ks, ?_, h⟩
    have e' : cs0.toList = [Value.int .i64 x, .int .i64 y, u] := e
    rw [← Array.toArray_toList (xs := cs0), e']
  clear hA0 hval0
  refine (fnExactTypeOf_walk P0 v0 _ X1 x2 y2 K2 u2 W H0 H1 H2 b2 R2).mono fun e W' ⟨he, bel⟩ => ?_
  subst he
  exact ⟨_, rfl, _, _, _, [], _, [], hW', trodAll_mk1 (shut_bool Try.underlying4 _), (trodAll_cons_mk (Below.trod fnExactTypeOf_laidOut (by kernel_rfl) (of_decide_eq_true (by kernel_rfl)) k0 bel lt0) (trodAll_cons_mk (Below.trod fnExactTypeOf_laidOut (by kernel_rfl) (of_decide_eq_true (by kernel_rfl)) k1 bel lt1) (trodAll_cons_mk (Below.trod fnExactTypeOf_laidOut (by kernel_rfl) (of_decide_eq_true (by kernel_rfl)) k2 bel lt2) trodAll_mk0))), rfl, bel.frame _, fun h => by cases h⟩
set_option maxHeartbeats 4000000 in
theorem fnExactTypeOf_closed : joinedFacts Try.prog 3 Try.f3 Rows.fnExactTypeOfSpec Rows.fnExactTypeOfRow = true := by
  have e1 : (Rows.fnExactTypeOfRow.lifted == Try.prog.liftsFinal) = true := head_lifted
  have e2 : (Try.prog.make == some Rows.fnExactTypeOfRow.make) = true := head_make
  have e3 := head_enter
  unfold joinedFacts
  simp only [Bool.and_eq_true]
  repeat' (refine And.intro ?_ ?_)
  all_goals first | with_reducible exact e1 | with_reducible exact e2 | with_reducible exact e3 | (as_aux_lemma => kernel_rfl)
theorem fnExactTypeOf_over : Rows.fnExactTypeOfRow.holds Try.pinned (OpenSpec.ofChange Rows.fnExactTypeOfSpec) :=
  OpenClaim.holds_of_wide 3 Try.f3 rfl rfl rfl rfl rfl rfl rfl ⟨rfl, rfl, rfl, rfl, rfl⟩ rfl rfl rfl rfl rfl (by as_aux_lemma => kernel_rfl) Try.func3 fnExactTypeOf_closed
    (of_decide_eq_true (by as_aux_lemma => kernel_rfl)) (by as_aux_lemma => (unfold Func.isWrapper; rw [if_neg (of_decide_eq_false (by as_aux_lemma => kernel_rfl))]; exact ⟨rfl, rfl⟩))
    (fun os started H enc _ => fnExactTypeOf_lifted os started H enc)
theorem fnExactTypeOf_holds : Rows.FnExactTypeOfSaid := fnExactTypeOf_over
#print axioms fnExactTypeOf_holds
end Go.Proofs.Ythbingbbimikhaa
