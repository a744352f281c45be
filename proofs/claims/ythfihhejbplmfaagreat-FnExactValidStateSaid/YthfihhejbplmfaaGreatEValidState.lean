/- At every argument the law FnExactValidState answers true and leaves its arguments as they were. Conditions: none. MADE BY mkclaim.py. -/
import Derived.Test.YthfihhejbplmfaaGreatRows
import Derived.WalkKit
import Derived.ProofKit
import Derived.OpenShut
import Derived.ChangeOld
import Derived.Below
import Derived.Test.YthfihhejbplmfaaGreatQ
import Derived.Test.YthfihhejbplmfaaGreatFi
import Derived.Test.YthfihhejbplmfaaGreatXt
import Derived.Test.YthfihhejbplmfaaGreatHk
namespace Go.Proofs.YthfihhejbplmfaaGreat
open Go.ChangeShapes Go.WideShapes Go.ChangeAt Go.RowKit
set_option linter.unusedVariables false
theorem fnExactValidState_own : ownKnob Tryz.prog.godebug = none := by kernel_rfl
theorem fnExactValidState_laidOut : laidOutB Tryz.prog = true := by kernel_rfl
theorem fnExactValidState_shape0 {x : List AC} (h : Fit .image x) : ∃ (ds_ : List (List AC)) (procs_ : List (List AC)), x = [.sl 3 ds_, .sl 5 procs_] := by
  cases h
  exact ⟨_, _, rfl⟩
theorem fnExactValidState_shape1 {x : List AC} (h : Fit .state x) : ∃ (s_ : Int) (v_ : Int) (c_ : Int) (m_ : Int) (out_ : List Int) (heap_ : List (List AC)) (frames_ : List (List AC)), x = [.int s_, .int v_, .int c_, .int m_, .sl 1 (intsC out_), .sl 3 heap_, .sl 6 frames_] := by
  cases h
  exact ⟨_, _, _, _, _, _, _, rfl⟩
set_option maxRecDepth 100000 in
theorem fnExactValidState_lifted (os : Os) (started : os.Started) (H : Type) (enc : TypeId × Value → H) :
    ReturnsInHanded {} Tryz.checked os 3 .any (Rows.fnExactValidStateSpec.pre6 enc Tryz.prog Tryz.f3 Rows.fnExactValidStateRow.domain false) (Rows.fnExactValidStateSpec.post enc Tryz.prog Tryz.f3 false true false false) := by
  refine returnsInHanded_of_change (C := Tryz.checked) fnExactValidState_own started (by kernel_rfl) Tryz.func3
    (ChangeSpec.witness6 (enc := enc) (C := Tryz.checked) false ⟨#[], #[.agg #[.slice none 0 0, .slice none 0 0], .agg #[.int .i64 0, .int .i64 0, .int .i64 0, .int .i64 0, .slice none 0 0, .slice none 0 0, .slice none 0 0]], []⟩ 8 (by kernel_rfl) (by kernel_rfl) (by kernel_rfl) (by kernel_rfl)) ?_
  intro W base args ds gs before hval0 hW hcnd _
  have hval : ∀ (j : Nat) t v, Tryz.f3.params[j]? = some t → args[j]? = some v → Value.okWide Tryz.prog W .any base t v := hval0
  have hW' := hW
  obtain ⟨p, q, hA0, hV, rfl, hfz, hnd⟩ := hW
  have hA : DataW.TrodAll enc Tryz.prog W 0 (fun _ => true) true Tryz.f3.params.toList args.toList ds p := hA0
  rw [Tryz.params3] at hA hval
  obtain ⟨v0, vs0, d0, ds0, p0, q0, hargs, rfl, rfl, h0, r0⟩ := trodAll_cons hA
  obtain ⟨v1, vs1, d1, ds1, p1, q1, rfl, rfl, rfl, h1, r1⟩ := trodAll_cons r0
  obtain ⟨rfl, rfl, rfl⟩ := trodAll_nil r1
  obtain rfl : args = #[v0, v1] := by cases args; simp_all
  obtain ⟨rfl, rfl⟩ := trodVars_none hV
  have k0 := h0
  have lt0 : ∀ x ∈ p0, x.block < W.heap.size := by obtain ⟨m, hm⟩ := k0; exact DataW.trod_lt m _ _ _ hm
  obtain ⟨cs0, rfl, hcs0⟩ := okWide_struct Tryz.underlying25 (hval 0 25 v0 rfl rfl)
  obtain ⟨acs0, R0, F0⟩ : ∃ acs, RepL (pW W) W cs0.toList acs ∧ Fit .image acs := by
    obtain ⟨fuel, hf⟩ := h0
    obtain ⟨acs, g1, _, g2⟩ := open_wt plain_ok fuel _ _ _ (by kernel_rfl) hf
    exact ⟨acs, g1, fits_Image g2⟩
  obtain ⟨x0_0, x0_1, rfl⟩ := fnExactValidState_shape0 F0
  have k1 := h1
  have lt1 : ∀ x ∈ p1, x.block < W.heap.size := by obtain ⟨m, hm⟩ := k1; exact DataW.trod_lt m _ _ _ hm
  obtain ⟨cs1, rfl, hcs1⟩ := okWide_struct Tryz.underlying30 (hval 1 30 v1 rfl rfl)
  obtain ⟨acs1, R1, F1⟩ : ∃ acs, RepL (pW W) W cs1.toList acs ∧ Fit .state acs := by
    obtain ⟨fuel, hf⟩ := h1
    obtain ⟨acs, g1, _, g2⟩ := open_wt plain_ok fuel _ _ _ (by kernel_rfl) hf
    exact ⟨acs, g1, fits_State g2⟩
  obtain ⟨x1_0, x1_1, x1_2, x1_3, x1_4, x1_5, x1_6, rfl⟩ := fnExactValidState_shape1 F1
  clear hA0 hval0
  have hcall := vals_call orders_ok lay_ok ext_ok sig_ok (f := 3) (law_ValidState F0 F1) (by kernel_rfl) (p := pW W) (w := W) (vals := [.agg cs0, .agg cs1]) ⟨⟨_, rfl, R0⟩, ⟨_, rfl, R1⟩, trivial⟩ (pW_zp W)
  refine hcall.mono fun e W' ⟨v, he, bel, p', sr, _⟩ => ?_
  subst he
  obtain rfl : v = .bool true := by
    have sr' : Rep p' W' v (.bool true) := sr
    cases sr'
    rfl
  exact ⟨_, rfl, _, _, _, [], _, [], hW', trodAll_mk1 (shut_bool Tryz.underlying4 _), (trodAll_cons_mk (Below.trod fnExactValidState_laidOut (by kernel_rfl) (of_decide_eq_true (by kernel_rfl)) k0 bel lt0) (trodAll_cons_mk (Below.trod fnExactValidState_laidOut (by kernel_rfl) (of_decide_eq_true (by kernel_rfl)) k1 bel lt1) trodAll_mk0)), rfl, bel.frame _, fun h => by cases h⟩
set_option maxHeartbeats 4000000 in
theorem fnExactValidState_closed : joinedFacts Tryz.prog 3 Tryz.f3 Rows.fnExactValidStateSpec Rows.fnExactValidStateRow = true := by
  have e1 : (Rows.fnExactValidStateRow.lifted == Tryz.prog.liftsFinal) = true := head_lifted
  have e2 : (Tryz.prog.make == some Rows.fnExactValidStateRow.make) = true := head_make
  have e3 := head_enter
  unfold joinedFacts
  simp only [Bool.and_eq_true]
  repeat' (refine And.intro ?_ ?_)
  all_goals first | with_reducible exact e1 | with_reducible exact e2 | with_reducible exact e3 | (as_aux_lemma => kernel_rfl)
theorem fnExactValidState_over : Rows.fnExactValidStateRow.holds Tryz.pinned (OpenSpec.ofChange Rows.fnExactValidStateSpec) :=
  OpenClaim.holds_of_wide 3 Tryz.f3 rfl rfl rfl rfl rfl rfl rfl ⟨rfl, rfl, rfl, rfl, rfl⟩ rfl rfl rfl rfl rfl (by as_aux_lemma => kernel_rfl) Tryz.func3 fnExactValidState_closed
    (of_decide_eq_true (by as_aux_lemma => kernel_rfl)) (by as_aux_lemma => (unfold Func.isWrapper; rw [if_neg (of_decide_eq_false (by as_aux_lemma => kernel_rfl))]; exact ⟨rfl, rfl⟩))
    (fun os started H enc _ => fnExactValidState_lifted os started H enc)
theorem fnExactValidState_holds : Rows.FnExactValidStateSaid := fnExactValidState_over
#print axioms fnExactValidState_holds
end Go.Proofs.YthfihhejbplmfaaGreat
