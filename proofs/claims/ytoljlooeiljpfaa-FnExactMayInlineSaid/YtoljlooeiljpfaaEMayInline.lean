/- At every argument the law FnExactMayInline answers true and leaves its arguments as they were. Conditions: none. MADE BY mkclaim.py. -/
import Derived.Test.YtoljlooeiljpfaaRows
import Derived.WalkKit
import Derived.ProofKit
import Derived.OpenShut
import Derived.ChangeOld
import Derived.Below
import Derived.Test.YtoljlooeiljpfaaQ
import Derived.Test.YtoljlooeiljpfaaFi
import Derived.Test.YtoljlooeiljpfaaXt
import Derived.Test.YtoljlooeiljpfaaRk
namespace Go.Proofs.Ytoljlooeiljpfaa
open Go.ChangeShapes Go.WideShapes Go.ChangeAt Go.RowKit
set_option linter.unusedVariables false
theorem fnExactMayInline_own : ownKnob Try.prog.godebug = none := by kernel_rfl
theorem fnExactMayInline_laidOut : laidOutB Try.prog = true := by kernel_rfl
theorem fnExactMayInline_shape0 {x : List AC} (h : Fit .prog x) : ∃ (ds_ : List (List AC)) (fs_ : List (List AC)), x = [.sl 3 ds_, .sl 5 fs_] := by
  cases h
  exact ⟨_, _, rfl⟩
set_option maxRecDepth 100000 in
theorem fnExactMayInline_lifted (os : Os) (started : os.Started) (H : Type) (enc : TypeId × Value → H) :
    ReturnsInHanded {} Try.checked os 3 .any (Rows.fnExactMayInlineSpec.pre6 enc Try.prog Try.f3 Rows.fnExactMayInlineRow.domain false) (Rows.fnExactMayInlineSpec.post enc Try.prog Try.f3 false true false false) := by
  refine returnsInHanded_of_change (C := Try.checked) fnExactMayInline_own started (by kernel_rfl) Try.func3
    (ChangeSpec.witness6 (enc := enc) (C := Try.checked) false ⟨#[], #[.agg #[.slice none 0 0, .slice none 0 0], .int .i64 0], []⟩ 8 (by kernel_rfl) (by kernel_rfl) (by kernel_rfl) (by kernel_rfl)) ?_
  intro W base args ds gs before hval0 hW hcnd _
  have hval : ∀ (j : Nat) t v, Try.f3.params[j]? = some t → args[j]? = some v → Value.okWide Try.prog W .any base t v := hval0
  have hW' := hW
  obtain ⟨p, q, hA0, hV, rfl, hfz, hnd⟩ := hW
  have hA : DataW.TrodAll enc Try.prog W 0 (fun _ => true) true Try.f3.params.toList args.toList ds p := hA0
  rw [Try.params3] at hA hval
  obtain ⟨v0, vs0, d0, ds0, p0, q0, hargs, rfl, rfl, h0, r0⟩ := trodAll_cons hA
  obtain ⟨v1, vs1, d1, ds1, p1, q1, rfl, rfl, rfl, h1, r1⟩ := trodAll_cons r0
  obtain ⟨rfl, rfl, rfl⟩ := trodAll_nil r1
  obtain rfl : args = #[v0, v1] := by cases args; simp_all
  obtain ⟨rfl, rfl⟩ := trodVars_none hV
  have k0 := h0
  have lt0 : ∀ x ∈ p0, x.block < W.heap.size := by obtain ⟨m, hm⟩ := k0; exact DataW.trod_lt m _ _ _ hm
  obtain ⟨cs0, rfl, hcs0⟩ := okWide_struct Try.underlying25 (hval 0 25 v0 rfl rfl)
  obtain ⟨acs0, R0, F0⟩ : ∃ acs, RepL (pW W) W cs0.toList acs ∧ Fit .prog acs := by
    obtain ⟨fuel, hf⟩ := h0
    obtain ⟨acs, g1, _, g2⟩ := open_wt plain_ok fuel _ _ _ (by kernel_rfl) hf
    exact ⟨acs, g1, fits_Program g2⟩
  obtain ⟨x0_0, x0_1, rfl⟩ := fnExactMayInline_shape0 F0
  have k1 := h1
  have lt1 : ∀ x ∈ p1, x.block < W.heap.size := by obtain ⟨m, hm⟩ := k1; exact DataW.trod_lt m _ _ _ hm
  obtain ⟨n1, rfl, rfl, rfl, w1⟩ := open_int Try.underlying3 (hval 1 3 v1 rfl rfl) h1
  clear hA0 hval0
  have hcall := vals_call orders_ok lay_ok ext_ok sig_ok (f := 3) (law_MayInline F0 (n := n1) (wf_i64 w1)) (by kernel_rfl) (p := pW W) (w := W) (vals := [.agg cs0, .int .i64 n1]) ⟨⟨_, rfl, R0⟩, (.int n1 : Rep (pW W) W (.int .i64 n1) (.int n1)), trivial⟩ (pW_zp W)
  refine hcall.mono fun e W' ⟨v, he, bel, p', sr, _⟩ => ?_
  subst he
  obtain rfl : v = .bool true := by
    have sr' : Rep p' W' v (.bool true) := sr
    cases sr'
    rfl
  exact ⟨_, rfl, _, _, _, [], _, [], hW', trodAll_mk1 (shut_bool Try.underlying4 _), (trodAll_cons_mk (Below.trod fnExactMayInline_laidOut (by kernel_rfl) (of_decide_eq_true (by kernel_rfl)) k0 bel lt0) (trodAll_cons_mk (shut_int Try.underlying3 w1) trodAll_mk0)), rfl, bel.frame _, fun h => by cases h⟩
set_option maxHeartbeats 4000000 in
theorem fnExactMayInline_closed : joinedFacts Try.prog 3 Try.f3 Rows.fnExactMayInlineSpec Rows.fnExactMayInlineRow = true := by
  have e1 : (Rows.fnExactMayInlineRow.lifted == Try.prog.liftsFinal) = true := head_lifted
  have e2 : (Try.prog.make == some Rows.fnExactMayInlineRow.make) = true := head_make
  have e3 := head_enter
  unfold joinedFacts
  simp only [Bool.and_eq_true]
  repeat' (refine And.intro ?_ ?_)
  all_goals first | with_reducible exact e1 | with_reducible exact e2 | with_reducible exact e3 | (as_aux_lemma => kernel_rfl)
theorem fnExactMayInline_over : Rows.fnExactMayInlineRow.holds Try.pinned (OpenSpec.ofChange Rows.fnExactMayInlineSpec) :=
  OpenClaim.holds_of_wide 3 Try.f3 rfl rfl rfl rfl rfl rfl rfl ⟨rfl, rfl, rfl, rfl, rfl⟩ rfl rfl rfl rfl rfl (by as_aux_lemma => kernel_rfl) Try.func3 fnExactMayInline_closed
    (of_decide_eq_true (by as_aux_lemma => kernel_rfl)) (by as_aux_lemma => (unfold Func.isWrapper; rw [if_neg (of_decide_eq_false (by as_aux_lemma => kernel_rfl))]; exact ⟨rfl, rfl⟩))
    (fun os started H enc _ => fnExactMayInline_lifted os started H enc)
theorem fnExactMayInline_holds : Rows.FnExactMayInlineSaid := fnExactMayInline_over
#print axioms fnExactMayInline_holds
end Go.Proofs.Ytoljlooeiljpfaa
