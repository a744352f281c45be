/- At every argument the law FnExactValidImage answers true and leaves its arguments as they were. Conditions: none. MADE BY mkclaim.py. -/
import Derived.Test.YtgiehkiicmnchaaRows
import Derived.WalkKit
import Derived.ProofKit
import Derived.OpenShut
import Derived.ChangeOld
import Derived.Below
import Derived.Test.YtgiehkiicmnchaaQ
import Derived.Test.YtgiehkiicmnchaaFi
import Derived.Test.YtgiehkiicmnchaaXt
import Derived.Test.YtgiehkiicmnchaaQo
namespace Go.Proofs.Ytgiehkiicmnchaa
open Go.ChangeShapes Go.WideShapes Go.ChangeAt Go.RowKit
set_option linter.unusedVariables false
theorem fnExactValidImage_own : ownKnob Try.prog.godebug = none := by kernel_rfl
theorem fnExactValidImage_laidOut : laidOutB Try.prog = true := by kernel_rfl
theorem fnExactValidImage_shape0 {x : List AC} (h : Fit .image x) : ∃ (ds_ : List (List AC)) (procs_ : List (List AC)), x = [.sl 3 ds_, .sl 5 procs_] := by
  cases h
  exact ⟨_, _, rfl⟩
set_option maxRecDepth 100000 in
theorem fnExactValidImage_lifted (os : Os) (started : os.Started) (H : Type) (enc : TypeId × Value → H) :
    ReturnsInHanded {} Try.checked os 3 .any (Rows.fnExactValidImageSpec.pre6 enc Try.prog Try.f3 Rows.fnExactValidImageRow.domain false) (Rows.fnExactValidImageSpec.post enc Try.prog Try.f3 false true false false) := by
  refine returnsInHanded_of_change (C := Try.checked) fnExactValidImage_own started (by kernel_rfl) Try.func3
    (ChangeSpec.witness6 (enc := enc) (C := Try.checked) false ⟨#[], #[.agg #[.slice none 0 0, .slice none 0 0]], []⟩ 8 (by kernel_rfl) (by kernel_rfl) (by kernel_rfl) (by kernel_rfl)) ?_
  intro W base args ds gs before hval0 hW hcnd _
  have hval : ∀ (j : Nat) t v, Try.f3.params[j]? = some t → args[j]? = some v → Value.okWide Try.prog W .any base t v := hval0
  have hW' := hW
  obtain ⟨p, q, hA0, hV, rfl, hfz, hnd⟩ := hW
  have hA : DataW.TrodAll enc Try.prog W 0 (fun _ => true) true Try.f3.params.toList args.toList ds p := hA0
  rw [Try.params3] at hA hval
  obtain ⟨v0, vs0, d0, ds0, p0, q0, hargs, rfl, rfl, h0, r0⟩ := trodAll_cons hA
  obtain ⟨rfl, rfl, rfl⟩ := trodAll_nil r0
  obtain rfl : args = #[v0] := by cases args; simp_all
  obtain ⟨rfl, rfl⟩ := trodVars_none hV
  have k0 := h0
  have lt0 : ∀ x ∈ p0, x.block < W.heap.size := by obtain ⟨m, hm⟩ := k0; exact DataW.trod_lt m _ _ _ hm
  obtain ⟨cs0, rfl, hcs0⟩ := okWide_struct Try.underlying25 (hval 0 25 v0 rfl rfl)
  obtain ⟨acs0, R0, F0⟩ : ∃ acs, RepL (pW W) W cs0.toList acs ∧ Fit .image acs := by
    obtain ⟨fuel, hf⟩ := h0
    obtain ⟨acs, g1, _, g2⟩ := open_wt plain_ok fuel _ _ _ (by kernel_rfl) hf
    exact ⟨acs, g1, fits_Image g2⟩
  obtain ⟨x0_0, x0_1, rfl⟩ := fnExactValidImage_shape0 F0
  clear hA0 hval0
  have hcall := vals_call orders_ok lay_ok ext_ok sig_ok (f := 3) (law_ValidImage F0) (by kernel_rfl) (p := pW W) (w := W) (vals := [.agg cs0]) ⟨⟨_, rfl, R0⟩, trivial⟩ (pW_zp W)
  refine hcall.mono fun e W' ⟨v, he, bel, p', sr, _⟩ => ?_
  subst he
  obtain rfl : v = .bool true := by
    have sr' : Rep p' W' v (.bool true) := sr
    cases sr'
    rfl
  exact ⟨_, rfl, _, _, _, [], _, [], hW', trodAll_mk1 (shut_bool Try.underlying4 _), (trodAll_cons_mk (Below.trod fnExactValidImage_laidOut (by kernel_rfl) (of_decide_eq_true (by kernel_rfl)) k0 bel lt0) trodAll_mk0), rfl, bel.frame _, fun h => by cases h⟩
set_option maxHeartbeats 4000000 in
theorem fnExactValidImage_closed : joinedFacts Try.prog 3 Try.f3 Rows.fnExactValidImageSpec Rows.fnExactValidImageRow = true := by
  have e1 : (Rows.fnExactValidImageRow.lifted == Try.prog.liftsFinal) = true := head_lifted
  have e2 : (Try.prog.make == some Rows.fnExactValidImageRow.make) = true := head_make
  have e3 := head_enter
  unfold joinedFacts
  simp only [Bool.and_eq_true]
  repeat' (refine And.intro ?_ ?_)
  all_goals first | with_reducible exact e1 | with_reducible exact e2 | with_reducible exact e3 | (as_aux_lemma => kernel_rfl)
theorem fnExactValidImage_over : Rows.fnExactValidImageRow.holds Try.pinned (OpenSpec.ofChange Rows.fnExactValidImageSpec) :=
  OpenClaim.holds_of_wide 3 Try.f3 rfl rfl rfl rfl rfl rfl rfl ⟨rfl, rfl, rfl, rfl, rfl⟩ rfl rfl rfl rfl rfl (by as_aux_lemma => kernel_rfl) Try.func3 fnExactValidImage_closed
    (of_decide_eq_true (by as_aux_lemma => kernel_rfl)) (by as_aux_lemma => (unfold Func.isWrapper; rw [if_neg (of_decide_eq_false (by as_aux_lemma => kernel_rfl))]; exact ⟨rfl, rfl⟩))
    (fun os started H enc _ => fnExactValidImage_lifted os started H enc)
theorem fnExactValidImage_holds : Rows.FnExactValidImageSaid := fnExactValidImage_over
#print axioms fnExactValidImage_holds
end Go.Proofs.Ytgiehkiicmnchaa
