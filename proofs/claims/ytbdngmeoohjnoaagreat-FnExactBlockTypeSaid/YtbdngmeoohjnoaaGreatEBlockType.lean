/- At every argument the law FnExactBlockType answers true and leaves its arguments as they were. Conditions: none. MADE BY mkclaim.py. -/
import Derived.Test.YtbdngmeoohjnoaaGreatRows
import Derived.WalkKit
import Derived.ProofKit
import Derived.OpenShut
import Derived.ChangeOld
import Derived.Below
import Derived.Test.YtbdngmeoohjnoaaGreatQ
import Derived.Test.YtbdngmeoohjnoaaGreatFi
import Derived.Test.YtbdngmeoohjnoaaGreatXt
import Derived.Test.YtbdngmeoohjnoaaGreatQl
namespace Go.Proofs.YtbdngmeoohjnoaaGreat
open Go.ChangeShapes Go.WideShapes Go.ChangeAt Go.RowKit
set_option linter.unusedVariables false
theorem fnExactBlockType_own : ownKnob Tryz.prog.godebug = none := by kernel_rfl
theorem fnExactBlockType_laidOut : laidOutB Tryz.prog = true := by kernel_rfl
theorem fnExactBlockType_shape0 {x : List AC} (h : Fit .normal x) : ∃ (ds_ : List (List AC)) (rs_ : List (List AC)), x = [.sl 3 ds_, .sl 5 rs_] := by
  cases h
  exact ⟨_, _, rfl⟩
theorem fnExactBlockType_shape2 {x : List AC} (h : Fit .block x) : ∃ (steps_ : List (List AC)) (r_ : Int), x = [.sl 5 steps_, .int r_] := by
  cases h
  exact ⟨_, _, rfl⟩
set_option maxRecDepth 100000 in
theorem fnExactBlockType_lifted (os : Os) (started : os.Started) (H : Type) (enc : TypeId × Value → H) :
    ReturnsInHanded {} Tryz.checked os 3 .any (Rows.fnExactBlockTypeSpec.pre6 enc Tryz.prog Tryz.f3 Rows.fnExactBlockTypeRow.domain false) (Rows.fnExactBlockTypeSpec.post enc Tryz.prog Tryz.f3 false true false false) := by
  refine returnsInHanded_of_change (C := Tryz.checked) fnExactBlockType_own started (by kernel_rfl) Tryz.func3
    (ChangeSpec.witness6 (enc := enc) (C := Tryz.checked) false ⟨#[], #[.agg #[.slice none 0 0, .slice none 0 0], .slice none 0 0, .agg #[.slice none 0 0, .int .i64 0]], []⟩ 8 (by kernel_rfl) (by kernel_rfl) (by kernel_rfl) (by kernel_rfl)) ?_
  intro W base args ds gs before hval0 hW hcnd _
  have hval : ∀ (j : Nat) t v, Tryz.f3.params[j]? = some t → args[j]? = some v → Value.okWide Tryz.prog W .any base t v := hval0
  have hW' := hW
  obtain ⟨p, q, hA0, hV, rfl, hfz, hnd⟩ := hW
  have hA : DataW.TrodAll enc Tryz.prog W 0 (fun _ => true) true Tryz.f3.params.toList args.toList ds p := hA0
  rw [Tryz.params3] at hA hval
  obtain ⟨v0, vs0, d0, ds0, p0, q0, hargs, rfl, rfl, h0, r0⟩ := trodAll_cons hA
  obtain ⟨v1, vs1, d1, ds1, p1, q1, rfl, rfl, rfl, h1, r1⟩ := trodAll_cons r0
  obtain ⟨v2, vs2, d2, ds2, p2, q2, rfl, rfl, rfl, h2, r2⟩ := trodAll_cons r1
  obtain ⟨rfl, rfl, rfl⟩ := trodAll_nil r2
  obtain rfl : args = #[v0, v1, v2] := by cases args; simp_all
  obtain ⟨rfl, rfl⟩ := trodVars_none hV
  have k0 := h0
  have lt0 : ∀ x ∈ p0, x.block < W.heap.size := by obtain ⟨m, hm⟩ := k0; exact DataW.trod_lt m _ _ _ hm
  obtain ⟨cs0, rfl, hcs0⟩ := okWide_struct Tryz.underlying25 (hval 0 25 v0 rfl rfl)
  obtain ⟨acs0, R0, F0⟩ : ∃ acs, RepL (pW W) W cs0.toList acs ∧ Fit .normal acs := by
    obtain ⟨fuel, hf⟩ := h0
    obtain ⟨acs, g1, _, g2⟩ := open_wt plain_ok fuel _ _ _ (by kernel_rfl) hf
    exact ⟨acs, g1, fits_Normal g2⟩
  obtain ⟨x0_0, x0_1, rfl⟩ := fnExactBlockType_shape0 F0
  have k1 := h1
  have lt1 : ∀ x ∈ p1, x.block < W.heap.size := by obtain ⟨m, hm⟩ := k1; exact DataW.trod_lt m _ _ _ hm
  obtain ⟨a1, ln1, cap1, rfl⟩ := okWide_slice Tryz.underlying26 (hval 1 26 v1 rfl rfl)
  obtain ⟨X1, R1, F1⟩ : ∃ xs, Rep (pW W) W (.slice a1 ln1 cap1) (.sl 1 (intsC xs)) ∧ IntsOk xs := by
    obtain ⟨fuel, hf⟩ := h1
    obtain ⟨acs, g1, g3, g2⟩ := open_wt plain_ok fuel _ _ _ (by kernel_rfl) hf
    obtain ⟨x, rfl⟩ := len1 (g3.trans (by kernel_rfl))
    obtain ⟨xs, rfl, hx⟩ := wt_ints g2
    exact ⟨xs, g1.1, hx⟩
  have k2 := h2
  have lt2 : ∀ x ∈ p2, x.block < W.heap.size := by obtain ⟨m, hm⟩ := k2; exact DataW.trod_lt m _ _ _ hm
  obtain ⟨cs2, rfl, hcs2⟩ := okWide_struct Tryz.underlying29 (hval 2 29 v2 rfl rfl)
  obtain ⟨acs2, R2, F2⟩ : ∃ acs, RepL (pW W) W cs2.toList acs ∧ Fit .block acs := by
    obtain ⟨fuel, hf⟩ := h2
    obtain ⟨acs, g1, _, g2⟩ := open_wt plain_ok fuel _ _ _ (by kernel_rfl) hf
    exact ⟨acs, g1, fits_Block g2⟩
  obtain ⟨x2_0, x2_1, rfl⟩ := fnExactBlockType_shape2 F2
  clear hA0 hval0
  have hcall := vals_call orders_ok lay_ok ext_ok sig_ok (f := 3) (law_BlockType F0 F1 F2) (by kernel_rfl) (p := pW W) (w := W) (vals := [.agg cs0, .slice a1 ln1 cap1, .agg cs2]) ⟨⟨_, rfl, R0⟩, R1, ⟨_, rfl, R2⟩, trivial⟩ (pW_zp W)
  refine hcall.mono fun e W' ⟨v, he, bel, p', sr, _⟩ => ?_
  subst he
  obtain rfl : v = .bool true := by
    have sr' : Rep p' W' v (.bool true) := sr
    cases sr'
    rfl
  exact ⟨_, rfl, _, _, _, [], _, [], hW', trodAll_mk1 (shut_bool Tryz.underlying4 _), (trodAll_cons_mk (Below.trod fnExactBlockType_laidOut (by kernel_rfl) (of_decide_eq_true (by kernel_rfl)) k0 bel lt0) (trodAll_cons_mk (Below.trod fnExactBlockType_laidOut (by kernel_rfl) (of_decide_eq_true (by kernel_rfl)) k1 bel lt1) (trodAll_cons_mk (Below.trod fnExactBlockType_laidOut (by kernel_rfl) (of_decide_eq_true (by kernel_rfl)) k2 bel lt2) trodAll_mk0))), rfl, bel.frame _, fun h => by cases h⟩
set_option maxHeartbeats 4000000 in
theorem fnExactBlockType_closed : joinedFacts Tryz.prog 3 Tryz.f3 Rows.fnExactBlockTypeSpec Rows.fnExactBlockTypeRow = true := by
  have e1 : (Rows.fnExactBlockTypeRow.lifted == Tryz.prog.liftsFinal) = true := head_lifted
  have e2 : (Tryz.prog.make == some Rows.fnExactBlockTypeRow.make) = true := head_make
  have e3 := head_enter
  unfold joinedFacts
  simp only [Bool.and_eq_true]
  repeat' (refine And.intro ?_ ?_)
  all_goals first | with_reducible exact e1 | with_reducible exact e2 | with_reducible exact e3 | (as_aux_lemma => kernel_rfl)
theorem fnExactBlockType_over : Rows.fnExactBlockTypeRow.holds Tryz.pinned (OpenSpec.ofChange Rows.fnExactBlockTypeSpec) :=
  OpenClaim.holds_of_wide 3 Tryz.f3 rfl rfl rfl rfl rfl rfl rfl ⟨rfl, rfl, rfl, rfl, rfl⟩ rfl rfl rfl rfl rfl (by as_aux_lemma => kernel_rfl) Tryz.func3 fnExactBlockType_closed
    (of_decide_eq_true (by as_aux_lemma => kernel_rfl)) (by as_aux_lemma => (unfold Func.isWrapper; rw [if_neg (of_decide_eq_false (by as_aux_lemma => kernel_rfl))]; exact ⟨rfl, rfl⟩))
    (fun os started H enc _ => fnExactBlockType_lifted os started H enc)
theorem fnExactBlockType_holds : Rows.FnExactBlockTypeSaid := fnExactBlockType_over
#print axioms fnExactBlockType_holds
end Go.Proofs.YtbdngmeoohjnoaaGreat
