/- The laws of FnExactValidNormal, FnExactBlockType and FnExactIsPlain answer true wherever what comes in fits. -/
import Derived.Test.YtbdngmeoohjnoaaGreatQk
import Derived.Test.YtbdngmeoohjnoaaGreatDa
set_option linter.unusedVariables false
set_option linter.unusedSimpArgs false
namespace Go.Proofs.YtbdngmeoohjnoaaGreat
open Go
theorem law_ValidNormal {ds rs : List (List AC)} (h : Fit .normal [.sl 3 ds, .sl 5 rs]) : laws_FnExactValidNormal [.agg [.sl 3 ds, .sl 5 rs]] = rB true := by
  obtain ⟨n, g, s⟩ := sz_fit h 1048576 (by omega) (by omega)
  rcases s with ⟨c, rfl⟩ | ⟨c, rfl⟩
  rotate_left
  · exact laws_FnExactValidNormal_le (callI g (bifT rfl rfl))
  have t := to_fit h (by omega)
  have e := eq_fit h
  obtain ⟨b, h1, h2⟩ := validNormal_ex h
  refine laws_FnExactValidNormal_le (callI g (bifF (decide_eq_false (by omega)) (callProg t (callB (spec_ValidNormal_le (callB h2 rfl)) (callProg t (callB h1 (bifF ?_ (callProg t (callB e (bifF rfl rfl))))))))))
  cases b <;> rfl
theorem law_IsPlain {ds rs : List (List AC)} (h : Fit .normal [.sl 3 ds, .sl 5 rs]) : laws_FnExactIsPlain [.agg [.sl 3 ds, .sl 5 rs]] = rB true := by
  obtain ⟨n, g, s⟩ := sz_fit h 1048576 (by omega) (by omega)
  rcases s with ⟨c, rfl⟩ | ⟨c, rfl⟩
  rotate_left
  · exact laws_FnExactIsPlain_le (callI g (bifT rfl rfl))
  have t := to_fit h (by omega)
  have e := eq_fit h
  obtain ⟨b, h1, h2⟩ := isPlain_ex h
  refine laws_FnExactIsPlain_le (callI g (bifF (decide_eq_false (by omega)) (callProg t (callB h2 (callProg t (callB h1 (bifF ?_ (callProg t (callB e (bifF rfl rfl))))))))))
  cases b <;> rfl
theorem law_BlockType {ds rs : List (List AC)} (h : Fit .normal [.sl 3 ds, .sl 5 rs]) {G : List Int} (hG : IntsOk G) {ss : List (List AC)} {r : Int} (hb : Fit .block [.sl 5 ss, .int r]) : laws_FnExactBlockType [.agg [.sl 3 ds, .sl 5 rs], .cell (.sl 1 (intsC G)), .agg [.sl 5 ss, .int r]] = rB true := by
  by_cases hl : G.length ≤ 1048576
  rotate_left
  · exact laws_FnExactBlockType_le (bifT (decide_eq_true (by rw [intsC_len]; omega)) rfl)
  have l1 : decide ((((intsC G).length : Nat) : Int) > 1048576) = false := decide_eq_false (by rw [intsC_len]; omega)
  obtain ⟨n, g, s⟩ := sz_fit h 1048576 (by omega) (by omega)
  rcases s with ⟨c, rfl⟩ | ⟨c, rfl⟩
  rotate_left
  · exact laws_FnExactBlockType_le (bifF l1 (callI g (bifT rfl rfl)))
  obtain ⟨n, g2, s⟩ := sz_fit hb (1048576 - (cS [.sl 3 ds, .sl 5 rs] : Nat)) (by omega) (by omega)
  rcases s with ⟨c2, rfl⟩ | ⟨c2, rfl⟩
  rotate_left
  · exact laws_FnExactBlockType_le (bifF l1 (callI g (bifF (decide_eq_false (by omega)) (callI g2 (bifT rfl rfl)))))
  have t := to_fit h (by omega)
  have t2 := to_fit hb (by omega)
  have t3 := to_IntS G hl
  have e := eq_fit h
  have e2 := eq_fit hb
  have e3 := eq_IntS G hG.len
  obtain ⟨b, h1, h2⟩ := blockType_ex h hl hb
  exact laws_FnExactBlockType_le (bifF l1 (callI g (bifF (decide_eq_false (by omega)) (callI g2 (bifF (decide_eq_false (by omega)) (callProg t (callS t3 (callBlock t2 (callI h2 (callProg t (callS t3 (callBlock t2 (callI h1 (bifF (nef rfl) (callProg t (callB e (bifF rfl (callS t3 (callB e3 (bifF rfl (callBlock t2 (callB e2 (bifF rfl rfl)))))))))))))))))))))))
end Go.Proofs.YtbdngmeoohjnoaaGreat
