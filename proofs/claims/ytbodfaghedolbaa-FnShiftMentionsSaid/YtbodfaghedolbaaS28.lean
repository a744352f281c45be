/- Generic texts and models for the proofs of this seat: part 28. -/
import Derived.Test.YtbodfaghedolbaaS27
set_option linter.unusedVariables false
set_option linter.unusedSimpArgs false
namespace Go.Proofs.Ytbodfaghedolbaa
open Go
def tt (f : Nat) : Bool := [55, 22, 30, 31, 56, 61, 62, 64, 89, 90, 91, 92, 93, 103, 104, 105, 107, 108, 109, 111, 112, 115].any fun e => Nat.beq e f
def extT (f : Nat) : Option TExt := if Nat.beq f 55 then some pickE else none
theorem fn_okT22 : fnOk (drawnT tt) lay sig Try.f22 (sig.sg 22) = true := by kernel_rfl
theorem fn_okT30 : fnOk (drawnT tt) lay sig Try.f30 (sig.sg 30) = true := by kernel_rfl
theorem fn_okT31 : fnOk (drawnT tt) lay sig Try.f31 (sig.sg 31) = true := by kernel_rfl
theorem fn_okT56 : fnOk (drawnT tt) lay sig Try.f56 (sig.sg 56) = true := by kernel_rfl
theorem fn_okT61 : fnOk (drawnT tt) lay sig Try.f61 (sig.sg 61) = true := by kernel_rfl
theorem fn_okT62 : fnOk (drawnT tt) lay sig Try.f62 (sig.sg 62) = true := by kernel_rfl
theorem fn_okT64 : fnOk (drawnT tt) lay sig Try.f64 (sig.sg 64) = true := by kernel_rfl
theorem fn_okT89 : fnOk (drawnT tt) lay sig Try.f89 (sig.sg 89) = true := by kernel_rfl
theorem fn_okT90 : fnOk (drawnT tt) lay sig Try.f90 (sig.sg 90) = true := by kernel_rfl
theorem fn_okT91 : fnOk (drawnT tt) lay sig Try.f91 (sig.sg 91) = true := by kernel_rfl
theorem fn_okT92 : fnOk (drawnT tt) lay sig Try.f92 (sig.sg 92) = true := by kernel_rfl
theorem fn_okT93 : fnOk (drawnT tt) lay sig Try.f93 (sig.sg 93) = true := by kernel_rfl
theorem fn_okT103 : fnOk (drawnT tt) lay sig Try.f103 (sig.sg 103) = true := by kernel_rfl
theorem fn_okT104 : fnOk (drawnT tt) lay sig Try.f104 (sig.sg 104) = true := by kernel_rfl
theorem fn_okT105 : fnOk (drawnT tt) lay sig Try.f105 (sig.sg 105) = true := by kernel_rfl
theorem fn_okT107 : fnOk (drawnT tt) lay sig Try.f107 (sig.sg 107) = true := by kernel_rfl
theorem fn_okT108 : fnOk (drawnT tt) lay sig Try.f108 (sig.sg 108) = true := by kernel_rfl
theorem fn_okT109 : fnOk (drawnT tt) lay sig Try.f109 (sig.sg 109) = true := by kernel_rfl
theorem fn_okT111 : fnOk (drawnT tt) lay sig Try.f111 (sig.sg 111) = true := by kernel_rfl
theorem fn_okT112 : fnOk (drawnT tt) lay sig Try.f112 (sig.sg 112) = true := by kernel_rfl
theorem fn_okT115 : fnOk (drawnT tt) lay sig Try.f115 (sig.sg 115) = true := by kernel_rfl
theorem tt_cases {f : Nat} (h : tt f = true) : f ∈ [55, 22, 30, 31, 56, 61, 62, 64, 89, 90, 91, 92, 93, 103, 104, 105, 107, 108, 109, 111, 112, 115] := by
  unfold tt at h
  simp only [List.any_eq_true] at h
  obtain ⟨e, he, hb⟩ := h
  rw [← Nat.eq_of_beq_eq_true hb]
  exact he
theorem tab_ok : TabT Try.prog lay sig tt extT := by
  refine ⟨fun f hf => ?_, fun f e hf he ct hct => ?_, fun f hf he => ?_⟩
  · have hm := tt_cases hf
    simp only [List.mem_cons, List.not_mem_nil, or_false] at hm
    rcases hm with rfl | rfl | rfl | rfl | rfl | rfl | rfl | rfl | rfl | rfl | rfl | rfl | rfl | rfl | rfl | rfl | rfl | rfl | rfl | rfl | rfl | rfl
    · exact (show (sig.sg 55).takes = [] by kernel_rfl)
    · exact (show (sig.sg 22).takes = [] by kernel_rfl)
    · exact (show (sig.sg 30).takes = [] by kernel_rfl)
    · exact (show (sig.sg 31).takes = [] by kernel_rfl)
    · exact (show (sig.sg 56).takes = [] by kernel_rfl)
    · exact (show (sig.sg 61).takes = [] by kernel_rfl)
    · exact (show (sig.sg 62).takes = [] by kernel_rfl)
    · exact (show (sig.sg 64).takes = [] by kernel_rfl)
    · exact (show (sig.sg 89).takes = [] by kernel_rfl)
    · exact (show (sig.sg 90).takes = [] by kernel_rfl)
    · exact (show (sig.sg 91).takes = [] by kernel_rfl)
    · exact (show (sig.sg 92).takes = [] by kernel_rfl)
    · exact (show (sig.sg 93).takes = [] by kernel_rfl)
    · exact (show (sig.sg 103).takes = [] by kernel_rfl)
    · exact (show (sig.sg 104).takes = [] by kernel_rfl)
    · exact (show (sig.sg 105).takes = [] by kernel_rfl)
    · exact (show (sig.sg 107).takes = [] by kernel_rfl)
    · exact (show (sig.sg 108).takes = [] by kernel_rfl)
    · exact (show (sig.sg 109).takes = [] by kernel_rfl)
    · exact (show (sig.sg 111).takes = [] by kernel_rfl)
    · exact (show (sig.sg 112).takes = [] by kernel_rfl)
    · exact (show (sig.sg 115).takes = [] by kernel_rfl)
  · have hm := tt_cases hf
    simp only [List.mem_cons, List.not_mem_nil, or_false] at hm
    rcases hm with rfl | rfl | rfl | rfl | rfl | rfl | rfl | rfl | rfl | rfl | rfl | rfl | rfl | rfl | rfl | rfl | rfl | rfl | rfl | rfl | rfl | rfl
    · have h : extT 55 = some pickE := by kernel_rfl
      rw [h] at he
      cases he
      exact pick_ok (by kernel_rfl)
    · have h : extT 22 = none := by kernel_rfl
      rw [h] at he
      cases he
    · have h : extT 30 = none := by kernel_rfl
      rw [h] at he
      cases he
    · have h : extT 31 = none := by kernel_rfl
      rw [h] at he
      cases he
    · have h : extT 56 = none := by kernel_rfl
      rw [h] at he
      cases he
    · have h : extT 61 = none := by kernel_rfl
      rw [h] at he
      cases he
    · have h : extT 62 = none := by kernel_rfl
      rw [h] at he
      cases he
    · have h : extT 64 = none := by kernel_rfl
      rw [h] at he
      cases he
    · have h : extT 89 = none := by kernel_rfl
      rw [h] at he
      cases he
    · have h : extT 90 = none := by kernel_rfl
      rw [h] at he
      cases he
    · have h : extT 91 = none := by kernel_rfl
      rw [h] at he
      cases he
    · have h : extT 92 = none := by kernel_rfl
      rw [h] at he
      cases he
    · have h : extT 93 = none := by kernel_rfl
      rw [h] at he
      cases he
    · have h : extT 103 = none := by kernel_rfl
      rw [h] at he
      cases he
    · have h : extT 104 = none := by kernel_rfl
      rw [h] at he
      cases he
    · have h : extT 105 = none := by kernel_rfl
      rw [h] at he
      cases he
    · have h : extT 107 = none := by kernel_rfl
      rw [h] at he
      cases he
    · have h : extT 108 = none := by kernel_rfl
      rw [h] at he
      cases he
    · have h : extT 109 = none := by kernel_rfl
      rw [h] at he
      cases he
    · have h : extT 111 = none := by kernel_rfl
      rw [h] at he
      cases he
    · have h : extT 112 = none := by kernel_rfl
      rw [h] at he
      cases he
    · have h : extT 115 = none := by kernel_rfl
      rw [h] at he
      cases he
  · have hm := tt_cases hf
    simp only [List.mem_cons, List.not_mem_nil, or_false] at hm
    rcases hm with rfl | rfl | rfl | rfl | rfl | rfl | rfl | rfl | rfl | rfl | rfl | rfl | rfl | rfl | rfl | rfl | rfl | rfl | rfl | rfl | rfl | rfl
    · have h : extT 55 = some pickE := by kernel_rfl
      rw [h] at he
      cases he
    · exact ⟨_, Try.func22, fn_okT22⟩
    · exact ⟨_, Try.func30, fn_okT30⟩
    · exact ⟨_, Try.func31, fn_okT31⟩
    · exact ⟨_, Try.func56, fn_okT56⟩
    · exact ⟨_, Try.func61, fn_okT61⟩
    · exact ⟨_, Try.func62, fn_okT62⟩
    · exact ⟨_, Try.func64, fn_okT64⟩
    · exact ⟨_, Try.func89, fn_okT89⟩
    · exact ⟨_, Try.func90, fn_okT90⟩
    · exact ⟨_, Try.func91, fn_okT91⟩
    · exact ⟨_, Try.func92, fn_okT92⟩
    · exact ⟨_, Try.func93, fn_okT93⟩
    · exact ⟨_, Try.func103, fn_okT103⟩
    · exact ⟨_, Try.func104, fn_okT104⟩
    · exact ⟨_, Try.func105, fn_okT105⟩
    · exact ⟨_, Try.func107, fn_okT107⟩
    · exact ⟨_, Try.func108, fn_okT108⟩
    · exact ⟨_, Try.func109, fn_okT109⟩
    · exact ⟨_, Try.func111, fn_okT111⟩
    · exact ⟨_, Try.func112, fn_okT112⟩
    · exact ⟨_, Try.func115, fn_okT115⟩
end Go.Proofs.Ytbodfaghedolbaa
