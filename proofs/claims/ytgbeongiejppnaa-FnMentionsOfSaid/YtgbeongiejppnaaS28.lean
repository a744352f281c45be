/- Generic texts and models for the proofs of this seat: part 28. -/
import Derived.Test.YtgbeongiejppnaaS27
set_option linter.unusedVariables false
set_option linter.unusedSimpArgs false
namespace Go.Proofs.Ytgbeongiejppnaa
open Go
def tt (f : Nat) : Bool := [44, 43, 46, 52, 55, 60, 61, 62, 85, 107, 108, 109, 110, 111, 113, 128, 129, 130, 131, 134, 140, 142].any fun e => Nat.beq e f
def extT (f : Nat) : Option TExt := if Nat.beq f 44 then some pickE else none
theorem fn_okT43 : fnOk (drawnT tt) lay sig Try.f43 (sig.sg 43) = true := by kernel_rfl
theorem fn_okT46 : fnOk (drawnT tt) lay sig Try.f46 (sig.sg 46) = true := by kernel_rfl
theorem fn_okT52 : fnOk (drawnT tt) lay sig Try.f52 (sig.sg 52) = true := by kernel_rfl
theorem fn_okT55 : fnOk (drawnT tt) lay sig Try.f55 (sig.sg 55) = true := by kernel_rfl
theorem fn_okT60 : fnOk (drawnT tt) lay sig Try.f60 (sig.sg 60) = true := by kernel_rfl
theorem fn_okT61 : fnOk (drawnT tt) lay sig Try.f61 (sig.sg 61) = true := by kernel_rfl
theorem fn_okT62 : fnOk (drawnT tt) lay sig Try.f62 (sig.sg 62) = true := by kernel_rfl
theorem fn_okT85 : fnOk (drawnT tt) lay sig Try.f85 (sig.sg 85) = true := by kernel_rfl
theorem fn_okT107 : fnOk (drawnT tt) lay sig Try.f107 (sig.sg 107) = true := by kernel_rfl
theorem fn_okT108 : fnOk (drawnT tt) lay sig Try.f108 (sig.sg 108) = true := by kernel_rfl
theorem fn_okT109 : fnOk (drawnT tt) lay sig Try.f109 (sig.sg 109) = true := by kernel_rfl
theorem fn_okT110 : fnOk (drawnT tt) lay sig Try.f110 (sig.sg 110) = true := by kernel_rfl
theorem fn_okT111 : fnOk (drawnT tt) lay sig Try.f111 (sig.sg 111) = true := by kernel_rfl
theorem fn_okT113 : fnOk (drawnT tt) lay sig Try.f113 (sig.sg 113) = true := by kernel_rfl
theorem fn_okT128 : fnOk (drawnT tt) lay sig Try.f128 (sig.sg 128) = true := by kernel_rfl
theorem fn_okT129 : fnOk (drawnT tt) lay sig Try.f129 (sig.sg 129) = true := by kernel_rfl
theorem fn_okT130 : fnOk (drawnT tt) lay sig Try.f130 (sig.sg 130) = true := by kernel_rfl
theorem fn_okT131 : fnOk (drawnT tt) lay sig Try.f131 (sig.sg 131) = true := by kernel_rfl
theorem fn_okT134 : fnOk (drawnT tt) lay sig Try.f134 (sig.sg 134) = true := by kernel_rfl
theorem fn_okT140 : fnOk (drawnT tt) lay sig Try.f140 (sig.sg 140) = true := by kernel_rfl
theorem fn_okT142 : fnOk (drawnT tt) lay sig Try.f142 (sig.sg 142) = true := by kernel_rfl
theorem tt_cases {f : Nat} (h : tt f = true) : f ∈ [44, 43, 46, 52, 55, 60, 61, 62, 85, 107, 108, 109, 110, 111, 113, 128, 129, 130, 131, 134, 140, 142] := by
  unfold tt at h
  simp only [List.any_eq_true] at h
  obtain ⟨e, he, hb⟩ := h
  rw [← Nat.eq_of_beq_eq_true hb]
  exact he
theorem tab_ok : TabT Try.prog lay sig tt extT := by
  refine ⟨fun f hf => ?_, fun f e hf he ct hct => ?_, fun f hf he => ?_⟩
  · have hm := tt_cases hf
    simp only [List.mem_cons, List.not_mem_nil, or_false] at hm
    rcases hm with rfl | rfl | rfl | rfl | rfl | rfl | rfl | rfl | rfl | rfl | rfl | rfl | rfl | rfl | rfl | rfl | rfl | rfl | rfl | rfl | rfl | rfl
    · exact (show (sig.sg 44).takes = [] by kernel_rfl)
    · exact (show (sig.sg 43).takes = [] by kernel_rfl)
    · exact (show (sig.sg 46).takes = [] by kernel_rfl)
    · exact (show (sig.sg 52).takes = [] by kernel_rfl)
    · exact (show (sig.sg 55).takes = [] by kernel_rfl)
    · exact (show (sig.sg 60).takes = [] by kernel_rfl)
    · exact (show (sig.sg 61).takes = [] by kernel_rfl)
    · exact (show (sig.sg 62).takes = [] by kernel_rfl)
    · exact (show (sig.sg 85).takes = [] by kernel_rfl)
    · exact (show (sig.sg 107).takes = [] by kernel_rfl)
    · exact (show (sig.sg 108).takes = [] by kernel_rfl)
    · exact (show (sig.sg 109).takes = [] by kernel_rfl)
    · exact (show (sig.sg 110).takes = [] by kernel_rfl)
    · exact (show (sig.sg 111).takes = [] by kernel_rfl)
    · exact (show (sig.sg 113).takes = [] by kernel_rfl)
    · exact (show (sig.sg 128).takes = [] by kernel_rfl)
    · exact (show (sig.sg 129).takes = [] by kernel_rfl)
    · exact (show (sig.sg 130).takes = [] by kernel_rfl)
    · exact (show (sig.sg 131).takes = [] by kernel_rfl)
    · exact (show (sig.sg 134).takes = [] by kernel_rfl)
    · exact (show (sig.sg 140).takes = [] by kernel_rfl)
    · exact (show (sig.sg 142).takes = [] by kernel_rfl)
  · have hm := tt_cases hf
    simp only [List.mem_cons, List.not_mem_nil, or_false] at hm
    rcases hm with rfl | rfl | rfl | rfl | rfl | rfl | rfl | rfl | rfl | rfl | rfl | rfl | rfl | rfl | rfl | rfl | rfl | rfl | rfl | rfl | rfl | rfl
    · have h : extT 44 = some pickE := by kernel_rfl
      rw [h] at he
      cases he
      exact pick_ok (by kernel_rfl)
    · have h : extT 43 = none := by kernel_rfl
      rw [h] at he
      cases he
    · have h : extT 46 = none := by kernel_rfl
      rw [h] at he
      cases he
    · have h : extT 52 = none := by kernel_rfl
      rw [h] at he
      cases he
    · have h : extT 55 = none := by kernel_rfl
      rw [h] at he
      cases he
    · have h : extT 60 = none := by kernel_rfl
      rw [h] at he
      cases he
    · have h : extT 61 = none := by kernel_rfl
      rw [h] at he
      cases he
    · have h : extT 62 = none := by kernel_rfl
      rw [h] at he
      cases he
    · have h : extT 85 = none := by kernel_rfl
      rw [h] at he
      cases he
    · have h : extT 107 = none := by kernel_rfl
      rw [h] at he
      cases he
    · have h : extT 108 = none := by kernel_rfl
      rw [h] at he
      cases he
    · have h : extT 109 = none := by kernel_rfl
      rw [h] at he
      cases he
    · have h : extT 110 = none := by kernel_rfl
      rw [h] at he
      cases he
    · have h : extT 111 = none := by kernel_rfl
      rw [h] at he
      cases he
    · have h : extT 113 = none := by kernel_rfl
      rw [h] at he
      cases he
    · have h : extT 128 = none := by kernel_rfl
      rw [h] at he
      cases he
    · have h : extT 129 = none := by kernel_rfl
      rw [h] at he
      cases he
    · have h : extT 130 = none := by kernel_rfl
      rw [h] at he
      cases he
    · have h : extT 131 = none := by kernel_rfl
      rw [h] at he
      cases he
    · have h : extT 134 = none := by kernel_rfl
      rw [h] at he
      cases he
    · have h : extT 140 = none := by kernel_rfl
      rw [h] at he
      cases he
    · have h : extT 142 = none := by kernel_rfl
      rw [h] at he
      cases he
  · have hm := tt_cases hf
    simp only [List.mem_cons, List.not_mem_nil, or_false] at hm
    rcases hm with rfl | rfl | rfl | rfl | rfl | rfl | rfl | rfl | rfl | rfl | rfl | rfl | rfl | rfl | rfl | rfl | rfl | rfl | rfl | rfl | rfl | rfl
    · have h : extT 44 = some pickE := by kernel_rfl
      rw [h] at he
      cases he
    · exact ⟨_, Try.func43, fn_okT43⟩
    · exact ⟨_, Try.func46, fn_okT46⟩
    · exact ⟨_, Try.func52, fn_okT52⟩
    · exact ⟨_, Try.func55, fn_okT55⟩
    · exact ⟨_, Try.func60, fn_okT60⟩
    · exact ⟨_, Try.func61, fn_okT61⟩
    · exact ⟨_, Try.func62, fn_okT62⟩
    · exact ⟨_, Try.func85, fn_okT85⟩
    · exact ⟨_, Try.func107, fn_okT107⟩
    · exact ⟨_, Try.func108, fn_okT108⟩
    · exact ⟨_, Try.func109, fn_okT109⟩
    · exact ⟨_, Try.func110, fn_okT110⟩
    · exact ⟨_, Try.func111, fn_okT111⟩
    · exact ⟨_, Try.func113, fn_okT113⟩
    · exact ⟨_, Try.func128, fn_okT128⟩
    · exact ⟨_, Try.func129, fn_okT129⟩
    · exact ⟨_, Try.func130, fn_okT130⟩
    · exact ⟨_, Try.func131, fn_okT131⟩
    · exact ⟨_, Try.func134, fn_okT134⟩
    · exact ⟨_, Try.func140, fn_okT140⟩
    · exact ⟨_, Try.func142, fn_okT142⟩
end Go.Proofs.Ytgbeongiejppnaa
