/- Contracts of chapter 6: uses of a variable, as the model counts them. -/
import Derived.Test.YtdooageiopnhaaaU1
namespace Go.Proofs.Ytdooageiopnhaaa
open Go.RowKit Go.BigFrame
theorem sInRange_any (a b c : Int) (w : World)  :
    Calls Try.prog 22 #[.int .i64 a, .int .i64 b, .int .i64 c] w fun e w' => e = .returned (.bool (decide (b ≤ a) && decide (a ≤ c))) ∧ w = w' := by
  by_cases h0 : b ≤ a
  · by_cases h1 : a ≤ c
    · rw [show (decide (b ≤ a) && decide (a ≤ c)) = true by simp [h0, h1]]
      go_enter Try.func22, Try.ntmps22
      go_wp2
      go_ret
      exact ⟨rfl, rfl⟩
    · rw [show (decide (b ≤ a) && decide (a ≤ c)) = false by simp [h1]]
      go_enter Try.func22, Try.ntmps22
      go_wp2
      go_ret
      exact ⟨rfl, rfl⟩
  · rw [show (decide (b ≤ a) && decide (a ≤ c)) = false by simp [h0]]
    go_enter Try.func22, Try.ntmps22
    go_wp2
    go_ret
    exact ⟨rfl, rfl⟩
theorem sIsCounting_any (o : Int) (w : World) : Calls Try.prog 42 #[.int .i64 o] w fun e w' => e = .returned (.bool (isC o)) ∧ w = w' := by
  go_enter Try.func42, Try.ntmps42
  go_wp2_with (go_at_call 22; refine (sInRange_any _ _ _ _).mono ?_; rintro e w' ⟨rfl, rfl⟩)
  go_ret
  exact ⟨rfl, rfl⟩
theorem sIsCounting_is (b : Bool) (o : Int) (w : World) (h : isC o = b) : Calls Try.prog 42 #[.int .i64 o] w fun e w' => e = .returned (.bool b) ∧ w = w' := by
  subst h; exact sIsCounting_any o w
end Go.Proofs.Ytdooageiopnhaaa