/- Contracts of chapter 6: uses of a variable. -/
import Derived.Test.YtdooageiopnhaaaU0
import Derived.Test.YtdooageiopnhaaaY2
namespace Go.Proofs.Ytdooageiopnhaaa
open Go.RowKit Go.BigFrame
theorem isCounting_any (o : Int) (w : World) : Calls Try.prog 36 #[.int .i64 o] w fun e w' => e = .returned (.bool (isC o)) ∧ w = w' := by
  by_cases h0 : 14 ≤ o
  · by_cases h1 : o ≤ 17
    · rw [show isC o = true by simp [isC, h0, h1]]
      go_enter Try.func36, Try.ntmps36
      go_wp2
      go_ret
      exact ⟨rfl, rfl⟩
    · rw [show isC o = false by simp [isC, h1]]
      go_enter Try.func36, Try.ntmps36
      go_wp2
      go_ret
      exact ⟨rfl, rfl⟩
  · rw [show isC o = false by simp [isC, h0]]
    go_enter Try.func36, Try.ntmps36
    go_wp2
    go_ret
    exact ⟨rfl, rfl⟩
theorem isCounting_is (b : Bool) (o : Int) (w : World) (h : isC o = b) : Calls Try.prog 36 #[.int .i64 o] w fun e w' => e = .returned (.bool b) ∧ w = w' := by
  subst h; exact isCounting_any o w
end Go.Proofs.Ytdooageiopnhaaa