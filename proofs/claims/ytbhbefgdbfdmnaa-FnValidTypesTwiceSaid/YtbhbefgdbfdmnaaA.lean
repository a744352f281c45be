/- Contracts of the smallest functions of chapter 1: tests on types. -/
import Derived.Test.YtbhbefgdbfdmnaaM
import Derived.Test.YtbhbefgdbfdmnaaA0
namespace Go.Proofs.Ytbhbefgdbfdmnaa
open Go.RowKit

theorem isType_any (A : Option Addr) (n c : Nat) (t : Int) (w : World) (_hn : n ≤ maxLen) :
    Calls Try.prog 16 #[.slice A n c, .int .i64 t] w fun e w' => e = .returned (.bool (isTy n t)) ∧ w = w' := by
  by_cases h0 : 0 ≤ t
  · by_cases h1 : t ≤ n
    · have e1 : isTy n t = true := by simp [isTy, h0, h1]
      rw [e1]
      go_enter Try.func16, Try.ntmps16
      go_wp2
      go_ret
      exact ⟨rfl, rfl⟩
    · have e1 : isTy n t = false := by simp [isTy, h1]
      rw [e1]
      go_enter Try.func16, Try.ntmps16
      go_wp2
      go_ret
      exact ⟨rfl, rfl⟩
  · have e1 : isTy n t = false := by simp [isTy, h0]
    rw [e1]
    go_enter Try.func16, Try.ntmps16
    go_wp2
    go_ret
    exact ⟨rfl, rfl⟩
theorem isType_is (A : Option Addr) (n c : Nat) (t : Int) (b : Bool) (w : World) (hn : n ≤ maxLen) (h : isTy n t = b) :
    Calls Try.prog 16 #[.slice A n c, .int .i64 t] w fun e w' => e = .returned (.bool b) ∧ w' = w := by
  subst h
  exact (isType_any A n c t w hn).mono fun _ _ h => ⟨h.1, h.2.symm⟩
set_option maxHeartbeats 400000 in
theorem areTypes_any (A : Option Addr) (n c L U : Nat) (xs : List Int) (v : Value) (w : World) (hn : n ≤ maxLen) (hv : Ints w L U v xs) :
    Calls Try.prog 19 #[.slice A n c, v] w fun e w' => e = .returned (.bool (xs.all (isTy n))) ∧ w = w' := by
  obtain ⟨B, d, rfl, hl, hd⟩ := hv.open_
  go_enter Try.func19, Try.ntmps19
  go_wp2_with fail
  go_loop [9] (fun i => ∃ k : Nat, k ≤ xs.length ∧ i = .int .i64 k ∧ Hid ((xs.take k).all (isTy n) = true)) (fun i => xs.length - (intOf i).toNat)
  case atStart => exact ⟨0, by omega, rfl, by simp [Hid]⟩
  case round =>
    obtain ⟨k, hk, rfl, H⟩ := hrel
    by_cases hlt : k < xs.length
    · obtain ⟨b, o, rfl, _, _, hc⟩ := hv.at_ hlt
      go_wp2_with (go_at_call 16; refine (isType_any _ _ _ _ _ hn).mono ?_; rintro e w' ⟨rfl, rfl⟩)
      · go_ret
        exact ⟨ret_bool (all_stop hlt (not_true ‹_›)).symm, rfl⟩
      · exact ⟨⟨k + 1, by omega, by go_num, all_step H hlt (not_false ‹_›)⟩, by simp [intOf]; omega⟩
    · go_wp2_with fail
      go_ret
      exact ⟨ret_bool (all_done H hlt).symm, rfl⟩
theorem inRange_any (a b c : Int) (w : World)  :
    Calls Try.prog 21 #[.int .i64 a, .int .i64 b, .int .i64 c] w fun e w' => e = .returned (.bool (decide (b ≤ a) && decide (a ≤ c))) ∧ w = w' := by
  by_cases h0 : b ≤ a
  · by_cases h1 : a ≤ c
    · rw [show (decide (b ≤ a) && decide (a ≤ c)) = true by simp [h0, h1]]
      go_enter Try.func21, Try.ntmps21
      go_wp2
      go_ret
      exact ⟨rfl, rfl⟩
    · rw [show (decide (b ≤ a) && decide (a ≤ c)) = false by simp [h1]]
      go_enter Try.func21, Try.ntmps21
      go_wp2
      go_ret
      exact ⟨rfl, rfl⟩
  · rw [show (decide (b ≤ a) && decide (a ≤ c)) = false by simp [h0]]
    go_enter Try.func21, Try.ntmps21
    go_wp2
    go_ret
    exact ⟨rfl, rfl⟩
end Go.Proofs.Ytbhbefgdbfdmnaa
