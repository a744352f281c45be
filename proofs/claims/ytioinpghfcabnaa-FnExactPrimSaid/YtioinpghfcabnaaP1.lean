/- Prim: what the program's function and the model's answer for any three integers. -/
import Derived.Test.YtioinpghfcabnaaA0
namespace Go.Proofs.Ytioinpghfcabnaa
open Go.RowKit

/-- A number from -999 to 999. -/
def inB (n : Int) : Bool := decide (-999 ≤ n) && decide (n ≤ 999)
/-- The nearest number from -999 to 999. -/
def clampI (n : Int) : Int := if 999 < n then 999 else if n < -999 then -999 else n
/-- What Prim answers for integers in range. -/
def primI (op a b : Int) : Int := if op = 1 then clampI (a + b) else if op = 2 then clampI (a - b) else if op = 3 then clampI (a * b) else if op = 4 then (if a < b then 1 else 0) else 0
/-- What Prim answers. -/
def primV (op a b : Int) : Int := if inB a = true ∧ inB b = true then primI op a b else 0
theorem inB_iff {n : Int} : inB n = true ↔ -999 ≤ n ∧ n ≤ 999 := by simp [inB]
theorem inB_no {n : Int} (h : inB n = false) : n < -999 ∨ 999 < n := by
  rcases Int.lt_or_le n (-999) with h1 | h1
  · exact .inl h1
  · refine .inr (Int.not_le.1 fun h2 => ?_)
    rw [inB_iff.2 ⟨h1, h2⟩] at h; cases h
theorem clampI_big {n : Int} (h : 999 < n) : clampI n = 999 := by unfold clampI; rw [if_pos h]
theorem clampI_low {n : Int} (h : n < -999) : clampI n = -999 := by unfold clampI; rw [if_neg (by omega), if_pos h]
theorem clampI_in {n : Int} (h : ¬ 999 < n) (k : ¬ n < -999) : clampI n = n := by unfold clampI; rw [if_neg h, if_neg k]
theorem clampI_range (n : Int) : -999 ≤ clampI n ∧ clampI n ≤ 999 := by unfold clampI; repeat' split <;> omega
theorem primV_range (op a b : Int) : -999 ≤ primV op a b ∧ primV op a b ≤ 999 := by
  unfold primV primI
  have h1 := clampI_range (a + b)
  have h2 := clampI_range (a - b)
  have h3 := clampI_range (a * b)
  repeat' split
  all_goals omega
theorem inInts_any (n : Int) (w : World) : Calls Try.prog 13 #[.int .i64 n] w fun e w' => e = .returned (.bool (inB n)) ∧ w = w' := by
  by_cases h0 : -999 ≤ n
  · by_cases h1 : n ≤ 999
    · have e1 : inB n = true := by simp [inB, h0, h1]
      rw [e1]
      go_enter Try.func13, Try.ntmps13
      go_wp2
      go_ret
      exact ⟨rfl, rfl⟩
    · have e1 : inB n = false := by simp [inB, h1]
      rw [e1]
      go_enter Try.func13, Try.ntmps13
      go_wp2
      go_ret
      exact ⟨rfl, rfl⟩
  · have e1 : inB n = false := by simp [inB, h0]
    rw [e1]
    go_enter Try.func13, Try.ntmps13
    go_wp2
    go_ret
    exact ⟨rfl, rfl⟩
theorem inInts_is (n : Int) (b : Bool) (w : World) (h : inB n = b) : Calls Try.prog 13 #[.int .i64 n] w fun e w' => e = .returned (.bool b) ∧ w = w' := by
  subst h; exact inInts_any n w
theorem clamped_any (n : Int) (w : World) : Calls Try.prog 14 #[.int .i64 n] w fun e w' => e = .returned (.int .i64 (clampI n)) ∧ w = w' := by
  by_cases h0 : 999 < n
  · rw [clampI_big h0]
    go_enter Try.func14, Try.ntmps14
    go_wp2
    go_ret
    exact ⟨rfl, rfl⟩
  · by_cases h1 : n < -999
    · rw [clampI_low h1]
      go_enter Try.func14, Try.ntmps14
      go_wp2
      go_ret
      exact ⟨rfl, rfl⟩
    · rw [clampI_in h0 h1]
      go_enter Try.func14, Try.ntmps14
      go_wp2
      go_ret
      exact ⟨rfl, rfl⟩
theorem sClamp_any (n : Int) (w : World) : Calls Try.prog 17 #[.int .i64 n] w fun e w' => e = .returned (.int .i64 (clampI n)) ∧ w = w' := by
  by_cases h0 : 999 < n
  · rw [clampI_big h0]
    go_enter Try.func17, Try.ntmps17
    go_wp2
    go_ret
    exact ⟨rfl, rfl⟩
  · by_cases h1 : n < -999
    · rw [clampI_low h1]
      go_enter Try.func17, Try.ntmps17
      go_wp2
      go_ret
      exact ⟨rfl, rfl⟩
    · rw [clampI_in h0 h1]
      by_cases h2 : n = 999
      · subst h2
        go_enter Try.func17, Try.ntmps17
        go_wp2
        go_ret
        exact ⟨rfl, rfl⟩
      · by_cases h3 : n = -999
        · subst h3
          go_enter Try.func17, Try.ntmps17
          go_wp2
          go_ret
          exact ⟨rfl, rfl⟩
        · have h4 : n < 999 := by omega
          have h5 : -999 < n := by omega
          clear h0 h1 h2 h3
          go_enter Try.func17, Try.ntmps17
          go_wp2
          go_ret
          exact ⟨rfl, rfl⟩
theorem sInRange_any (n lo hi : Int) (w : World) : Calls Try.prog 15 #[.int .i64 n, .int .i64 lo, .int .i64 hi] w fun e w' => e = .returned (.bool (decide (lo ≤ n) && decide (n ≤ hi))) ∧ w = w' := by
  by_cases h0 : lo ≤ n
  · by_cases h1 : n ≤ hi
    · have e1 : (decide (lo ≤ n) && decide (n ≤ hi)) = true := by simp [h0, h1]
      rw [e1]
      go_enter Try.func15, Try.ntmps15
      go_wp2
      go_ret
      exact ⟨rfl, rfl⟩
    · have e1 : (decide (lo ≤ n) && decide (n ≤ hi)) = false := by simp [h1]
      rw [e1]
      go_enter Try.func15, Try.ntmps15
      go_wp2
      go_ret
      exact ⟨rfl, rfl⟩
  · have e1 : (decide (lo ≤ n) && decide (n ≤ hi)) = false := by simp [h0]
    rw [e1]
    go_enter Try.func15, Try.ntmps15
    go_wp2
    go_ret
    exact ⟨rfl, rfl⟩
theorem sInInts_is (n : Int) (b : Bool) (w : World) (h : inB n = b) : Calls Try.prog 15 #[.int .i64 n, .int .i64 (-999), .int .i64 999] w fun e w' => e = .returned (.bool b) ∧ w = w' := by
  subst h; exact sInRange_any n (-999) 999 w
end Go.Proofs.Ytioinpghfcabnaa
