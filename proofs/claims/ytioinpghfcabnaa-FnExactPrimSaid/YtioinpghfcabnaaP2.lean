/- Prim of the program and of the model: both answer primV. -/
import Derived.Test.YtioinpghfcabnaaP1
namespace Go.Proofs.Ytioinpghfcabnaa
open Go.RowKit
theorem primI_other {op a b : Int} (h1 : ¬ op = 1) (h2 : ¬ op = 2) (h3 : ¬ op = 3) (h4 : ¬ op = 4) : primI op a b = 0 := by unfold primI; rw [if_neg h1, if_neg h2, if_neg h3, if_neg h4]
theorem primI_1 (a b : Int) : primI 1 a b = clampI (a + b) := rfl
theorem primI_2 (a b : Int) : primI 2 a b = clampI (a - b) := rfl
theorem primI_3 (a b : Int) : primI 3 a b = clampI (a * b) := rfl
theorem primI_4 (a b : Int) : primI 4 a b = if a < b then 1 else 0 := rfl
theorem primV_in {op a b : Int} (ha : inB a = true) (hb : inB b = true) : primV op a b = primI op a b := if_pos ⟨ha, hb⟩
theorem primV_out {op a b : Int} (h : inB a = false ∨ inB b = false) : primV op a b = 0 := by
  unfold primV; rw [if_neg]; rintro ⟨ha, hb⟩; rcases h with h | h
  · rw [ha] at h; cases h
  · rw [hb] at h; cases h
theorem mul_bound {a b : Int} (ha : -999 ≤ a ∧ a ≤ 999) (hb : -999 ≤ b ∧ b ≤ 999) : -998001 ≤ a * b ∧ a * b ≤ 998001 := by
  have h1 : 0 ≤ (999 - a) * (999 + b) := Int.mul_nonneg (by omega) (by omega)
  have h2 : 0 ≤ (999 + a) * (999 - b) := Int.mul_nonneg (by omega) (by omega)
  have h3 : 0 ≤ (999 - a) * (999 - b) := Int.mul_nonneg (by omega) (by omega)
  have h4 : 0 ≤ (999 + a) * (999 + b) := Int.mul_nonneg (by omega) (by omega)
  simp only [Int.mul_add, Int.add_mul, Int.mul_sub, Int.sub_mul] at h1 h2 h3 h4
  omega
set_option maxHeartbeats 800000 in
theorem prim_any (op a b : Int) (w : World) : Calls Try.prog 8 #[.int .i64 op, .int .i64 a, .int .i64 b] w fun e w' => e = .returned (.int .i64 (primV op a b)) ∧ w = w' := by
  by_cases ha : inB a = true
  · by_cases hb : inB b = true
    · rw [primV_in ha hb]
      obtain ⟨la, ua⟩ := inB_iff.1 ha
      obtain ⟨lb, ub⟩ := inB_iff.1 hb
      obtain ⟨lm, um⟩ := mul_bound ⟨la, ua⟩ ⟨lb, ub⟩
      have Ha := Lib.hid ha
      have Hb := Lib.hid hb
      clear ha hb
      by_cases h1 : op = 1
      · subst h1
        rw [primI_1]
        go_enter Try.func8, Try.ntmps8
        go_wp2_with fail
        refine (inInts_is a true _ Ha.out).mono ?_
        rintro e w' ⟨rfl, rfl⟩
        go_wp2_with fail
        refine (inInts_is b true _ Hb.out).mono ?_
        rintro e w' ⟨rfl, rfl⟩
        go_wp2_with fail
        refine (clamped_any (a + b) _).mono ?_
        rintro e w' ⟨rfl, rfl⟩
        go_wp2_with fail
        go_ret
        exact ⟨rfl, rfl⟩
      by_cases h2 : op = 2
      · subst h2
        rw [primI_2]
        go_enter Try.func8, Try.ntmps8
        go_wp2_with fail
        refine (inInts_is a true _ Ha.out).mono ?_
        rintro e w' ⟨rfl, rfl⟩
        go_wp2_with fail
        refine (inInts_is b true _ Hb.out).mono ?_
        rintro e w' ⟨rfl, rfl⟩
        go_wp2_with fail
        refine (clamped_any (a - b) _).mono ?_
        rintro e w' ⟨rfl, rfl⟩
        go_wp2_with fail
        go_ret
        exact ⟨rfl, rfl⟩
      by_cases h3 : op = 3
      · subst h3
        rw [primI_3]
        go_enter Try.func8, Try.ntmps8
        go_wp2_with fail
        refine (inInts_is a true _ Ha.out).mono ?_
        rintro e w' ⟨rfl, rfl⟩
        go_wp2_with fail
        refine (inInts_is b true _ Hb.out).mono ?_
        rintro e w' ⟨rfl, rfl⟩
        go_wp2_with fail
        refine (clamped_any (a * b) _).mono ?_
        rintro e w' ⟨rfl, rfl⟩
        go_wp2_with fail
        go_ret
        exact ⟨rfl, rfl⟩
      by_cases h4 : op = 4
      · subst h4
        rw [primI_4]
        by_cases hlt : a < b
        · rw [if_pos hlt]
          go_enter Try.func8, Try.ntmps8
          go_wp2_with fail
          refine (inInts_is a true _ Ha.out).mono ?_
          rintro e w' ⟨rfl, rfl⟩
          go_wp2_with fail
          refine (inInts_is b true _ Hb.out).mono ?_
          rintro e w' ⟨rfl, rfl⟩
          go_wp2_with fail
          go_ret
          exact ⟨rfl, rfl⟩
        · rw [if_neg hlt]
          go_enter Try.func8, Try.ntmps8
          go_wp2_with fail
          refine (inInts_is a true _ Ha.out).mono ?_
          rintro e w' ⟨rfl, rfl⟩
          go_wp2_with fail
          refine (inInts_is b true _ Hb.out).mono ?_
          rintro e w' ⟨rfl, rfl⟩
          go_wp2_with fail
          go_ret
          exact ⟨rfl, rfl⟩
      · rw [primI_other h1 h2 h3 h4]
        have g1 : (op == 1) = false := by simp [h1]
        have g2 : (op == 2) = false := by simp [h2]
        have g3 : (op == 3) = false := by simp [h3]
        have g4 : (op == 4) = false := by simp [h4]
        clear h1 h2 h3 h4
        go_enter Try.func8, Try.ntmps8
        go_wp2_with fail
        refine (inInts_is a true _ Ha.out).mono ?_
        rintro e w' ⟨rfl, rfl⟩
        go_wp2_with fail
        refine (inInts_is b true _ Hb.out).mono ?_
        rintro e w' ⟨rfl, rfl⟩
        go_wp2_with fail
        go_ret
        exact ⟨rfl, rfl⟩
    · have hb' := Bool.eq_false_iff.2 hb
      rw [primV_out (.inr hb')]
      clear hb
      have Ha := Lib.hid ha
      have Hb := Lib.hid hb'
      clear ha hb'
      go_enter Try.func8, Try.ntmps8
      go_wp2_with fail
      refine (inInts_is a true _ Ha.out).mono ?_
      rintro e w' ⟨rfl, rfl⟩
      go_wp2_with fail
      refine (inInts_is b false _ Hb.out).mono ?_
      rintro e w' ⟨rfl, rfl⟩
      go_wp2_with fail
      go_ret
      exact ⟨rfl, rfl⟩
  · have ha' := Bool.eq_false_iff.2 ha
    rw [primV_out (.inl ha')]
    clear ha
    have Ha := Lib.hid ha'
    clear ha'
    go_enter Try.func8, Try.ntmps8
    go_wp2_with fail
    refine (inInts_is a false _ Ha.out).mono ?_
    rintro e w' ⟨rfl, rfl⟩
    go_wp2_with fail
    go_ret
    exact ⟨rfl, rfl⟩
set_option maxHeartbeats 800000 in
theorem sPrimIn_any (op a b : Int) (w : World) (ha : -999 ≤ a ∧ a ≤ 999) (hb : -999 ≤ b ∧ b ≤ 999) : Calls Try.prog 16 #[.int .i64 op, .int .i64 a, .int .i64 b] w fun e w' => e = .returned (.int .i64 (primI op a b)) ∧ w = w' := by
  obtain ⟨lm, um⟩ := mul_bound ha hb
  obtain ⟨la, ua⟩ := ha
  obtain ⟨lb, ub⟩ := hb
  by_cases h1 : op = 1
  · subst h1
    rw [primI_1]
    go_enter Try.func16, Try.ntmps16
    go_wp2_with fail
    refine (sClamp_any (a + b) _).mono ?_
    rintro e w' ⟨rfl, rfl⟩
    go_wp2_with fail
    go_ret
    exact ⟨rfl, rfl⟩
  by_cases h2 : op = 2
  · subst h2
    rw [primI_2]
    go_enter Try.func16, Try.ntmps16
    go_wp2_with fail
    refine (sClamp_any (a - b) _).mono ?_
    rintro e w' ⟨rfl, rfl⟩
    go_wp2_with fail
    go_ret
    exact ⟨rfl, rfl⟩
  by_cases h3 : op = 3
  · subst h3
    rw [primI_3]
    go_enter Try.func16, Try.ntmps16
    go_wp2_with fail
    refine (sClamp_any (a * b) _).mono ?_
    rintro e w' ⟨rfl, rfl⟩
    go_wp2_with fail
    go_ret
    exact ⟨rfl, rfl⟩
  by_cases h4 : op = 4
  · subst h4
    rw [primI_4]
    by_cases hlt : a < b
    · rw [if_pos hlt]
      go_enter Try.func16, Try.ntmps16
      go_wp2_with fail
      go_ret
      exact ⟨rfl, rfl⟩
    · rw [if_neg hlt]
      go_enter Try.func16, Try.ntmps16
      go_wp2_with fail
      go_ret
      exact ⟨rfl, rfl⟩
  · rw [primI_other h1 h2 h3 h4]
    have g1 : (op == 1) = false := by simp [h1]
    have g2 : (op == 2) = false := by simp [h2]
    have g3 : (op == 3) = false := by simp [h3]
    have g4 : (op == 4) = false := by simp [h4]
    clear h1 h2 h3 h4
    go_enter Try.func16, Try.ntmps16
    go_wp2_with fail
    go_ret
    exact ⟨rfl, rfl⟩
set_option maxHeartbeats 800000 in
theorem sPrim_any (op a b : Int) (w : World) : Calls Try.prog 9 #[.int .i64 op, .int .i64 a, .int .i64 b] w fun e w' => e = .returned (.int .i64 (primV op a b)) ∧ w = w' := by
  by_cases ha : inB a = true
  · by_cases hb : inB b = true
    · rw [primV_in ha hb]
      have Ha := Lib.hid ha
      have Hb := Lib.hid hb
      clear ha hb
      go_enter Try.func9, Try.ntmps9
      go_wp2_with fail
      refine (sInInts_is a true _ Ha.out).mono ?_
      rintro e w' ⟨rfl, rfl⟩
      go_wp2_with fail
      refine (sInInts_is b true _ Hb.out).mono ?_
      rintro e w' ⟨rfl, rfl⟩
      go_wp2_with fail
      refine (sPrimIn_any op a b _ (inB_iff.1 Ha.out) (inB_iff.1 Hb.out)).mono ?_
      rintro e w' ⟨rfl, rfl⟩
      go_wp2_with fail
      go_ret
      exact ⟨rfl, rfl⟩
    · have hb' := Bool.eq_false_iff.2 hb
      rw [primV_out (.inr hb')]
      clear hb
      have Ha := Lib.hid ha
      have Hb := Lib.hid hb'
      clear ha hb'
      go_enter Try.func9, Try.ntmps9
      go_wp2_with fail
      refine (sInInts_is a true _ Ha.out).mono ?_
      rintro e w' ⟨rfl, rfl⟩
      go_wp2_with fail
      refine (sInInts_is b false _ Hb.out).mono ?_
      rintro e w' ⟨rfl, rfl⟩
      go_wp2_with fail
      go_ret
      exact ⟨rfl, rfl⟩
  · have ha' := Bool.eq_false_iff.2 ha
    rw [primV_out (.inl ha')]
    clear ha
    have Ha := Lib.hid ha'
    clear ha'
    go_enter Try.func9, Try.ntmps9
    go_wp2_with fail
    refine (sInInts_is a false _ Ha.out).mono ?_
    rintro e w' ⟨rfl, rfl⟩
    go_wp2_with fail
    go_ret
    exact ⟨rfl, rfl⟩
theorem prim_is (op a b x : Int) (w : World) (h : primV op a b = x) : Calls Try.prog 8 #[.int .i64 op, .int .i64 a, .int .i64 b] w fun e w' => e = .returned (.int .i64 x) ∧ w = w' := by
  subst h; exact prim_any op a b w
theorem sPrim_is (op a b x : Int) (w : World) (h : primV op a b = x) : Calls Try.prog 9 #[.int .i64 op, .int .i64 a, .int .i64 b] w fun e w' => e = .returned (.int .i64 x) ∧ w = w' := by
  subst h; exact sPrim_any op a b w
end Go.Proofs.Ytioinpghfcabnaa
