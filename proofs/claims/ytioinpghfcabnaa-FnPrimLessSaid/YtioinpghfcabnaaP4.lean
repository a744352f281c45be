/- The walks of the laws of Prim. -/
import Derived.Test.YtioinpghfcabnaaP3
namespace Go.Proofs.Ytioinpghfcabnaa
open Go.RowKit Go.BigFrame
theorem primV_add_comm (a b : Int) : primV 1 b a = primV 1 a b := by unfold primV primI; simp only [if_true]; rw [Int.add_comm b a]; by_cases ha : inB a = true <;> by_cases hb : inB b = true <;> simp [ha, hb]
theorem primV_mul_comm (a b : Int) : primV 3 b a = primV 3 a b := by unfold primV primI; simp only [if_true]; rw [Int.mul_comm b a]; by_cases ha : inB a = true <;> by_cases hb : inB b = true <;> simp [ha, hb]
theorem clampI_neg (n : Int) : clampI (-n) = - clampI n := by unfold clampI; repeat' split <;> omega
theorem clampI_same {n : Int} (h1 : -999 ≤ n) (h2 : n ≤ 999) : clampI n = n := clampI_in (by omega) (by omega)
theorem in_of {n : Int} (h1 : -999 ≤ n) (h2 : n ≤ 999) : inB n = true := inB_iff.2 ⟨h1, h2⟩
set_option maxHeartbeats 800000 in
theorem fnPrim_walk (A : Option Addr) (n c : Nat) (w : World) (h : Code_ w A n c) :
    Calls Try.prog 3 #[.slice A n c] w fun e w' => e = .returned (.bool true) ∧ Below w.heap.size w w' := by
  by_cases hbig : 1048576 < n
  · go_enter Try.func3, Try.ntmps3
    go_wp2_with fail
    go_ret
    exact ⟨rfl, Below.refl _ _⟩
  · have Hc := Lib.hid h
    clear h
    go_enter Try.func3, Try.ntmps3
    go_wp2_with fail
    refine (drawPrim A n c w Hc.out).mono ?_
    rintro e w1 ⟨op, a, b, rfl, ⟨ho1, ho2⟩, ⟨ha1, ha2⟩, ⟨hb1, hb2⟩, hB⟩
    have HB := Lib.hid hB
    obtain ⟨x, hx⟩ : ∃ x, primV op a b = x := ⟨_, rfl⟩
    obtain ⟨hx1, hx2⟩ := primV_range op a b
    rw [hx] at hx1 hx2
    have Hx := Lib.hid hx
    clear hx hB Hc
    go_wp2_with fail
    refine (prim_is op a b x w1 Hx.out).mono ?_
    rintro e w2 ⟨rfl, rfl⟩
    go_wp2_with fail
    refine (sPrim_is op a b x w1 Hx.out).mono ?_
    rintro e w2 ⟨rfl, rfl⟩
    obtain ⟨y, hy⟩ : ∃ y, primV 1 a b = y := ⟨_, rfl⟩
    have Hy := Lib.hid hy
    have Hy2 := Lib.hid ((primV_add_comm a b).trans hy)
    obtain ⟨z, hz⟩ : ∃ z, primV 3 a b = z := ⟨_, rfl⟩
    have Hz := Lib.hid hz
    have Hz2 := Lib.hid ((primV_mul_comm a b).trans hz)
    have H11 : Hid (primV 1 1 1 = 2) := Lib.hid (by decide)
    clear hy hz
    go_wp2_with fail
    refine (prim_is 1 a b y w1 Hy.out).mono ?_
    rintro e w2 ⟨rfl, rfl⟩
    go_wp2_with fail
    refine (prim_is 1 b a y w1 Hy2.out).mono ?_
    rintro e w2 ⟨rfl, rfl⟩
    go_wp2_with fail
    refine (prim_is 3 a b z w1 Hz.out).mono ?_
    rintro e w2 ⟨rfl, rfl⟩
    go_wp2_with fail
    refine (prim_is 3 b a z w1 Hz2.out).mono ?_
    rintro e w2 ⟨rfl, rfl⟩
    go_wp2_with fail
    refine (prim_is 1 1 1 2 w1 H11.out).mono ?_
    rintro e w2 ⟨rfl, rfl⟩
    go_wp2_with fail
    go_ret
    exact ⟨rfl, HB.out⟩
set_option maxHeartbeats 800000 in
theorem fnPrimSub_walk (A : Option Addr) (n c : Nat) (w : World) (h : Code_ w A n c) :
    Calls Try.prog 4 #[.slice A n c] w fun e w' => e = .returned (.bool true) ∧ Below w.heap.size w w' := by
  by_cases hbig : 1048576 < n
  · go_enter Try.func4, Try.ntmps4
    go_wp2_with fail
    go_ret
    exact ⟨rfl, Below.refl _ _⟩
  · have Hc := Lib.hid h
    clear h
    go_enter Try.func4, Try.ntmps4
    go_wp2_with fail
    refine (drawPrim A n c w Hc.out).mono ?_
    rintro e w1 ⟨op, a, b, rfl, ⟨ho1, ho2⟩, ⟨ha1, ha2⟩, ⟨hb1, hb2⟩, hB⟩
    have HB := Lib.hid hB
    obtain ⟨x, hx⟩ : ∃ x, primV op a b = x := ⟨_, rfl⟩
    obtain ⟨hx1, hx2⟩ := primV_range op a b
    rw [hx] at hx1 hx2
    have Hx := Lib.hid hx
    clear hx hB Hc
    go_wp2_with fail
    refine (prim_is op a b x w1 Hx.out).mono ?_
    rintro e w2 ⟨rfl, rfl⟩
    go_wp2_with fail
    refine (sPrim_is op a b x w1 Hx.out).mono ?_
    rintro e w2 ⟨rfl, rfl⟩
    by_cases hin : (-999 ≤ a ∧ a ≤ 999) ∧ (-999 ≤ b ∧ b ≤ 999)
    · obtain ⟨⟨la, ua⟩, ⟨lb, ub⟩⟩ := hin
      have ia := in_of la ua
      have ib := in_of lb ub
      obtain ⟨y, hy⟩ : ∃ y, clampI (a - b) = y := ⟨_, rfl⟩
      obtain ⟨hy1, hy2⟩ := clampI_range (a - b)
      rw [hy] at hy1 hy2
      have e1 : primV 2 a b = y := by rw [primV_in ia ib, primI_2, hy]
      have e2 : primV 2 b a = -y := by rw [primV_in ib ia, primI_2, ← hy, ← clampI_neg]; congr 1; omega
      have e3 : primV 1 a 0 = a := by rw [primV_in ia (by decide), primI_1, Int.add_zero, clampI_same la ua]
      have e4 : primV 3 b 1 = b := by rw [primV_in ib (by decide), primI_3, Int.mul_one, clampI_same lb ub]
      have E1 := Lib.hid e1
      have E2 := Lib.hid e2
      have E3 := Lib.hid e3
      have E4 := Lib.hid e4
      clear e1 e2 e3 e4 hy ia ib
      go_wp2_with fail
      refine (prim_is 2 a b y w1 E1.out).mono ?_
      rintro e w2 ⟨rfl, rfl⟩
      go_wp2_with fail
      refine (prim_is 2 b a (-y) w1 E2.out).mono ?_
      rintro e w2 ⟨rfl, rfl⟩
      go_wp2_with fail
      refine (prim_is 1 a 0 a w1 E3.out).mono ?_
      rintro e w2 ⟨rfl, rfl⟩
      go_wp2_with fail
      refine (prim_is 3 b 1 b w1 E4.out).mono ?_
      rintro e w2 ⟨rfl, rfl⟩
      go_wp2_with fail
      go_ret
      exact ⟨rfl, HB.out⟩
    · by_cases h1 : a < -999
      · go_wp2_with fail
        refine (sPrim_is op a b x w1 Hx.out).mono ?_
        rintro e w2 ⟨rfl, rfl⟩
        go_wp2_with fail
        go_ret
        exact ⟨rfl, HB.out⟩
      · by_cases h2 : 999 < a
        · go_wp2_with fail
          refine (sPrim_is op a b x w1 Hx.out).mono ?_
          rintro e w2 ⟨rfl, rfl⟩
          go_wp2_with fail
          go_ret
          exact ⟨rfl, HB.out⟩
        · by_cases h3 : b < -999
          · go_wp2_with fail
            refine (sPrim_is op a b x w1 Hx.out).mono ?_
            rintro e w2 ⟨rfl, rfl⟩
            go_wp2_with fail
            go_ret
            exact ⟨rfl, HB.out⟩
          · have h4 : 999 < b := by omega
            go_wp2_with fail
            refine (sPrim_is op a b x w1 Hx.out).mono ?_
            rintro e w2 ⟨rfl, rfl⟩
            go_wp2_with fail
            go_ret
            exact ⟨rfl, HB.out⟩
set_option maxHeartbeats 800000 in
theorem fnPrimLess_walk (A : Option Addr) (n c : Nat) (w : World) (h : Code_ w A n c) :
    Calls Try.prog 5 #[.slice A n c] w fun e w' => e = .returned (.bool true) ∧ Below w.heap.size w w' := by
  by_cases hbig : 1048576 < n
  · go_enter Try.func5, Try.ntmps5
    go_wp2_with fail
    go_ret
    exact ⟨rfl, Below.refl _ _⟩
  · have Hc := Lib.hid h
    clear h
    go_enter Try.func5, Try.ntmps5
    go_wp2_with fail
    refine (drawPrim A n c w Hc.out).mono ?_
    rintro e w1 ⟨op, a, b, rfl, ⟨ho1, ho2⟩, ⟨ha1, ha2⟩, ⟨hb1, hb2⟩, hB⟩
    have HB := Lib.hid hB
    obtain ⟨x, hx⟩ : ∃ x, primV op a b = x := ⟨_, rfl⟩
    obtain ⟨hx1, hx2⟩ := primV_range op a b
    rw [hx] at hx1 hx2
    have Hx := Lib.hid hx
    clear hx hB Hc
    go_wp2_with fail
    refine (prim_is op a b x w1 Hx.out).mono ?_
    rintro e w2 ⟨rfl, rfl⟩
    go_wp2_with fail
    refine (sPrim_is op a b x w1 Hx.out).mono ?_
    rintro e w2 ⟨rfl, rfl⟩
    by_cases hin : (-999 ≤ a ∧ a ≤ 999) ∧ (-999 ≤ b ∧ b ≤ 999)
    · obtain ⟨⟨la, ua⟩, ⟨lb, ub⟩⟩ := hin
      have ia := in_of la ua
      have ib := in_of lb ub
      have e3 : primV 4 a a = 0 := by rw [primV_in ia ia, primI_4, if_neg (by omega)]
      have e4 : primV 4 0 1 = 1 := by decide
      have E3 := Lib.hid e3
      have E4 := Lib.hid e4
      clear e3 e4
      rcases Int.lt_trichotomy a b with hlt | heq | hgt
      · have E1 : Hid (primV 4 a b = 1) := Lib.hid (by rw [primV_in ia ib, primI_4, if_pos hlt])
        have E2 : Hid (primV 4 b a = 0) := Lib.hid (by rw [primV_in ib ia, primI_4, if_neg (by omega)])
        have hne : (a == b) = false := by rw [beq_eq_false_iff_ne]; omega
        have hne2 : (a != b) = true := by simp [bne, hne]
        clear ia ib
        go_wp2_with fail
        refine (prim_is 4 a b 1 w1 E1.out).mono ?_
        rintro e w2 ⟨rfl, rfl⟩
        go_wp2_with fail
        refine (prim_is 4 b a 0 w1 E2.out).mono ?_
        rintro e w2 ⟨rfl, rfl⟩
        go_wp2_with fail
        refine (prim_is 4 a a 0 w1 E3.out).mono ?_
        rintro e w2 ⟨rfl, rfl⟩
        go_wp2_with fail
        refine (prim_is 4 0 1 1 w1 E4.out).mono ?_
        rintro e w2 ⟨rfl, rfl⟩
        go_wp2_with fail
        go_ret
        exact ⟨rfl, HB.out⟩
      · subst heq
        have E1 : Hid (primV 4 a a = 0) := E3
        have E2 : Hid (primV 4 a a = 0) := E3
        clear ia ib
        go_wp2_with fail
        refine (prim_is 4 a a 0 w1 E1.out).mono ?_
        rintro e w2 ⟨rfl, rfl⟩
        go_wp2_with fail
        refine (prim_is 4 a a 0 w1 E2.out).mono ?_
        rintro e w2 ⟨rfl, rfl⟩
        go_wp2_with fail
        refine (prim_is 4 a a 0 w1 E3.out).mono ?_
        rintro e w2 ⟨rfl, rfl⟩
        go_wp2_with fail
        refine (prim_is 4 0 1 1 w1 E4.out).mono ?_
        rintro e w2 ⟨rfl, rfl⟩
        go_wp2_with fail
        go_ret
        exact ⟨rfl, HB.out⟩
      · have E1 : Hid (primV 4 a b = 0) := Lib.hid (by rw [primV_in ia ib, primI_4, if_neg (by omega)])
        have E2 : Hid (primV 4 b a = 1) := Lib.hid (by rw [primV_in ib ia, primI_4, if_pos hgt])
        have hne : (a == b) = false := by rw [beq_eq_false_iff_ne]; omega
        have hne2 : (a != b) = true := by simp [bne, hne]
        clear ia ib
        go_wp2_with fail
        refine (prim_is 4 a b 0 w1 E1.out).mono ?_
        rintro e w2 ⟨rfl, rfl⟩
        go_wp2_with fail
        refine (prim_is 4 b a 1 w1 E2.out).mono ?_
        rintro e w2 ⟨rfl, rfl⟩
        go_wp2_with fail
        refine (prim_is 4 a a 0 w1 E3.out).mono ?_
        rintro e w2 ⟨rfl, rfl⟩
        go_wp2_with fail
        refine (prim_is 4 0 1 1 w1 E4.out).mono ?_
        rintro e w2 ⟨rfl, rfl⟩
        go_wp2_with fail
        go_ret
        exact ⟨rfl, HB.out⟩
    · by_cases h1 : a < -999
      · go_wp2_with fail
        refine (sPrim_is op a b x w1 Hx.out).mono ?_
        rintro e w2 ⟨rfl, rfl⟩
        go_wp2_with fail
        go_ret
        exact ⟨rfl, HB.out⟩
      · by_cases h2 : 999 < a
        · go_wp2_with fail
          refine (sPrim_is op a b x w1 Hx.out).mono ?_
          rintro e w2 ⟨rfl, rfl⟩
          go_wp2_with fail
          go_ret
          exact ⟨rfl, HB.out⟩
        · by_cases h3 : b < -999
          · go_wp2_with fail
            refine (sPrim_is op a b x w1 Hx.out).mono ?_
            rintro e w2 ⟨rfl, rfl⟩
            go_wp2_with fail
            go_ret
            exact ⟨rfl, HB.out⟩
          · have h4 : 999 < b := by omega
            go_wp2_with fail
            refine (sPrim_is op a b x w1 Hx.out).mono ?_
            rintro e w2 ⟨rfl, rfl⟩
            go_wp2_with fail
            go_ret
            exact ⟨rfl, HB.out⟩
end Go.Proofs.Ytioinpghfcabnaa
