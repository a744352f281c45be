/- Contracts of UsedFrom and UsedIn, as the program counts them. -/
import Derived.Test.YtdooageiopnhaaaU7
import Derived.Test.YtdooageiopnhaaaY3
namespace Go.Proofs.Ytdooageiopnhaaa
open Go.RowKit Go.BigFrame
theorem used_len {ss : List St} {k : Nat} {r : Int} (hz : sumS Wz ss ≤ 1048576) : (usesS (ss.drop k) ++ [r]).length ≤ 1048577 := by
  have h1 := usesS_len (ss.drop k)
  have h2 := sumS_drop Wz ss k
  simp only [List.length_append, List.length_cons, List.length_nil]
  omega
set_option maxHeartbeats 1600000 in
theorem usedFrom_any {w : World} {L U : Nat} {u : Value} {ss : List St} (h : Sts w L U u ss) (res n k : Int) (hU : U ≤ w.heap.size) (hz : sumS Wz ss ≤ 1048576) :
    Calls Try.prog 15 #[.agg #[u, .int .i64 res], .int .i64 n, .int .i64 k] w fun e w' => ∃ v, e = .returned v ∧ Below w.heap.size w w' ∧ Own w' w.heap.size v (usedV n k ss res) := by
  obtain ⟨A, c, rfl, hl, hc⟩ := h.open_
  obtain ⟨W0, hW0⟩ : ∃ W0, W0 = w.alloc (.cells #[.slice A ss.length c, .int .i64 res] 30) := ⟨_, rfl⟩
  have hB0 : Below w.heap.size w W0 := by rw [hW0]; exact (Below.refl _ w).alloc (Nat.le_refl _) _
  have hz0 : w.heap.size < W0.heap.size := by rw [hW0]; simp
  have hbox : W0.heap[w.heap.size]? = some (.cells #[.slice A ss.length c, .int .i64 res] 30 (0, 0)) := by rw [hW0]; exact alloc_last _ _ _ rfl
  have h0 := h.keep (Same.of_below hB0 hU)
  have HX := Lib.hid hbox
  have HN := Lib.hid (stepsTop h0 res (by omega))
  have hl0 := sumS_len' ss
  obtain ⟨q0, q1⟩ := two hbox
  clear hbox
  have hU0 : U ≤ W0.heap.size := by omega
  by_cases g0 : k < 0
  · rw [show usedV n k ss res = [] by unfold usedV; rw [if_neg (by omega)]]
    clear HX HN h h0 hl0 hU hz
    go_enter Try.func15, Try.ntmps15
    go_wp2_with fail
    rw [← hW0]
    go_ret
    exact ⟨_, rfl, hB0, Own.nil _ _⟩
  · obtain ⟨k, rfl⟩ := Int.eq_ofNat_of_zero_le (show 0 ≤ k by omega)
    by_cases g1 : (ss.length : Int) < (k : Int)
    · rw [show usedV n k ss res = [] by unfold usedV; rw [if_neg (by omega)]]
      clear HX HN h h0 hl0 hU hz
      go_enter Try.func15, Try.ntmps15
      go_wp2_with fail
      rw [← hW0]
      go_ret
      exact ⟨_, rfl, hB0, Own.nil _ _⟩
    · by_cases h30 : sumS W1 ss ≤ 600
      · obtain ⟨x, hx⟩ : ∃ x : Nat, stepsOfV ss = (x : Int) := ⟨sumS W1 ss, by unfold stepsOfV; rw [if_pos h30]⟩
        rw [hx] at HN
        have hV : usedV n k ss res = setL n [] (usesS (ss.drop k) ++ [res]) := by
          unfold usedV; rw [if_pos ⟨by omega, by omega, h30⟩]; rfl
        rw [hV]
        have HM := Lib.hid fun (W : World) (hB : Below W0.heap.size W0 W) => allUses_any h0 res k W.heap.size [] (.slice none 0 0) W (Same.of_below hB hU0) (by have := hB.size; omega) (Nat.le_refl _) (Own.nil _ _) (by omega) (by show 0 + _ ≤ _; omega)
        have HL := Lib.hid (used_len (k := k) (r := res) hz)
        obtain ⟨xs, hxs⟩ : ∃ xs, usesS (ss.drop k) ++ [res] = xs := ⟨_, rfl⟩
        rw [hxs] at HM HL ⊢
        clear hx hV h30 hxs h h0 hl0 hz hU
        go_enter Try.func15, Try.ntmps15
        go_wp2_with fail
        rw [← hW0]
        clear hW0
        refine HN.out.mono ?_
        rintro e w1 ⟨rfl, hB1⟩
        obtain ⟨q0, q1⟩ := two ((hB1.block w.heap.size hz0).trans HX.out)
        have HB := Lib.hid hB1
        clear hB1
        go_wp2_with fail
        refine (HM.out w1 HB.out).mono ?_
        rintro e w2 ⟨u2, rfl, hG2, hO2⟩
        have HH := Lib.hid (And.intro (hG2.below (Nat.le_refl _)) hO2)
        clear hG2 hO2
        go_wp2_with fail
        refine (setBelow_any n xs.length xs _ _ _ w2 (Nat.le_refl _) HH.out.2.ints (Nat.le_refl _) (by have := HL.out; omega)).mono ?_
        rintro e w3 ⟨u3, rfl, hB3, hO3⟩
        have HF := Lib.hid (And.intro hB3 hO3)
        clear hB3 hO3
        go_wp2_with fail
        go_ret
        have z1 := HB.out.size
        have z2 := HH.out.1.size
        exact ⟨_, rfl, hB0.trans ((HB.out.mono (by omega)).trans ((HH.out.1.mono (by omega)).trans (HF.out.1.mono (by omega)))), HF.out.2.wide (by omega)⟩
      · rw [show usedV n k ss res = [] by unfold usedV; rw [if_neg (by omega)]]
        rw [show stepsOfV ss = -1 by unfold stepsOfV; rw [if_neg h30]] at HN
        clear HX h h0 hl0 hU hz h30
        go_enter Try.func15, Try.ntmps15
        go_wp2_with fail
        rw [← hW0]
        clear hW0
        refine HN.out.mono ?_
        rintro e w1 ⟨rfl, hB1⟩
        have HB := Lib.hid hB1
        clear hB1
        go_wp2_with fail
        go_ret
        exact ⟨_, rfl, hB0.trans (HB.out.mono (by omega)), Own.nil _ _⟩
theorem usedIn_any {w : World} {L U : Nat} {u : Value} {ss : List St} (h : Sts w L U u ss) (res n : Int) (hU : U ≤ w.heap.size) (hz : sumS Wz ss ≤ 1048576) :
    Calls Try.prog 8 #[.agg #[u, .int .i64 res], .int .i64 n] w fun e w' => ∃ v, e = .returned v ∧ Below w.heap.size w w' ∧ Own w' w.heap.size v (usedV n 0 ss res) := by
  obtain ⟨A, c, rfl, hl, hc⟩ := h.open_
  obtain ⟨W0, hW0⟩ : ∃ W0, W0 = w.alloc (.cells #[.slice A ss.length c, .int .i64 res] 30) := ⟨_, rfl⟩
  have hB0 : Below w.heap.size w W0 := by rw [hW0]; exact (Below.refl _ w).alloc (Nat.le_refl _) _
  have hbox : W0.heap[w.heap.size]? = some (.cells #[.slice A ss.length c, .int .i64 res] 30 (0, 0)) := by rw [hW0]; exact alloc_last _ _ _ rfl
  have h0 := h.keep (Same.of_below hB0 hU)
  have HM := Lib.hid (usedFrom_any h0 res n 0 (Nat.le_trans hU hB0.size) hz)
  obtain ⟨q0, q1⟩ := two hbox
  clear h h0 hz hU hbox
  go_enter Try.func8, Try.ntmps8
  go_wp2_with fail
  rw [← hW0]
  clear hW0
  refine HM.out.mono ?_
  rintro e w1 ⟨v, rfl, hB1, hO1⟩
  have HF := Lib.hid (And.intro hB1 hO1)
  clear hB1 hO1
  go_wp2_with fail
  go_ret
  exact ⟨_, rfl, hB0.trans (HF.out.1.mono hB0.size), HF.out.2.wide hB0.size⟩
end Go.Proofs.Ytdooageiopnhaaa
