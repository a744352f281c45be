/- Contracts of chapter 1: lists of types, constructors, arrow types, counts. -/
import Derived.Test.YtbhbefgdbfdmnaaA
namespace Go.Proofs.Ytbhbefgdbfdmnaa
open Go.RowKit
set_option maxHeartbeats 400000 in
theorem allTypes_any (A : Option Addr) (n c L U : Nat) (xs : List Int) (v : Value) (w : World) (hv : Ints w L U v xs) :
    Calls Try.prog 20 #[.slice A n c, v] w fun e w' => e = .returned (.bool (xs.all (isTy n))) ∧ w = w' := by
  obtain ⟨B, d, rfl, hl, hd⟩ := hv.open_
  go_enter Try.func20, Try.ntmps20
  go_wp2_with fail
  go_loop [5] (fun i => ∃ k : Nat, k ≤ xs.length ∧ i = .int .i64 k ∧ Hid ((xs.take k).all (isTy n) = true)) (fun i => xs.length - (intOf i).toNat)
  case atStart => exact ⟨0, by omega, rfl, by simp [Hid]⟩
  case round =>
    obtain ⟨k, hk, rfl, H⟩ := hrel
    by_cases hlt : k < xs.length
    · obtain ⟨b, o, rfl, _, _, hc⟩ := hv.at_ hlt
      go_wp2_with (go_at_call 21; refine (inRange_any _ _ _ _).mono ?_; rintro e w' ⟨rfl, rfl⟩)
      · go_ret
        exact ⟨ret_bool (all_stop hlt (isTy_no ‹_›)).symm, rfl⟩
      · exact ⟨⟨k + 1, by omega, by go_num, all_step H hlt (isTy_yes ‹_›)⟩, by simp [intOf]; omega⟩
    · go_wp2_with fail
      go_ret
      exact ⟨ret_bool (all_done H hlt).symm, rfl⟩
set_option maxHeartbeats 400000 in
theorem validCons_any (A : Option Addr) (n c L U : Nat) (xs : List (List Int)) (v : Value) (w : World) (hn : n ≤ maxLen) (hv : Cons w L U v xs) (hU : U ≤ w.heap.size) :
    Calls Try.prog 15 #[.slice A n c, v] w fun e w' => e = .returned (.bool (consOk n xs)) ∧ Below w.heap.size w w' := by
  obtain ⟨B, d, rfl, hl, hd⟩ := hv.open_
  by_cases h3 : xs.length ≤ 3
  · go_enter Try.func15, Try.ntmps15
    go_wp2_with fail
    go_loopw [12] (fun i wr => ∃ k : Nat, k ≤ xs.length ∧ i = .int .i64 k ∧ Hid ((xs.take k).all (fun c => decide (c.length ≤ 3) && c.all (isTy n)) = true) ∧ Below w.heap.size w wr) (fun i _ => xs.length - (intOf i).toNat)
    case atStart => exact ⟨0, by omega, rfl, by simp [Hid], Below.refl _ _⟩
    case round =>
      obtain ⟨k, hk, rfl, H, hB⟩ := hrel
      have hz := hB.size
      by_cases hlt : k < xs.length
      · obtain ⟨b, o, A', c', rfl, _, _, hc, hu⟩ := (hv.keep (Same.of_below hB hU)).at_ hlt
        have hB1 := hB.alloc hz (.cells #[.slice A' (xs[k]).length c'] 38)
        have hu1 := hu.keep (Same.of_below (Below.alloc (Below.refl _ _) (Nat.le_refl _) (.cells #[.slice A' (xs[k]).length c'] 38)) (by omega))
        clear hu hv
        by_cases hk3 : (xs[k]).length ≤ 3
        · go_wp2_with (go_at_call 19; refine (areTypes_any _ _ _ _ _ _ _ _ hn hu1).mono ?_; rintro e w' ⟨rfl, rfl⟩)
          · go_ret
            exact ⟨ret_bool (by rw [consOk, all_stop hlt (con_no (by assumption)), Bool.and_false]), hB1⟩
          · go_roundw
            case rel => exact ⟨k + 1, by omega, by go_num, all_step H hlt (con_yes (by assumption)), hB1⟩
            case measure => simp [intOf]; omega
        · go_wp2_with fail
          go_ret
          exact ⟨ret_bool (by rw [consOk, all_stop hlt (by simp [hk3]), Bool.and_false]), hB1⟩
      · go_wp2_with fail
        go_ret
        exact ⟨ret_bool (by rw [consOk, all_done H hlt]; simp [h3]), hB⟩
  · go_enter Try.func15, Try.ntmps15
    go_wp2_with fail
    go_ret
    exact ⟨ret_bool (by simp [consOk, h3]), Below.refl _ _⟩
set_option maxHeartbeats 400000 in
theorem arrowBetween_any (f t : Int) (L U : Nat) (ds : List Dec) (v : Value) (w : World) (hv : Decs w L U v ds) (hU : U ≤ w.heap.size) :
    Calls Try.prog 17 #[v, .int .i64 f, .int .i64 t] w fun e w' => e = .returned (.int .i64 (seek ds.length fun k => isArr f t (nthD ds k))) ∧ Below w.heap.size w w' := by
  obtain ⟨B, d, rfl, hl, hd⟩ := hv.open_
  go_enter Try.func17, Try.ntmps17
  go_wp2_with fail
  go_loopw [11] (fun i wr => ∃ k : Nat, k ≤ ds.length ∧ i = .int .i64 k ∧ Hid (∀ j, j < k → isArr f t (nthD ds j) = false) ∧ Below w.heap.size w wr) (fun i _ => ds.length - (intOf i).toNat)
  case atStart => exact ⟨0, by omega, rfl, before_zero, Below.refl _ _⟩
  case round =>
    obtain ⟨k, hk, rfl, H, hB⟩ := hrel
    have hz := hB.size
    by_cases hlt : k < ds.length
    · obtain ⟨b, o, A', c', rfl, _, _, hc0, hc1, hc2, hu⟩ := (hv.keep (Same.of_below hB hU)).at_ hlt
      clear hu hv
      go_wp2_with fail
      · go_ret
        exact ⟨ret_int (seek_hit H hlt (isArr_yes ‹_› ‹_› ‹_›)).symm, hB.alloc hz _⟩
      · go_roundw
        case rel => exact ⟨k + 1, by omega, by go_num, before_step H (isArr_no fun _ _ => ‹_›), hB.alloc hz _⟩
        case measure => simp [intOf]; omega
      · go_roundw
        case rel => exact ⟨k + 1, by omega, by go_num, before_step H (isArr_no fun _ h => absurd h ‹_›), hB.alloc hz _⟩
        case measure => simp [intOf]; omega
      · go_roundw
        case rel => exact ⟨k + 1, by omega, by go_num, before_step H (isArr_no fun h => absurd h ‹_›), hB.alloc hz _⟩
        case measure => simp [intOf]; omega
    · go_wp2_with fail
      go_ret
      exact ⟨ret_int (seek_none H hlt).symm, hB⟩
end Go.Proofs.Ytbhbefgdbfdmnaa