/- Contracts of chapter 1: inhabited types, as the model finds them. -/
import Derived.Test.YtihmkaodjpgikaaGreatJ1
namespace Go.Proofs.YtihmkaodjpgikaaGreat
open Go.RowKit Go.BigFrame
set_option maxHeartbeats 400000 in
theorem sIsIn_any (L U : Nat) (xs : List Int) (v : Value) (n : Int) (w : World) (hv : Ints w L U v xs) :
    Calls Tryz.prog 32 #[v, .int .i64 n] w fun e w' => e = .returned (.bool (memI xs n)) ∧ w = w' := by
  obtain ⟨B, d, rfl, hl, hd⟩ := hv.open_
  go_enter Tryz.func32, Tryz.ntmps32
  go_wp2_with fail
  go_loop [5] (fun i => ∃ k : Nat, k ≤ xs.length ∧ i = .int .i64 k ∧ Hid ((xs.take k).any (fun x => decide (x = n)) = false)) (fun i => xs.length - (intOf i).toNat)
  case atStart => exact ⟨0, by omega, rfl, by simp [Hid]⟩
  case round =>
    obtain ⟨k, hk, rfl, H⟩ := hrel
    by_cases hlt : k < xs.length
    · obtain ⟨b, o, rfl, _, _, hc⟩ := hv.at_ hlt
      by_cases he : xs[k] = n
      · have heb : (xs[k] == n) = true := by simp [he]
        have He := Lib.hid he
        clear he
        go_wp2_with fail
        go_ret
        exact ⟨ret_bool (any_stop hlt (decide_eq_true He.out)).symm, rfl⟩
      · have heb : (xs[k] == n) = false := by simp [he]
        have He := Lib.hid he
        clear he
        go_wp2_with fail
        exact ⟨⟨k + 1, by omega, by go_num, any_step H hlt (decide_eq_false He.out)⟩, by simp [intOf]; omega⟩
    · go_wp2_with fail
      go_ret
      exact ⟨ret_bool (any_done H hlt).symm, rfl⟩
theorem sIsIn_is (b : Bool) (L U : Nat) (xs : List Int) (v : Value) (n : Int) (w : World) (hv : Ints w L U v xs) (h : memI xs n = b) :
    Calls Tryz.prog 32 #[v, .int .i64 n] w fun e w' => e = .returned (.bool b) ∧ w = w' := by
  subst h; exact sIsIn_any L U xs v n w hv
end Go.Proofs.YtihmkaodjpgikaaGreat
