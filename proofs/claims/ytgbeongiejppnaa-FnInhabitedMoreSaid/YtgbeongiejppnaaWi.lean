/- Membership as the laws ask it. -/
import Derived.Test.YtgbeongiejppnaaGa
import Derived.Test.YtgbeongiejppnaaS0
namespace Go.Proofs.Ytgbeongiejppnaa
open Go.RowKit Go.BigFrame
def hasI (xs : List Int) (n : Int) : Bool := xs.any fun x => decide (x = n)
set_option maxHeartbeats 400000 in
theorem isIn_any (L U : Nat) (xs : List Int) (v : Value) (n : Int) (w : World) (hv : Ints w L U v xs) :
    Calls Try.prog 20 #[v, .int .i64 n] w fun e w' => e = .returned (.bool (hasI xs n)) ∧ w = w' := by
  obtain ⟨B, d, rfl, hl, hd⟩ := hv.open_
  go_enter Try.func20, Try.ntmps20
  go_wp2_with fail
  go_loop [5] (fun i => ∃ k : Nat, k ≤ xs.length ∧ i = .int .i64 k ∧ Hid ((xs.take k).any (fun x => decide (x = n)) = false)) (fun i => xs.length - (intOf i).toNat)
  case atStart => exact ⟨0, by omega, rfl, by simp [Hid]⟩
  case round =>
    obtain ⟨k, hk, rfl, H⟩ := hrel
    by_cases hlt : k < xs.length
    · obtain ⟨b, o, rfl, _, _, hc⟩ := hv.at_ hlt
      by_cases he : xs[k] = n
      · have heb : (xs[k] == n) = true := by simp [he]
        have He := Lib.hid he
        clear he
        go_wp2_with fail
        go_ret
        exact ⟨ret_bool (any_stop hlt (decide_eq_true He.out)).symm, rfl⟩
      · have heb : (xs[k] == n) = false := by simp [he]
        have He := Lib.hid he
        clear he
        go_wp2_with fail
        exact ⟨⟨k + 1, by omega, by go_num, any_step H hlt (decide_eq_false He.out)⟩, by simp [intOf]; omega⟩
    · go_wp2_with fail
      go_ret
      exact ⟨ret_bool (any_done H hlt).symm, rfl⟩
theorem isIn_is (b : Bool) (L U : Nat) (xs : List Int) (v : Value) (n : Int) (w : World) (hv : Ints w L U v xs) (h : hasI xs n = b) :
    Calls Try.prog 20 #[v, .int .i64 n] w fun e w' => e = .returned (.bool b) ∧ w = w' := by
  subst h; exact isIn_any L U xs v n w hv
end Go.Proofs.Ytgbeongiejppnaa
