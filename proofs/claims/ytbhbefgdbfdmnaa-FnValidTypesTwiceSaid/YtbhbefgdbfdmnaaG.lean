/- Contracts of chapter 1: the functions that are called from outside. -/
import Derived.Test.YtbhbefgdbfdmnaaF
namespace Go.Proofs.Ytbhbefgdbfdmnaa
open Go.RowKit
theorem big_of_twelve {n : Nat} (h : n ≤ 12) : n ≤ 4611686018427387904 := by omega
/-- The calls of ValidTypes, by their answer. -/
theorem validTypes_is (b : Bool) (L U : Nat) (ds : List Dec) (v : Value) (w : World) (hv : Decs w L U v ds) (hU : U ≤ w.heap.size) (h : typesOk ds = b) :
    Calls Try.prog 5 #[v] w fun e w' => e = .returned (.bool b) ∧ Below w.heap.size w w' := by
  subst h; exact validTypes_any L U ds v w hv hU
theorem sValidTypes_is (b : Bool) (L U : Nat) (ds : List Dec) (v : Value) (w : World) (hv : Decs w L U v ds) (hU : U ≤ w.heap.size) (h : typesOk ds = b) :
    Calls Try.prog 10 #[v] w fun e w' => e = .returned (.bool b) ∧ Below w.heap.size w w' := by
  subst h; exact sValidTypes_any L U ds v w hv hU
set_option maxHeartbeats 400000 in
theorem sValidTypesTop (L U : Nat) (ds : List Dec) (v : Value) (w : World) (hv : Decs w L U v ds) (hU : U ≤ w.heap.size) :
    Calls Try.prog 6 #[v] w fun e w' => e = .returned (.bool (typesOk ds)) ∧ Below w.heap.size w w' := by
  go_enter Try.func6, Try.ntmps6
  go_wp2_with (go_at_call 10; refine (sValidTypes_any _ _ _ _ _ hv hU).mono ?_; rintro e w' ⟨rfl, hB⟩)
  go_ret
  exact ⟨rfl, hB⟩
end Go.Proofs.Ytbhbefgdbfdmnaa