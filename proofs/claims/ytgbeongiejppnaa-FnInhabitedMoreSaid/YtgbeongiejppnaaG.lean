/- Contracts of chapter 1: the functions that are called from outside. -/
import Derived.Test.YtgbeongiejppnaaGc
namespace Go.Proofs.Ytgbeongiejppnaa
open Go.RowKit
theorem big_of_twelve {n : Nat} (h : n ≤ 12) : n ≤ 4611686018427387904 := by omega
/-- The calls of ValidTypes, by their answer. -/
theorem validTypes_is (b : Bool) (L U : Nat) (ds : List Dec) (v : Value) (w : World) (hv : Decs w L U v ds) (hU : U ≤ w.heap.size) (h : typesOk ds = b) :
    Calls Try.prog 47 #[v] w fun e w' => e = .returned (.bool b) ∧ Below w.heap.size w w' := by
  subst h; exact validTypes_any L U ds v w hv hU
theorem sValidTypes_is (b : Bool) (L U : Nat) (ds : List Dec) (v : Value) (w : World) (hv : Decs w L U v ds) (hU : U ≤ w.heap.size) (h : typesOk ds = b) :
    Calls Try.prog 49 #[v] w fun e w' => e = .returned (.bool b) ∧ Below w.heap.size w w' := by
  subst h; exact sValidTypes_any L U ds v w hv hU
end Go.Proofs.Ytgbeongiejppnaa
