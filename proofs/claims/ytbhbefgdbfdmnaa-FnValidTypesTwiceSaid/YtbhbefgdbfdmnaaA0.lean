/- What every text of this seat imports: the walks' tactics, and small words on draws. -/
import Derived.Test.YtbhbefgdbfdmnaaProg
import Derived.Test.YtbhbefgdbfdmnaaLib
import Derived.Deep.RegionWith
import Derived.Deep.RegionHeld3
import Derived.RegionTactic
import Derived.ChangeAlike
import Derived.WalkKit
import Derived.Deep.QuietTactic
import Derived.BigQuiet
import Derived.Outline
import Derived.LoopTactic
import Derived.OwnWalk
namespace Go.Proofs.Ytbhbefgdbfdmnaa
open Go.RowKit

theorem quiet_eq {P : Program} {f : FuncId} {args : Array Value} {w : World} {n : Nat} {v : Value}
    (h : Calls P f args (w.drewN n) fun e w' => e = .returned v ∧ w.drewN n = w') : Calls P f args (w.drewN n) fun e w'' => e = .returned v ∧ ∃ m, w'' = w.drewN m :=
  h.mono fun _ _ ⟨he, hm⟩ => ⟨he, n, hm.symm⟩
theorem drewN_drew (w : World) : w.drew = w.drewN 1 := rfl
theorem same_drewN (L U : Nat) (w : World) (n : Nat) : Same L U w (w.drewN n) := fun _ _ _ => rfl
theorem same_drew (L U : Nat) (w : World) : Same L U w w.drew := fun _ _ _ => rfl
end Go.Proofs.Ytbhbefgdbfdmnaa
