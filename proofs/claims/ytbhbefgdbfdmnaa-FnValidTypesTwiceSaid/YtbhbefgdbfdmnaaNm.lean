/- A world by its name; the block that was laid last. -/
import Derived.Test.YtbhbefgdbfdmnaaLib
namespace Go.Proofs.Ytbhbefgdbfdmnaa
open Go.RowKit
theorem named {P : Program} {f : FuncId} {args : Array Value} {W : World} {R : Ending → World → Prop} (h : ∀ W', W' = W → Calls P f args W' R) : Calls P f args W R := h W rfl
theorem alloc_at (w : World) (o : Obj) (k : Nat) : (w.alloc o).heap[k]? = if k = w.heap.size then some o else w.heap[k]? := by
  show (w.heap.push o)[k]? = _
  rw [Array.getElem?_push]
theorem alloc_last (w : World) (o : Obj) (k : Nat) (h : k = w.heap.size) : (w.alloc o).heap[k]? = some o := by rw [alloc_at, if_pos h]
/-- What is left. -/
def leftV (left n : Nat) : Int := if n ≤ left then (left : Int) - (n : Int) else -1
end Go.Proofs.Ytbhbefgdbfdmnaa
