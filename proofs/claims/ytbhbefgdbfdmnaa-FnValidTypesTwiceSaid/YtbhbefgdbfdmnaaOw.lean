/- A row of ints that the call owns. -/
import Derived.Test.YtbhbefgdbfdmnaaA0
namespace Go.Proofs.Ytbhbefgdbfdmnaa
open Go.RowKit
def Own (w : World) (base : Nat) (u : Value) (xs : List Int) : Prop := w.ownsRow base 3 1 u xs.length (xs.map (Value.int .i64))
theorem Own.of {w : World} {base n : Nat} {u : Value} {xs : List Int} (h : w.ownsRow base 3 1 u n (xs.map (Value.int .i64))) : Own w base u xs := by
  have hn : n = xs.length := by have := h.1; simp at this; exact this.symm
  subst hn; exact h
theorem Own.nil (w : World) (base : Nat) : Own w base (.slice none 0 0) [] := World.ownsRow_nil _ _ _ _
theorem Own.wide {w : World} {base base' : Nat} {u : Value} {xs : List Int} (h : Own w base u xs) (hb : base' ≤ base) : Own w base' u xs := by
  refine ⟨h.1, h.2.imp id fun ⟨g, cap, cur, e, h1, h2⟩ => ⟨g, cap, cur, e, by omega, h2⟩⟩
theorem Own.ints {w : World} {base : Nat} {u : Value} {xs : List Int} (h : Own w base u xs) : Ints w base w.heap.size u xs := ints_of_own h
theorem Own.keep {w w' : World} {base : Nat} {u : Value} {xs : List Int} (h : Own w base u xs) (s : Same base w.heap.size w w') : Own w' base u xs := by
  refine ⟨h.1, h.2.imp id fun ⟨g, cap, cur, e, h1, h2, h3⟩ => ⟨g, cap, cur, e, h1, (s g h1 ?_).trans h2, h3⟩⟩
  exact (Array.getElem?_eq_some_iff.1 h2).1
end Go.Proofs.Ytbhbefgdbfdmnaa
