/- Words for the walks of the exact laws over expressions. -/
import Derived.Test.YtmahamlfdegkkabT5
namespace Go.Proofs.Ytmahamlfdegkkab
open Go.RowKit Go.BigFrame
theorem three {W : World} {g : Nat} {T : TypeId} {a b c : Value} (h : W.heap[g]? = some (.cells #[a, b, c] T (0, 0))) : W.cell? ⟨g, 0, none⟩ = some a ∧ W.cell? ⟨g, 1, none⟩ = some b ∧ W.cell? ⟨g, 2, none⟩ = some c := by
  refine ⟨?_, ?_, ?_⟩ <;> rw [cell_of_row W g _ _ _ (0, 0) h] <;> rfl
theorem szExpr_top {w : World} {L U : Nat} {u : Value} {ks : List Ex} (h : Exs w L U u ks) (o n : Int) (hU : U ≤ w.heap.size) :
    Calls Try.prog 10 #[.agg #[.int .i64 o, .int .i64 n, u], .int .i64 1048576] w fun e w' => ∃ r : Int, e = .returned (.int .i64 r) ∧ Below w.heap.size w w' ∧ (r = -1 ∨ (0 ≤ r ∧ r ≤ 1048576 ∧ sumL one_ ks ≤ 1048576)) := by
  refine Calls.mono (szExpr_any h o n 1048576 hU (by omega)) ?_
  rintro e w' ⟨rfl, hB⟩
  refine ⟨_, rfl, hB, ?_⟩
  unfold leftV
  split
  · right; omega
  · exact .inl rfl
end Go.Proofs.Ytmahamlfdegkkab
