/- Marks on copies of declarations. -/
import Derived.Test.YtgbeongiejppnaaX7
namespace Go.Proofs.Ytgbeongiejppnaa
open Go.RowKit Go.BigFrame Go.Deep
theorem Turn.within {L U g : Nat} {w w' : World} (h : Turn (some g) L U w w') (h1 : L ≤ g) (h2 : g < U) : Within L U w w' := by
  refine ⟨h.os, h.tape, h.output, h.size, fun b hb => ?_⟩
  rcases h.block b (by simp; omega) with e | ⟨l1, l2, _⟩
  · exact e
  · omega
theorem Turn.set {L U g o : Nat} {w : World} {u : Value} : Turn (some g) L U w (w.setCell ⟨g, o, none⟩ u) :=
  ⟨rfl, rfl, rfl, by simp, fun b hb => .inl (heap_setCell_other _ _ _ _ (by simpa using hb))⟩
/-- A row of declarations as it is being marked: its slices stay. -/
def Rowed (w : World) (g n : Nat) (V : Nat → Value) : Prop := ∃ a, w.heap[g]? = some (.cells a 30 (0, 0)) ∧ a.size = n * 3 ∧ ∀ i, i < n → a[i * 3 + 2]? = some (V i)
theorem Rowed.set {w : World} {g n o : Nat} {V : Nat → Value} {u : Value} (h : Rowed w g n V) (ho : o % 3 ≠ 2) : Rowed (w.setCell ⟨g, o, none⟩ u) g n V := by
  obtain ⟨a, h1, h2, h3⟩ := h
  refine ⟨a.setIfInBounds o u, heap_setCell_same w g o a _ u h1, by simpa using h2, fun i hi => ?_⟩
  rw [Array.getElem?_setIfInBounds_ne (by omega)]
  exact h3 i hi
theorem Rowed.turn {w w' : World} {L U g n : Nat} {V : Nat → Value} (h : Rowed w g n V) (t : Turn none L U w w') : Rowed w' g n V := by
  obtain ⟨a, h1, h2, h3⟩ := h
  rcases t.block g (by simp) with e | ⟨_, _, xs, ys, _, e1, _⟩
  · exact ⟨a, e.trans h1, h2, h3⟩
  · rw [h1] at e1
    injection e1 with e1
    injection e1 with _ e1 _
    cases e1
theorem Rowed.cell {w : World} {g n : Nat} {V : Nat → Value} (h : Rowed w g n V) {x : Nat} (hx : x < n * 3) : ∃ u, w.cell? ⟨g, x, none⟩ = some u := by
  obtain ⟨a, h1, h2, _⟩ := h
  exact ⟨a[x]'(by omega), by rw [cell_of_row w g x a _ (0, 0) h1, Array.getElem?_eq_getElem (by omega)]⟩
theorem Rowed.slice {w : World} {g n : Nat} {V : Nat → Value} (h : Rowed w g n V) {i : Nat} (hi : i < n) : w.cell? ⟨g, i * 3 + 2, none⟩ = some (V i) := by
  obtain ⟨a, h1, _, h3⟩ := h
  rw [cell_of_row w g _ a _ (0, 0) h1]
  exact h3 i hi
theorem Rowed.free {w : World} {g n : Nat} {V : Nat → Value} (h : Rowed w g n V) (x : Nat) : w.frozen? ⟨g, x, none⟩ = false := by
  obtain ⟨a, h1, _⟩ := h
  exact frozen_of_row w g x a _ h1
theorem Rowed.typed {w : World} {g n : Nat} {V : Nat → Value} (h : Rowed w g n V) : ∀ b, some g = some b → ∃ a, w.heap[b]? = some (.cells a 30 (0, 0)) := fun b e => by
  injection e with e
  subst e
  obtain ⟨a, h1, _⟩ := h
  exact ⟨a, h1⟩
theorem ODecs.rowed {w : World} {L U : Nat} {v : Value} {ds : List Dec} (h : ODecs w L U v ds) (hs : SmallD ds) : ∃ g V, v = .slice (some ⟨g, 0, none⟩) ds.length ds.length ∧ L ≤ g ∧ g < U ∧ Rowed w g ds.length V ∧ ∀ i, i < ds.length → ∃ n, n ≤ 1048576 ∧ SC w L U (V i) n := by
  obtain ⟨V, ⟨g, a, e, h1, h2, h3, h4, h5⟩, hc⟩ := h
  have hz : a.size = ds.length * 3 := by have := congrArg List.length h5; rw [length_cellsOf] at this; simpa using this
  refine ⟨g, V, e, h1, h2, ⟨a, h4, hz, fun i hi => ?_⟩, fun i hi => ⟨(nthD ds i).cons.length, (hs.2 i hi).1, (nthD ds i).cons, rfl, hs.2 i hi, hc i hi⟩⟩
  have := cellsOf_at (fun i j => decCell (nthD ds i) (V i) j) hi (show 2 < 3 by omega)
  rw [← h5] at this
  rw [← Array.getElem?_toList]
  exact this
end Go.Proofs.Ytgbeongiejppnaa
