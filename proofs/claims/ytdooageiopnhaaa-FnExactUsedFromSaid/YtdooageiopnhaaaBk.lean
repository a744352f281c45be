/- Rows of the call's own, by their blocks; rows that are being filled. Nothing here speaks of a program. -/
import Derived.Test.YtdooageiopnhaaaA0
import Derived.Test.YtdooageiopnhaaaNm
import Derived.OwnWalk
import Derived.Laws.MakeOwn
namespace Go.Proofs.Ytdooageiopnhaaa
open Go.RowKit Go.BigFrame
theorem ended {P : Program} {fn : Func} {R : Ending → World → Prop} {x : Exit} {a : Act} {W : World} (h : ∀ W', W' = W → bodyPost P fn R x a W') : bodyPost P fn R x a W := h W rfl
theorem results_one {fn : Func} {p : Tmp} {ty : TypeId} (h : fn.results = #[.cell p ty]) (tmps : Array Value) (P : Program) (w : World) :
    (results fn tmps).run P w = ((asAddr (tmps.getD p undef)).run P w).andThen fun a w₁ => (loadVar ty a).run P w₁ := by
  simp only [results, h]
  simp [Sem.run_bind, Result.andThen]
/-- A row that fills a block of its own, of a known type. -/
def Blk (w : World) (L U : Nat) (T : TypeId) (v : Value) (n : Nat) (cs : List Value) : Prop :=
  ∃ g a, v = .slice (some ⟨g, 0, none⟩) n n ∧ L ≤ g ∧ g < U ∧ n ≤ maxLen ∧ w.heap[g]? = some (.cells a T (0, 0)) ∧ a.toList = cs
theorem Blk.keep {w w' : World} {L U : Nat} {T : TypeId} {v : Value} {n : Nat} {cs : List Value} (h : Blk w L U T v n cs) (s : Same L U w w') : Blk w' L U T v n cs := by
  obtain ⟨g, a, e, h1, h2, h3, h4, h5⟩ := h
  exact ⟨g, a, e, h1, h2, h3, (s g h1 h2).trans h4, h5⟩
theorem Blk.wide {w : World} {L U L' U' : Nat} {T : TypeId} {v : Value} {n : Nat} {cs : List Value} (h : Blk w L U T v n cs) (hL : L' ≤ L) (hU : U ≤ U') : Blk w L' U' T v n cs := by
  obtain ⟨g, a, e, h1, h2, h3, h4, h5⟩ := h
  exact ⟨g, a, e, by omega, by omega, h3, h4, h5⟩
theorem Blk.row {w : World} {L U k : Nat} {T : TypeId} {v : Value} {n : Nat} {V : Nat → Nat → Value} (h : Blk w L U T v n (cellsOf k n V)) : ∃ g, v = .slice (some ⟨g, 0, none⟩) n n ∧ Row w L U k (some ⟨g, 0, none⟩) n n V := by
  obtain ⟨g, a, e, h1, h2, h3, h4, h5⟩ := h
  refine ⟨g, e, Nat.le_refl _, h3, (fun e => by cases e), fun hn => ⟨g, 0, rfl, h1, h2, fun i j hi hj => ?_⟩⟩
  rw [cell_of_row w g _ a T (0, 0) h4]
  have := cellsOf_at V hi hj
  rw [← h5] at this
  rw [Nat.zero_add, ← this]
  simp
/-- The cells of a row that is filled from its head: the first m groups done, the others as they were made. -/
def part (k n m : Nat) (V : Nat → Nat → Value) (Z : Nat → Value) : List Value := cellsOf k n fun i j => if i < m then V i j else Z j
theorem part_done {k n : Nat} {V : Nat → Nat → Value} {Z : Nat → Value} : part k n n V Z = cellsOf k n V := by
  unfold part cellsOf
  refine List.map_congr_left fun x hx => ?_
  rw [List.mem_range] at hx
  have : x / k < n := Nat.div_lt_of_lt_mul (by rwa [Nat.mul_comm] at hx)
  exact if_pos this
theorem length_part (k n m : Nat) (V : Nat → Nat → Value) (Z : Nat → Value) : (part k n m V Z).length = n * k := length_cellsOf _ _ _
theorem made_part (z : Array Value) (n k : Nat) (hz : z.size = k) (V : Nat → Nat → Value) : (madeCells z (n * k)).toList = part k n 0 V (fun j => z[j]!) := by
  unfold madeCells part cellsOf
  subst hz
  simp
/-- A row as it is being filled. -/
def Fill (w : World) (g k n m : Nat) (T : TypeId) (V : Nat → Nat → Value) (Z : Nat → Value) : Prop := ∃ a, w.heap[g]? = some (.cells a T (0, 0)) ∧ a.toList = part k n m V Z
theorem Fill.cell {w : World} {g k n m : Nat} {T : TypeId} {V : Nat → Nat → Value} {Z : Nat → Value} (h : Fill w g k n m T V Z) {i j : Nat} (hi : i < n) (hj : j < k) : w.cell? ⟨g, i * k + j, none⟩ = some (if i < m then V i j else Z j) := by
  obtain ⟨a, h1, h2⟩ := h
  rw [cell_of_row w g _ a T (0, 0) h1]
  have := cellsOf_at (fun i j => if i < m then V i j else Z j) hi hj
  unfold part at h2
  rw [← h2] at this
  rw [← this]; simp
theorem Fill.free {w : World} {g k n m : Nat} {T : TypeId} {V : Nat → Nat → Value} {Z : Nat → Value} (h : Fill w g k n m T V Z) (x : Nat) : w.frozen? ⟨g, x, none⟩ = false := by
  obtain ⟨a, h1, _⟩ := h
  exact frozen_of_row w g x a T h1
theorem Fill.keep {w w' : World} {g k n m : Nat} {T : TypeId} {V : Nat → Nat → Value} {Z : Nat → Value} (h : Fill w g k n m T V Z) (e : w'.heap[g]? = w.heap[g]?) : Fill w' g k n m T V Z := by
  obtain ⟨a, h1, h2⟩ := h
  exact ⟨a, e.trans h1, h2⟩
theorem part_congr {k n m : Nat} {V V' : Nat → Nat → Value} {Z : Nat → Value} (h : ∀ i j, i < m → j < k → V i j = V' i j) : part k n m V Z = part k n m V' Z := by
  unfold part cellsOf
  refine List.map_congr_left fun x hx => ?_
  rw [List.mem_range] at hx
  by_cases hm : x / k < m
  · have hk : 0 < k := by rcases Nat.eq_zero_or_pos k with e | e
                          · subst e; omega
                          · exact e
    exact (if_pos hm).trans ((h _ _ hm (Nat.mod_lt _ hk)).trans (if_pos hm).symm)
  · exact (if_neg hm).trans (if_neg hm).symm
theorem Fill.congr {w : World} {g k n m : Nat} {T : TypeId} {V V' : Nat → Nat → Value} {Z : Nat → Value} (h : Fill w g k n m T V Z) (e : ∀ i j, i < m → j < k → V i j = V' i j) : Fill w g k n m T V' Z := by
  obtain ⟨a, h1, h2⟩ := h
  exact ⟨a, h1, h2.trans (part_congr e)⟩
theorem Fill.blk {w : World} {g k n : Nat} {T : TypeId} {V : Nat → Nat → Value} {Z : Nat → Value} (h : Fill w g k n n T V Z) {L U : Nat} (hL : L ≤ g) (hU : g < U) (hn : n ≤ maxLen) : Blk w L U T (.slice (some ⟨g, 0, none⟩) n n) n (cellsOf k n V) := by
  obtain ⟨a, h1, h2⟩ := h
  exact ⟨g, a, rfl, hL, hU, hn, h1, by rw [h2, part_done]⟩
theorem Fill.made {w : World} {base g n : Nat} {T : TypeId} {z : Array Value} {k : Nat} (h : w.ownsRow base T k (.slice (some ⟨g, 0, none⟩) n n) n (madeCells z (n * k)).toList) (hk : z.size = k) (V : Nat → Nat → Value) : Fill w g k n 0 T V (fun j => z[j]!) := by
  rcases h.2 with ⟨h', _⟩ | ⟨g', cap', cur, h', hb, hg, hnc, hcm, hcs, htake⟩
  · cases h'
  · injection h' with e1 e2 e3
    injection e1 with e1
    injection e1 with e1
    subst e1 e3
    refine ⟨cur, hg, ?_⟩
    rw [← made_part _ _ _ hk, ← htake, List.take_of_length_le (by simp [hcs])]
theorem Fill.made1 {w : World} {base g n : Nat} {T : TypeId} {z : Value} (h : w.ownsRow base T 1 (.slice (some ⟨g, 0, none⟩) n n) n (madeCells #[z] n).toList) (V : Nat → Nat → Value) : Fill w g 1 n 0 T V (fun j => #[z][j]!) :=
  Fill.made (k := 1) (z := #[z]) (base := base) (by rw [Nat.mul_one]; exact h) rfl V
/-- One group more is stored: here a group of one cell. -/
theorem Fill.one {w : World} {g n m : Nat} {T : TypeId} {V : Nat → Nat → Value} {Z : Nat → Value} (h : Fill w g 1 n m T V Z) (hm : m < n) {u : Value} (hu : V m 0 = u) : Fill (w.setCell ⟨g, m, none⟩ u) g 1 n (m + 1) T V Z := by
  obtain ⟨a, h1, h2⟩ := h
  refine ⟨a.setIfInBounds m u, heap_setCell_same w g m a T u h1, ?_⟩
  rw [Array.toList_setIfInBounds, h2]
  apply List.ext_getElem?
  intro x
  by_cases hx : x < n
  · have e1 := cellsOf_at (k := 1) (m := n) (i := x) (j := 0) (fun i j => if i < m + 1 then V i j else Z j) hx (by omega)
    have e0 := cellsOf_at (k := 1) (m := n) (i := x) (j := 0) (fun i j => if i < m then V i j else Z j) hx (by omega)
    simp only [Nat.mul_one, Nat.add_zero] at e1 e0
    unfold part
    rw [e1, List.getElem?_set]
    by_cases hmx : m = x
    · subst hmx; simp [length_cellsOf, hm, hu]
    · rw [if_neg hmx, e0]
      by_cases h3 : x < m
      · rw [if_pos h3, if_pos (by omega)]
      · rw [if_neg h3, if_neg (by omega)]
  · rw [List.getElem?_eq_none (by rw [List.length_set, length_part]; omega), List.getElem?_eq_none (by rw [length_part]; omega)]
/-- One group of three cells more is stored. -/
theorem Fill.three {w : World} {g n m : Nat} {T : TypeId} {V : Nat → Nat → Value} {Z : Nat → Value} (h : Fill w g 3 n m T V Z) {u0 u1 u2 : Value} (h0 : V m 0 = u0) (h1 : V m 1 = u1) (h2 : V m 2 = u2) :
    Fill (((w.setCell ⟨g, m * 3, none⟩ u0).setCell ⟨g, m * 3 + 1, none⟩ u1).setCell ⟨g, m * 3 + 2, none⟩ u2) g 3 n (m + 1) T V Z := by
  obtain ⟨a, e1, e2⟩ := h
  refine ⟨((a.setIfInBounds (m * 3) u0).setIfInBounds (m * 3 + 1) u1).setIfInBounds (m * 3 + 2) u2, heap_setCell_same _ g _ _ T u2 (heap_setCell_same _ g _ _ T u1 (heap_setCell_same w g _ a T u0 e1)), ?_⟩
  rw [Array.toList_setIfInBounds, Array.toList_setIfInBounds, Array.toList_setIfInBounds, e2]
  have hlen : (part 3 n m V Z).length = n * 3 := length_part _ _ _ _ _
  apply List.ext_getElem?
  intro x
  by_cases hx : x < n * 3
  · have d1 : x / 3 < n := by omega
    have d2 : x % 3 < 3 := by omega
    have d3 : x / 3 * 3 + x % 3 = x := by omega
    have e1 := cellsOf_at (k := 3) (m := n) (i := x / 3) (j := x % 3) (fun i j => if i < m + 1 then V i j else Z j) d1 d2
    have e0 := cellsOf_at (k := 3) (m := n) (i := x / 3) (j := x % 3) (fun i j => if i < m then V i j else Z j) d1 d2
    rw [d3] at e1 e0
    unfold part at hlen ⊢
    rw [e1, List.getElem?_set, List.getElem?_set, List.getElem?_set, List.length_set, List.length_set, hlen, e0]
    by_cases c2 : m * 3 + 2 = x
    · rw [if_pos c2, if_pos (by omega), show x / 3 = m by omega, show x % 3 = 2 by omega, if_pos (by omega), h2]
    · rw [if_neg c2]
      by_cases c1 : m * 3 + 1 = x
      · rw [if_pos c1, if_pos (by omega), show x / 3 = m by omega, show x % 3 = 1 by omega, if_pos (by omega), h1]
      · rw [if_neg c1]
        by_cases c0 : m * 3 = x
        · rw [if_pos c0, if_pos (by omega), show x / 3 = m by omega, show x % 3 = 0 by omega, if_pos (by omega), h0]
        · rw [if_neg c0]
          by_cases h3 : x / 3 < m
          · rw [if_pos h3, if_pos (by omega)]
          · rw [if_neg h3, if_neg (by omega)]
  · rw [List.getElem?_eq_none (by simp only [List.length_set, length_part]; omega), List.getElem?_eq_none (by rw [length_part]; omega)]
/-- One group of 2 cells more is stored. -/
theorem Fill.two {w : World} {g n m : Nat} {T : TypeId} {V : Nat → Nat → Value} {Z : Nat → Value} (h : Fill w g 2 n m T V Z) {u0 u1 : Value} (h0 : V m 0 = u0) (h1 : V m 1 = u1) :
    Fill ((w.setCell ⟨g, m * 2, none⟩ u0).setCell ⟨g, m * 2 + 1, none⟩ u1) g 2 n (m + 1) T V Z := by
  obtain ⟨a, e1, e2⟩ := h
  refine ⟨((a.setIfInBounds (m * 2) u0).setIfInBounds (m * 2 + 1) u1), (heap_setCell_same _ g _ _ T u1 (heap_setCell_same _ g _ _ T u0 e1)), ?_⟩
  rw [Array.toList_setIfInBounds, Array.toList_setIfInBounds, e2]
  have hlen : (part 2 n m V Z).length = n * 2 := length_part _ _ _ _ _
  apply List.ext_getElem?
  intro x
  by_cases hx : x < n * 2
  · have d1 : x / 2 < n := by omega
    have d2 : x % 2 < 2 := by omega
    have d3 : x / 2 * 2 + x % 2 = x := by omega
    have e1 := cellsOf_at (k := 2) (m := n) (i := x / 2) (j := x % 2) (fun i j => if i < m + 1 then V i j else Z j) d1 d2
    have e0 := cellsOf_at (k := 2) (m := n) (i := x / 2) (j := x % 2) (fun i j => if i < m then V i j else Z j) d1 d2
    rw [d3] at e1 e0
    unfold part at hlen ⊢
    rw [e1, List.getElem?_set, List.getElem?_set, List.length_set, hlen, e0]
    by_cases c1 : m * 2 + 1 = x
    · rw [if_pos c1, if_pos (by omega), show x / 2 = m by omega, show x % 2 = 1 by omega, if_pos (by omega), h1]
    · rw [if_neg c1]
      by_cases c0 : m * 2 = x
      · rw [if_pos c0, if_pos (by omega), show x / 2 = m by omega, show x % 2 = 0 by omega, if_pos (by omega), h0]
      · rw [if_neg c0]
        by_cases h3 : x / 2 < m
        · rw [if_pos h3, if_pos (by omega)]
        · rw [if_neg h3, if_neg (by omega)]
  · rw [List.getElem?_eq_none (by simp only [List.length_set, length_part]; omega), List.getElem?_eq_none (by rw [length_part]; omega)]
/-- One group of 5 cells more is stored. -/
theorem Fill.five {w : World} {g n m : Nat} {T : TypeId} {V : Nat → Nat → Value} {Z : Nat → Value} (h : Fill w g 5 n m T V Z) {u0 u1 u2 u3 u4 : Value} (h0 : V m 0 = u0) (h1 : V m 1 = u1) (h2 : V m 2 = u2) (h3 : V m 3 = u3) (h4 : V m 4 = u4) :
    Fill (((((w.setCell ⟨g, m * 5, none⟩ u0).setCell ⟨g, m * 5 + 1, none⟩ u1).setCell ⟨g, m * 5 + 2, none⟩ u2).setCell ⟨g, m * 5 + 3, none⟩ u3).setCell ⟨g, m * 5 + 4, none⟩ u4) g 5 n (m + 1) T V Z := by
  obtain ⟨a, e1, e2⟩ := h
  refine ⟨(((((a.setIfInBounds (m * 5) u0).setIfInBounds (m * 5 + 1) u1).setIfInBounds (m * 5 + 2) u2).setIfInBounds (m * 5 + 3) u3).setIfInBounds (m * 5 + 4) u4), (heap_setCell_same _ g _ _ T u4 (heap_setCell_same _ g _ _ T u3 (heap_setCell_same _ g _ _ T u2 (heap_setCell_same _ g _ _ T u1 (heap_setCell_same _ g _ _ T u0 e1))))), ?_⟩
  rw [Array.toList_setIfInBounds, Array.toList_setIfInBounds, Array.toList_setIfInBounds, Array.toList_setIfInBounds, Array.toList_setIfInBounds, e2]
  have hlen : (part 5 n m V Z).length = n * 5 := length_part _ _ _ _ _
  apply List.ext_getElem?
  intro x
  by_cases hx : x < n * 5
  · have d1 : x / 5 < n := by omega
    have d2 : x % 5 < 5 := by omega
    have d3 : x / 5 * 5 + x % 5 = x := by omega
    have e1 := cellsOf_at (k := 5) (m := n) (i := x / 5) (j := x % 5) (fun i j => if i < m + 1 then V i j else Z j) d1 d2
    have e0 := cellsOf_at (k := 5) (m := n) (i := x / 5) (j := x % 5) (fun i j => if i < m then V i j else Z j) d1 d2
    rw [d3] at e1 e0
    unfold part at hlen ⊢
    rw [e1, List.getElem?_set, List.getElem?_set, List.getElem?_set, List.getElem?_set, List.getElem?_set, List.length_set, List.length_set, List.length_set, List.length_set, hlen, e0]
    by_cases c4 : m * 5 + 4 = x
    · rw [if_pos c4, if_pos (by omega), show x / 5 = m by omega, show x % 5 = 4 by omega, if_pos (by omega), h4]
    · rw [if_neg c4]
      by_cases c3 : m * 5 + 3 = x
      · rw [if_pos c3, if_pos (by omega), show x / 5 = m by omega, show x % 5 = 3 by omega, if_pos (by omega), h3]
      · rw [if_neg c3]
        by_cases c2 : m * 5 + 2 = x
        · rw [if_pos c2, if_pos (by omega), show x / 5 = m by omega, show x % 5 = 2 by omega, if_pos (by omega), h2]
        · rw [if_neg c2]
          by_cases c1 : m * 5 + 1 = x
          · rw [if_pos c1, if_pos (by omega), show x / 5 = m by omega, show x % 5 = 1 by omega, if_pos (by omega), h1]
          · rw [if_neg c1]
            by_cases c0 : m * 5 = x
            · rw [if_pos c0, if_pos (by omega), show x / 5 = m by omega, show x % 5 = 0 by omega, if_pos (by omega), h0]
            · rw [if_neg c0]
              by_cases h3 : x / 5 < m
              · rw [if_pos h3, if_pos (by omega)]
              · rw [if_neg h3, if_neg (by omega)]
  · rw [List.getElem?_eq_none (by simp only [List.length_set, length_part]; omega), List.getElem?_eq_none (by rw [length_part]; omega)]
/-- Marking has turned blocks between L and U alone. -/
structure Within (L U : Nat) (w w' : World) : Prop where
  os : w'.os = w.os
  tape : w'.tape = w.tape
  output : w'.output = w.output
  size : w'.heap.size = w.heap.size
  block : ∀ b, b < L ∨ U ≤ b → w'.heap[b]? = w.heap[b]?
theorem Within.below {L U B : Nat} {w w' : World} (h : Within L U w w') (hB : B ≤ L) : Below B w w' := ⟨h.os, h.tape, h.output, by rw [h.size]; exact Nat.le_refl _, fun k hk => h.block k (.inl (by omega))⟩
theorem Within.same {L U L' U' : Nat} {w w' : World} (h : Within L U w w') (hs : U' ≤ L ∨ U ≤ L') : Same L' U' w w' := fun g h1 h2 => h.block g (by omega)
end Go.Proofs.Ytdooageiopnhaaa
