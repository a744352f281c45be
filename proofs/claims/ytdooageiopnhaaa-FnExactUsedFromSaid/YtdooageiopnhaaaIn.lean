/- Ascending lists, and a number put into one: the plain part, and the law on appending one number. -/
import Derived.Test.YtdooageiopnhaaaOi
import Derived.Laws.AppendOwn
import Derived.Maps.AppendAt
namespace Go.Proofs.Ytdooageiopnhaaa
open Go.RowKit Go.BigFrame
def ins (n : Int) : List Int → List Int
  | [] => [n]
  | x :: xs => if n < x then n :: x :: xs else if n = x then x :: xs else x :: ins n xs
/-- Strictly ascending. -/
def Asc (xs : List Int) : Prop := ∀ i j, i < j → j < xs.length → nth xs i < nth xs j
theorem ins_lt {n : Int} {ys : List Int} (h : ∀ x ∈ ys, x < n) : ins n ys = ys ++ [n] := by
  induction ys with
  | nil => rfl
  | cons y ys ih =>
    have hy := h y (by simp)
    simp only [ins]
    rw [if_neg (by omega), if_neg (by omega), ih fun x hx => h x (by simp [hx])]
    rfl
theorem ins_eq {n : Int} {ys : List Int} (h : ∀ x ∈ ys, x < n) : ins n (ys ++ [n]) = ys ++ [n] := by
  induction ys with
  | nil => simp [ins]
  | cons y ys ih =>
    have hy := h y (by simp)
    simp only [List.cons_append, ins]
    rw [if_neg (by omega), if_neg (by omega), ih fun x hx => h x (by simp [hx])]
theorem ins_gt {n m : Int} {ys : List Int} (h : ∀ x ∈ ys, x < n) (hm : n < m) : ins n (ys ++ [m]) = ys ++ [n] ++ [m] := by
  induction ys with
  | nil => simp [ins, hm]
  | cons y ys ih =>
    have hy := h y (by simp)
    simp only [List.cons_append, ins]
    rw [if_neg (by omega), if_neg (by omega), ih fun x hx => h x (by simp [hx])]
theorem ins_in {n m : Int} {ys : List Int} (h : ∃ x ∈ ys, n ≤ x) : ins n (ys ++ [m]) = ins n ys ++ [m] := by
  induction ys with
  | nil => obtain ⟨x, hx, _⟩ := h; cases hx
  | cons y ys ih =>
    simp only [List.cons_append, ins]
    by_cases h1 : n < y
    · rw [if_pos h1, if_pos h1]; rfl
    · rw [if_neg h1, if_neg h1]
      by_cases h2 : n = y
      · rw [if_pos h2, if_pos h2]; rfl
      · rw [if_neg h2, if_neg h2]
        obtain ⟨x, hx, hn⟩ := h
        rw [ih ⟨x, by rcases List.mem_cons.1 hx with rfl | h'; omega; exact h', hn⟩]
        rfl
theorem ins_length (n : Int) (ys : List Int) : (ins n ys).length ≤ ys.length + 1 := by
  induction ys with
  | nil => simp [ins]
  | cons y ys ih =>
    simp only [ins]
    split
    · simp
    · split
      · simp
      · simp only [List.length_cons]; omega
theorem ins_mem {n x : Int} {ys : List Int} : x ∈ ins n ys ↔ x = n ∨ x ∈ ys := by
  induction ys with
  | nil => simp [ins]
  | cons y ys ih =>
    simp only [ins]
    split
    · simp
    · split
      · rename_i h; subst h; simp
      · simp only [List.mem_cons, ih]
        constructor
        · rintro (h | h | h) <;> simp [h]
        · rintro (h | h | h) <;> simp [h]
theorem asc_iff (xs : List Int) : Asc xs ↔ xs.Pairwise (· < ·) := by
  rw [List.pairwise_iff_getElem]
  constructor
  · intro h i j hi hj hij
    have := h i j hij hj
    rwa [nth_of hi, nth_of hj] at this
  · intro h i j hij hj
    rw [nth_of (by omega), nth_of hj]
    exact h i j (by omega) hj hij
theorem ins_asc {n : Int} {ys : List Int} (h : Asc ys) : Asc (ins n ys) := by
  rw [asc_iff] at h ⊢
  induction ys with
  | nil => simp [ins]
  | cons y ys ih =>
    rw [List.pairwise_cons] at h
    simp only [ins]
    split
    · rename_i h1
      rw [List.pairwise_cons, List.pairwise_cons]
      refine ⟨fun x hx => ?_, h.1, h.2⟩
      rcases List.mem_cons.1 hx with rfl | h'
      · exact h1
      · have := h.1 x h'; omega
    · split
      · rw [List.pairwise_cons]; exact h
      · rw [List.pairwise_cons]
        refine ⟨fun x hx => ?_, ih h.2⟩
        rcases ins_mem.1 hx with rfl | h'
        · omega
        · exact h.1 x h'
theorem asc_past {xs : List Int} (h : Asc xs) {k : Nat} (hk : k < xs.length) {n : Int} (hx : ∃ x ∈ xs.take k, n ≤ x) : n < xs[k] := by
  obtain ⟨x, hm, hn⟩ := hx
  obtain ⟨i, hi, rfl⟩ := List.getElem_of_mem hm
  rw [List.length_take] at hi
  have := h i k (by omega) hk
  rw [nth_of (by omega), nth_of hk] at this
  rw [List.getElem_take] at hn
  omega
/-- How far a walk over an ascending list has come: whether the number is placed, and what is gathered. -/
def InsAt (xs : List Int) (n : Int) (k : Nat) (b : Bool) (ys : List Int) : Prop :=
  (b = false ∧ (∀ x ∈ xs.take k, x < n) ∧ ys = xs.take k) ∨ (b = true ∧ (∃ x ∈ xs.take k, n ≤ x) ∧ ys = ins n (xs.take k))
theorem InsAt.zero (xs : List Int) (n : Int) : InsAt xs n 0 false [] := .inl ⟨rfl, by simp, by simp⟩
theorem take_more {xs : List Int} {k : Nat} (hk : k < xs.length) : xs.take (k + 1) = xs.take k ++ [xs[k]] := List.take_succ_eq_append_getElem hk
theorem InsAt.less {xs : List Int} {n : Int} {k : Nat} {ys : List Int} (h : InsAt xs n k false ys) (hk : k < xs.length) (hm : xs[k] < n) : InsAt xs n (k + 1) false (ys ++ [xs[k]]) := by
  rcases h with ⟨_, h1, rfl⟩ | ⟨h, _⟩
  · refine .inl ⟨rfl, fun x hx => ?_, by rw [take_more hk]⟩
    rw [take_more hk, List.mem_append] at hx
    rcases hx with h' | h'
    · exact h1 x h'
    · simp at h'; omega
  · cases h
theorem InsAt.same {xs : List Int} {n : Int} {k : Nat} {ys : List Int} (h : InsAt xs n k false ys) (hk : k < xs.length) (hm : xs[k] = n) : InsAt xs n (k + 1) true (ys ++ [n]) := by
  rcases h with ⟨_, h1, rfl⟩ | ⟨h, _⟩
  · refine .inr ⟨rfl, ⟨n, by rw [take_more hk, hm]; exact List.mem_append.2 (.inr (by simp)), Int.le_refl _⟩, ?_⟩
    rw [take_more hk, hm, ins_eq h1]
  · cases h
theorem InsAt.more {xs : List Int} {n : Int} {k : Nat} {ys : List Int} (h : InsAt xs n k false ys) (hk : k < xs.length) (hm : n < xs[k]) : InsAt xs n (k + 1) true (ys ++ [n] ++ [xs[k]]) := by
  rcases h with ⟨_, h1, rfl⟩ | ⟨h, _⟩
  · refine .inr ⟨rfl, ⟨xs[k], by rw [take_more hk]; exact List.mem_append.2 (.inr (by simp)), by omega⟩, ?_⟩
    rw [take_more hk, ins_gt h1 hm]
  · cases h
theorem InsAt.past {xs : List Int} {n : Int} {k : Nat} {ys : List Int} (h : InsAt xs n k true ys) (hk : k < xs.length) : InsAt xs n (k + 1) true (ys ++ [xs[k]]) := by
  rcases h with ⟨h, _⟩ | ⟨_, ⟨x, hx, hn⟩, rfl⟩
  · cases h
  · exact .inr ⟨rfl, ⟨x, by rw [take_more hk]; exact List.mem_append.2 (.inl hx), hn⟩, by rw [take_more hk, ins_in ⟨x, hx, hn⟩]⟩
theorem InsAt.gt {xs : List Int} {n : Int} {k : Nat} {ys : List Int} (h : InsAt xs n k true ys) (ha : Asc xs) (hk : k < xs.length) : n < xs[k] := by
  rcases h with ⟨h, _⟩ | ⟨_, hx, _⟩
  · cases h
  · exact asc_past ha hk hx
theorem InsAt.last {xs : List Int} {n : Int} {k : Nat} {ys : List Int} (h : InsAt xs n k true ys) (hk : ¬ k < xs.length) : ys = ins n xs := by
  rcases h with ⟨h, _⟩ | ⟨_, _, rfl⟩
  · cases h
  · rw [List.take_of_length_le (by omega)]
theorem InsAt.end_ {xs : List Int} {n : Int} {k : Nat} {ys : List Int} (h : InsAt xs n k false ys) (hk : ¬ k < xs.length) : ys ++ [n] = ins n xs := by
  rcases h with ⟨_, h1, rfl⟩ | ⟨h, _⟩
  · rw [List.take_of_length_le (by omega)] at h1 ⊢
    rw [ins_lt h1]
  · cases h
theorem InsAt.length {xs : List Int} {n : Int} {k : Nat} {b : Bool} {ys : List Int} (h : InsAt xs n k b ys) : ys.length ≤ xs.length + 1 := by
  rcases h with ⟨_, _, rfl⟩ | ⟨_, _, rfl⟩
  · rw [List.length_take]; omega
  · have := ins_length n (xs.take k)
    rw [List.length_take] at this
    omega
/-- One number is appended to a row of ints of the call's own. -/
theorem wp_push {w : World} {ops : Array Oper} {rest : List Oper} {o : Oper} {a : Act} {Q : Exit → Act → World → Prop} (hgd : o.guard = none) (s x : Operand)
    (ho : o.op = .call { callee := .builtin .append, args := #[s, x], argTypes := #[26, 26] }) {base : Nat} {v : Value} {ys : List Int} {m : Int} (hs : a.eval s = v) (hown : Own w base v ys)
    (hx : a.eval x = .slice (some ⟨w.heap.size, 0, none⟩) 1 1) (hl : ys.length ≤ 10000000) (hb : base ≤ w.heap.size)
    (h : ∀ v' w', Own w' base v' (ys ++ [m]) → Below base w w' → w.heap.size ≤ w'.heap.size → wpList Try.prog ops Q rest (a.put o.dst v') w') : wpList Try.prog ops Q (o :: rest) a (w.alloc (.cells #[.int .i64 m] 3)) := by
  obtain ⟨i0, hi, hz0, hz1, hz2⟩ := info_parts infoI
  refine wpList_append_own _ hgd s x 26 ho base 3 i0 (.int .i64 0) 1 8 Try.underlying26 hi hz0 hz1 hz2 rfl (by decide) v ys.length (ys.map (Value.int .i64)) hs (hown.alloc _) ⟨w.heap.size, 0, none⟩ 1 1 [.int .i64 m] hx rfl (cell_one_new _ _ _) (by simp [Value.oneCell']) (by unfold maxLen; omega) (by omega) (by simp; omega) ?_
  intro v' w' hown' hg _
  have hB : Below base w w' := Below.own ((Below.refl base w).alloc hb _) (hown.alloc _) hg (Nat.le_refl _) (by simp; omega)
  refine h v' w' ?_ hB hB.size
  have e : (ys ++ [m]).map (Value.int .i64) = ys.map (Value.int .i64) ++ [.int .i64 m] := by simp
  show w'.ownsRow base 3 1 v' (ys ++ [m]).length ((ys ++ [m]).map (Value.int .i64))
  rw [e, List.length_append]
  exact hown'
end Go.Proofs.Ytdooageiopnhaaa
