/- Free variables in plain Lean: what an expression puts into an ascending list. Nothing here speaks of a program. -/
import Derived.Test.YtmahamlfdegkkabIn
import Derived.Test.YtmahamlfdegkkabT2
namespace Go.Proofs.Ytmahamlfdegkkab
open Go.RowKit
/-- Is a node a variable below n? -/
def frees (n o m : Int) : Bool := decide (o = 12) && (decide (0 ≤ m) && decide (m < n))
mutual
def Ex.free (n : Int) (acc : List Int) : Ex → List Int
  | .node o m ks => freeL n (cond (frees n o m) (ins m acc) acc) ks
def freeL (n : Int) (acc : List Int) : List Ex → List Int
  | [] => acc
  | e :: es => freeL n (e.free n acc) es
end
theorem free_eq (n : Int) (acc : List Int) (e : Ex) : e.free n acc = freeL n (cond (frees n e.op e.num) (ins e.num acc) acc) e.kids := by cases e; simp [Ex.free, Ex.op, Ex.num, Ex.kids]
theorem freeL_append (n : Int) (acc : List Int) (a b : List Ex) : freeL n acc (a ++ b) = freeL n (freeL n acc a) b := by
  induction a generalizing acc with
  | nil => simp [freeL]
  | cons e a ih => simp only [List.cons_append, freeL, ih]
theorem freeL_step (n : Int) (acc : List Int) {es : List Ex} {k : Nat} (h : k < es.length) : freeL n acc (es.take (k + 1)) = (nthX es k).free n (freeL n acc (es.take k)) := by
  rw [List.take_succ_eq_append_getElem h, freeL_append, nthX_of h]; simp [freeL]
theorem freeL_all (n : Int) (acc : List Int) {es : List Ex} {k : Nat} (h : ¬ k < es.length) : freeL n acc (es.take k) = freeL n acc es := by rw [List.take_of_length_le (by omega)]
theorem head_ok {n o m : Int} {acc : List Int} (h : Asc acc) : Asc (cond (frees n o m) (ins m acc) acc) ∧ (cond (frees n o m) (ins m acc) acc).length ≤ acc.length + 1 := by
  rcases frees n o m with _ | _
  · exact ⟨h, Nat.le_succ _⟩
  · exact ⟨ins_asc h, ins_length _ _⟩
mutual
theorem free_ok (n : Int) : (e : Ex) → ∀ acc, Asc acc → Asc (e.free n acc) ∧ (e.free n acc).length ≤ acc.length + e.sum one_
  | .node o m ks => fun acc h => by
    obtain ⟨h1, h2⟩ := head_ok (n := n) (o := o) (m := m) h
    obtain ⟨h3, h4⟩ := freeL_ok n ks _ h1
    simp only [Ex.free, Ex.sum, one_]
    exact ⟨h3, by omega⟩
theorem freeL_ok (n : Int) : (es : List Ex) → ∀ acc, Asc acc → Asc (freeL n acc es) ∧ (freeL n acc es).length ≤ acc.length + sumL one_ es
  | [] => fun acc h => by simp only [freeL, sumL]; exact ⟨h, by omega⟩
  | e :: es => fun acc h => by
    obtain ⟨h1, h2⟩ := free_ok n e acc h
    obtain ⟨h3, h4⟩ := freeL_ok n es _ h1
    simp only [freeL, sumL]
    exact ⟨h3, by omega⟩
end
def freeV (n o m : Int) (ks : List Ex) : List Int := if 1 + sumL one_ ks ≤ 30 then freeL n (cond (frees n o m) (ins m []) []) ks else []
theorem asc_nil : Asc [] := fun _ _ _ h => absurd h (by simp)
theorem freeV_length (n o m : Int) (ks : List Ex) : (freeV n o m ks).length ≤ 30 := by
  unfold freeV
  split
  · obtain ⟨h1, h2⟩ := head_ok (n := n) (o := o) (m := m) asc_nil
    obtain ⟨_, h4⟩ := freeL_ok n ks _ h1
    simp only [List.length_nil] at h2
    omega
  · simp
end Go.Proofs.Ytmahamlfdegkkab
