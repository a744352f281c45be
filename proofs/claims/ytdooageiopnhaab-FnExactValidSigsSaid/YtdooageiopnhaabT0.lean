/- Expressions as data: trees, what a slice of them reads as, sums over them. Nothing here speaks of a program. -/
import Derived.Test.YtdooageiopnhaabLib
namespace Go.Proofs.Ytdooageiopnhaab
open Go.RowKit
inductive Ex where
  | node (op num : Int) (kids : List Ex)
def Ex.op : Ex → Int
  | .node o _ _ => o
def Ex.num : Ex → Int
  | .node _ n _ => n
def Ex.kids : Ex → List Ex
  | .node _ _ ks => ks
def noEx : Ex := .node 0 0 []
def nthX (es : List Ex) (i : Nat) : Ex := es.getD i noEx
theorem nthX_of {es : List Ex} {i : Nat} (h : i < es.length) : nthX es i = es[i] := by simp [nthX, h]
def exCell (e : Ex) (v : Value) (j : Nat) : Value := if j = 0 then .int .i64 e.op else if j = 1 then .int .i64 e.num else v
/-- A slice of expressions, read to every depth. -/
inductive Exs (w : World) (L U : Nat) : Value → List Ex → Prop
  | mk (A : Option Addr) (c : Nat) (V : Nat → Value) (es : List Ex) (r : Row w L U 3 A es.length c (fun i j => exCell (nthX es i) (V i) j))
      (h : ∀ i, i < es.length → Exs w L U (V i) (nthX es i).kids) : Exs w L U (.slice A es.length c) es
theorem Exs.keep {w w' : World} {L U : Nat} {v : Value} {es : List Ex} (h : Exs w L U v es) (s : Same L U w w') : Exs w' L U v es := by
  induction h with
  | mk A c V es r _ ih => exact .mk A c V es (r.keep s) ih
theorem Exs.wide {w : World} {L U L' U' : Nat} {v : Value} {es : List Ex} (h : Exs w L U v es) (hL : L' ≤ L) (hU : U ≤ U') : Exs w L' U' v es := by
  induction h with
  | mk A c V es r _ ih => exact .mk A c V es (r.wide hL hU) ih
theorem Exs.open_ {w : World} {L U : Nat} {v : Value} {es : List Ex} (h : Exs w L U v es) : ∃ A c, v = .slice A es.length c ∧ es.length ≤ c ∧ c ≤ 9223372036854775807 := by
  cases h with
  | mk A c V es r h => exact ⟨A, c, rfl, r.le, r.cap⟩
/-- The cells of one element of a row. -/
theorem row_at {w : World} {L U : Nat} {A : Option Addr} {c : Nat} {V : Nat → Value} {es : List Ex} (r : Row w L U 3 A es.length c (fun i j => exCell (nthX es i) (V i) j)) {k : Nat} (hk : k < es.length) :
    ∃ b o, A = some ⟨b, o, none⟩ ∧ L ≤ b ∧ b < U ∧ w.cell? ⟨b, o + k * 3, none⟩ = some (.int .i64 (nthX es k).op) ∧ w.cell? ⟨b, o + k * 3 + 1, none⟩ = some (.int .i64 (nthX es k).num) ∧ w.cell? ⟨b, o + k * 3 + 2, none⟩ = some (V k) := by
  obtain ⟨b, o, e, h1, h2, hc⟩ := r.place (by omega)
  exact ⟨b, o, e, h1, h2, hc k 0 hk (by omega), hc k 1 hk (by omega), hc k 2 hk (by omega)⟩
mutual
/-- A sum over all nodes. -/
def Ex.sum (f : Int → Int → Nat) : Ex → Nat
  | .node o n ks => f o n + sumL f ks
def sumL (f : Int → Int → Nat) : List Ex → Nat
  | [] => 0
  | e :: es => e.sum f + sumL f es
end
theorem sum_eq (f : Int → Int → Nat) (e : Ex) : e.sum f = f e.op e.num + sumL f e.kids := by
  cases e; simp [Ex.sum, Ex.op, Ex.num, Ex.kids]
theorem sumL_append (f : Int → Int → Nat) (a b : List Ex) : sumL f (a ++ b) = sumL f a + sumL f b := by
  induction a with
  | nil => simp [sumL]
  | cons x a ih => simp only [List.cons_append, sumL, ih]; omega
theorem sumL_step (f : Int → Int → Nat) {es : List Ex} {k : Nat} (h : k < es.length) : sumL f (es.take (k + 1)) = sumL f (es.take k) + (nthX es k).sum f := by
  rw [List.take_succ_eq_append_getElem h, sumL_append, nthX_of h]; simp [sumL]
theorem sumL_take (f : Int → Int → Nat) (es : List Ex) (k : Nat) : sumL f (es.take k) ≤ sumL f es := by
  have := sumL_append f (es.take k) (es.drop k)
  rw [List.take_append_drop] at this
  omega
theorem sumL_all (f : Int → Int → Nat) {es : List Ex} {k : Nat} (h : ¬ k < es.length) : sumL f (es.take k) = sumL f es := by rw [List.take_of_length_le (by omega)]
theorem sumL_mem (f : Int → Int → Nat) {es : List Ex} {k : Nat} (h : k < es.length) : (nthX es k).sum f ≤ sumL f es := by
  have h1 := sumL_step f h
  have h2 := sumL_take f es (k + 1)
  omega
def one_ (_ _ : Int) : Nat := 1
theorem sumL_length (es : List Ex) : es.length ≤ sumL one_ es := by
  induction es with
  | nil => simp [sumL]
  | cons e es ih =>
    simp only [sumL, List.length_cons, sum_eq, one_]
    omega
def nodesOfV (ks : List Ex) : Int := if 1 + sumL one_ ks ≤ 30 then ((1 + sumL one_ ks : Nat) : Int) else -1
end Go.Proofs.Ytdooageiopnhaab
