/- Uses of a variable as sums over steps; the last step that uses one. Nothing here speaks of a program. -/
import Derived.Test.YtdooageiopnhaaaY0
namespace Go.Proofs.Ytdooageiopnhaaa
open Go.RowKit
def isC (o : Int) : Bool := decide (14 ≤ o) && decide (o ≤ 17)
/-- How often a variable is used. -/
def Wu (v : Int) : Wt := ⟨fun o a => cond (isC o) 0 (a.count v), fun o => !isC o, fun r => if r = v then 1 else 0⟩
structure WtLe (W W' : Wt) : Prop where
  s : ∀ o a, W.s o a ≤ W'.s o a
  k : ∀ o, W.k o = true → W'.k o = true
  b : ∀ r, W.b r ≤ W'.b r
mutual
theorem st_le {W W' : Wt} (h : WtLe W W') : (s : St) → s.sum W ≤ s.sum W'
  | .mk o n i a ks => by
    have h1 := sumB_le h ks
    have h2 := h.s o a
    have h3 := h.k o
    simp only [St.sum]
    rcases hk : W.k o with _ | _
    · simp only [cond_false]; omega
    · rw [h3 hk]; simp only [cond_true]; omega
theorem bl_le {W W' : Wt} (h : WtLe W W') : (b : Bl) → b.sum W ≤ b.sum W'
  | .mk ss r => by
    have h1 := sumS_le h ss
    have h2 := h.b r
    simp only [Bl.sum]
    omega
theorem sumB_le {W W' : Wt} (h : WtLe W W') : (bs : List Bl) → sumB W bs ≤ sumB W' bs
  | [] => by simp [sumB]
  | b :: bs => by
    have h1 := bl_le h b
    have h2 := sumB_le h bs
    simp only [sumB]
    omega
theorem sumS_le {W W' : Wt} (h : WtLe W W') : (ss : List St) → sumS W ss ≤ sumS W' ss
  | [] => by simp [sumS]
  | s :: ss => by
    have h1 := st_le h s
    have h2 := sumS_le h ss
    simp only [sumS]
    omega
end
theorem wu_le (v : Int) : WtLe (Wu v) Wz where
  s o a := by
    show cond (isC o) 0 (a.count v) ≤ 1 + a.length
    have := List.count_le_length (a := v) (l := a)
    rcases isC o with _ | _ <;> simp <;> omega
  k o _ := rfl
  b r := by
    show (if r = v then 1 else 0) ≤ 1
    split <;> omega
theorem count_step {xs : List Int} {v : Int} {k : Nat} (h : k < xs.length) : (xs.take (k + 1)).count v = (xs.take k).count v + if xs[k] = v then 1 else 0 := by
  rw [List.take_succ_eq_append_getElem h, List.count_append, List.count_singleton]
  simp
theorem count_all {xs : List Int} {v : Int} {k : Nat} (h : ¬ k < xs.length) : (xs.take k).count v = xs.count v := by rw [List.take_of_length_le (by omega)]
theorem count_take {xs : List Int} {v : Int} (k : Nat) : (xs.take k).count v ≤ xs.length := by
  have h1 := List.count_le_length (a := v) (l := xs.take k)
  rw [List.length_take] at h1
  omega
/-- The last place below n with a property; -1 where there is none. -/
def lastIx (P : Nat → Bool) : Nat → Int
  | 0 => -1
  | n + 1 => cond (P n) (n : Int) (lastIx P n)
def usesV (v : Int) (ss : List St) (r : Int) : Int := if sumS W1 ss ≤ 600 then ((sumS (Wu v) ss + (Wu v).b r : Nat) : Int) else -1
def lastUseV (v : Int) (ss : List St) (r : Int) : Int := if sumS W1 ss ≤ 600 then (if r = v then (ss.length : Int) else lastIx (fun k => decide (0 < (nthS ss k).sum (Wu v))) ss.length) else -1
end Go.Proofs.Ytdooageiopnhaaa
