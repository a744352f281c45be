/- Blocks as data: steps with their blocks, what a slice of them reads as, sums over them. Nothing here speaks of a program. -/
import Derived.Test.YtdooageiopnhaaaLib
namespace Go.Proofs.Ytdooageiopnhaaa
open Go.RowKit
mutual
inductive St where
  | mk (op num into : Int) (args : List Int) (kids : List Bl)
inductive Bl where
  | mk (steps : List St) (result : Int)
end
def St.op : St → Int
  | .mk o _ _ _ _ => o
def St.num : St → Int
  | .mk _ n _ _ _ => n
def St.into : St → Int
  | .mk _ _ i _ _ => i
def St.args : St → List Int
  | .mk _ _ _ a _ => a
def St.kids : St → List Bl
  | .mk _ _ _ _ k => k
def Bl.steps : Bl → List St
  | .mk s _ => s
def Bl.result : Bl → Int
  | .mk _ r => r
def noSt : St := .mk 0 0 0 [] []
def noBl : Bl := .mk [] 0
def nthS (ss : List St) (i : Nat) : St := ss.getD i noSt
def nthB (bs : List Bl) (i : Nat) : Bl := bs.getD i noBl
theorem nthS_of {ss : List St} {i : Nat} (h : i < ss.length) : nthS ss i = ss[i] := by simp [nthS, h]
theorem nthB_of {bs : List Bl} {i : Nat} (h : i < bs.length) : nthB bs i = bs[i] := by simp [nthB, h]
def stCell (s : St) (a k : Value) (j : Nat) : Value := if j = 0 then .int .i64 s.op else if j = 1 then .int .i64 s.num else if j = 2 then .int .i64 s.into else if j = 3 then a else k
def blCell (b : Bl) (v : Value) (j : Nat) : Value := if j = 0 then v else .int .i64 b.result
/-- A slice of steps, read to every depth: the slices of its blocks by their parts. -/
inductive Sts (w : World) (L U : Nat) : Value → List St → Prop
  | mk (A : Option Addr) (c : Nat) (VA : Nat → Value) (KA : Nat → Option Addr) (KC : Nat → Nat) (KV : Nat → Nat → Value) (ss : List St)
      (r : Row w L U 5 A ss.length c (fun i j => stCell (nthS ss i) (VA i) (.slice (KA i) (nthS ss i).kids.length (KC i)) j))
      (ha : ∀ i, i < ss.length → Ints w L U (VA i) (nthS ss i).args)
      (hk : ∀ i, i < ss.length → Row w L U 2 (KA i) (nthS ss i).kids.length (KC i) (fun j x => blCell (nthB (nthS ss i).kids j) (KV i j) x))
      (h : ∀ i, i < ss.length → ∀ j, j < (nthS ss i).kids.length → Sts w L U (KV i j) (nthB (nthS ss i).kids j).steps) : Sts w L U (.slice A ss.length c) ss
theorem Sts.keep {w w' : World} {L U : Nat} {v : Value} {ss : List St} (h : Sts w L U v ss) (s : Same L U w w') : Sts w' L U v ss := by
  induction h with
  | mk A c VA KA KC KV ss r ha hk _ ih => exact .mk A c VA KA KC KV ss (r.keep s) (fun i hi => (ha i hi).keep s) (fun i hi => (hk i hi).keep s) ih
theorem Sts.wide {w : World} {L U L' U' : Nat} {v : Value} {ss : List St} (h : Sts w L U v ss) (hL : L' ≤ L) (hU : U ≤ U') : Sts w L' U' v ss := by
  induction h with
  | mk A c VA KA KC KV ss r ha hk _ ih => exact .mk A c VA KA KC KV ss (r.wide hL hU) (fun i hi => (ha i hi).wide hL hU) (fun i hi => (hk i hi).wide hL hU) ih
theorem Sts.open_ {w : World} {L U : Nat} {v : Value} {ss : List St} (h : Sts w L U v ss) : ∃ A c, v = .slice A ss.length c ∧ ss.length ≤ c ∧ c ≤ 9223372036854775807 := by
  cases h with
  | mk A c VA KA KC KV ss r ha hk h => exact ⟨A, c, rfl, r.le, r.cap⟩
theorem srow_at {w : World} {L U : Nat} {A : Option Addr} {n c k : Nat} {s : Nat → St} {VA VK : Nat → Value} (r : Row w L U 5 A n c (fun i j => stCell (s i) (VA i) (VK i) j)) (hk : k < n) :
    ∃ b o, A = some ⟨b, o, none⟩ ∧ L ≤ b ∧ b < U ∧ w.cell? ⟨b, o + k * 5, none⟩ = some (.int .i64 (s k).op) ∧ w.cell? ⟨b, o + k * 5 + 1, none⟩ = some (.int .i64 (s k).num) ∧ w.cell? ⟨b, o + k * 5 + 2, none⟩ = some (.int .i64 (s k).into) ∧
      w.cell? ⟨b, o + k * 5 + 3, none⟩ = some (VA k) ∧ w.cell? ⟨b, o + k * 5 + 4, none⟩ = some (VK k) := by
  obtain ⟨b, o, e, h1, h2, hc⟩ := r.place (by omega)
  exact ⟨b, o, e, h1, h2, hc k 0 hk (by omega), hc k 1 hk (by omega), hc k 2 hk (by omega), hc k 3 hk (by omega), hc k 4 hk (by omega)⟩
theorem brow_at {w : World} {L U : Nat} {A : Option Addr} {n c k : Nat} {s : Nat → Bl} {V : Nat → Value} (r : Row w L U 2 A n c (fun i j => blCell (s i) (V i) j)) (hk : k < n) :
    ∃ b o, A = some ⟨b, o, none⟩ ∧ L ≤ b ∧ b < U ∧ w.cell? ⟨b, o + k * 2, none⟩ = some (V k) ∧ w.cell? ⟨b, o + k * 2 + 1, none⟩ = some (.int .i64 (s k).result) := by
  obtain ⟨b, o, e, h1, h2, hc⟩ := r.place (by omega)
  exact ⟨b, o, e, h1, h2, hc k 0 hk (by omega), hc k 1 hk (by omega)⟩
/-- What is added up: of a step, whether its blocks count, of a block's end. -/
structure Wt where
  s : Int → List Int → Nat
  k : Int → Bool
  b : Int → Nat
mutual
def St.sum (W : Wt) : St → Nat
  | .mk o _ _ a ks => W.s o a + cond (W.k o) (sumB W ks) 0
def Bl.sum (W : Wt) : Bl → Nat
  | .mk ss r => sumS W ss + W.b r
def sumB (W : Wt) : List Bl → Nat
  | [] => 0
  | b :: bs => b.sum W + sumB W bs
def sumS (W : Wt) : List St → Nat
  | [] => 0
  | s :: ss => s.sum W + sumS W ss
end
theorem st_sum (W : Wt) (s : St) : s.sum W = W.s s.op s.args + cond (W.k s.op) (sumB W s.kids) 0 := by cases s; simp [St.sum, St.op, St.args, St.kids]
theorem bl_sum (W : Wt) (b : Bl) : b.sum W = sumS W b.steps + W.b b.result := by cases b; simp [Bl.sum, Bl.steps, Bl.result]
theorem sumS_append (W : Wt) (a b : List St) : sumS W (a ++ b) = sumS W a + sumS W b := by
  induction a with
  | nil => simp [sumS]
  | cons x a ih => simp only [List.cons_append, sumS, ih]; omega
theorem sumB_append (W : Wt) (a b : List Bl) : sumB W (a ++ b) = sumB W a + sumB W b := by
  induction a with
  | nil => simp [sumB]
  | cons x a ih => simp only [List.cons_append, sumB, ih]; omega
theorem sumS_step (W : Wt) {ss : List St} {k : Nat} (h : k < ss.length) : sumS W (ss.take (k + 1)) = sumS W (ss.take k) + (nthS ss k).sum W := by
  rw [List.take_succ_eq_append_getElem h, sumS_append, nthS_of h]; simp [sumS]
theorem sumB_step (W : Wt) {bs : List Bl} {k : Nat} (h : k < bs.length) : sumB W (bs.take (k + 1)) = sumB W (bs.take k) + (nthB bs k).sum W := by
  rw [List.take_succ_eq_append_getElem h, sumB_append, nthB_of h]; simp [sumB]
theorem sumS_take (W : Wt) (ss : List St) (k : Nat) : sumS W (ss.take k) ≤ sumS W ss := by
  have := sumS_append W (ss.take k) (ss.drop k)
  rw [List.take_append_drop] at this
  omega
theorem sumB_take (W : Wt) (bs : List Bl) (k : Nat) : sumB W (bs.take k) ≤ sumB W bs := by
  have := sumB_append W (bs.take k) (bs.drop k)
  rw [List.take_append_drop] at this
  omega
theorem sumS_all (W : Wt) {ss : List St} {k : Nat} (h : ¬ k < ss.length) : sumS W (ss.take k) = sumS W ss := by rw [List.take_of_length_le (by omega)]
theorem sumB_all (W : Wt) {bs : List Bl} {k : Nat} (h : ¬ k < bs.length) : sumB W (bs.take k) = sumB W bs := by rw [List.take_of_length_le (by omega)]
theorem sumS_mem (W : Wt) {ss : List St} {k : Nat} (h : k < ss.length) : (nthS ss k).sum W ≤ sumS W ss := by
  have h1 := sumS_step W h
  have h2 := sumS_take W ss (k + 1)
  omega
theorem sumB_mem (W : Wt) {bs : List Bl} {k : Nat} (h : k < bs.length) : (nthB bs k).sum W ≤ sumB W bs := by
  have h1 := sumB_step W h
  have h2 := sumB_take W bs (k + 1)
  omega
/-- The number of steps. -/
def W1 : Wt := ⟨fun _ _ => 1, fun _ => true, fun _ => 0⟩
/-- The size as the exact laws count it. -/
def Wz : Wt := ⟨fun _ a => 1 + a.length, fun _ => true, fun _ => 1⟩
def stepsOfV (ss : List St) : Int := if sumS W1 ss ≤ 600 then ((sumS W1 ss : Nat) : Int) else -1
end Go.Proofs.Ytdooageiopnhaaa
