/- Words for runs that are told place by place: rows, sizes, numbers, and what data there are. Nothing here speaks of a program. -/
import Derived.Test.YtoljlooeiljpfaaOc
import Derived.Test.YtoljlooeiljpfaaOb
namespace Go.Proofs.Ytoljlooeiljpfaa
open Go

/-- Sizes: the lengths of all lists, added up. -/
def acS : AC → Nat
  | .int _ => 0
  | .bool _ => 0
  | .sl _ rows => rows.length + rsS rows
where
  rsS : List (List AC) → Nat
    | [] => 0
    | r :: rs => cS r + rsS rs
  cS : List AC → Nat
    | [] => 0
    | c :: cs => acS c + cS cs
abbrev cS := acS.cS
abbrev rsS := acS.rsS
theorem cS_nil : cS [] = 0 := by simp [cS, acS.cS]
theorem cS_int (n : Int) (cs : List AC) : cS (.int n :: cs) = cS cs := by simp [cS, acS.cS, acS]
theorem cS_bool (n : Bool) (cs : List AC) : cS (.bool n :: cs) = cS cs := by simp [cS, acS.cS, acS]
theorem cS_sl (k : Nat) (r : List (List AC)) (cs : List AC) : cS (.sl k r :: cs) = r.length + rsS r + cS cs := by simp [cS, acS.cS, acS, rsS]
theorem rsS_nil : rsS [] = 0 := by simp [rsS, acS.rsS]
theorem rsS_cons (r : List AC) (rs : List (List AC)) : rsS (r :: rs) = cS r + rsS rs := by simp [rsS, acS.rsS, cS]
theorem rsS_drop {rs : List (List AC)} {k : Nat} (h : k < rs.length) : rsS (rs.drop k) = cS (rs.getD k []) + rsS (rs.drop (k + 1)) := by
  rw [List.drop_eq_getElem_cons h, rsS_cons]
  simp [List.getD, h]
theorem rsS_mem {rs : List (List AC)} {r : List AC} (h : r ∈ rs) : cS r ≤ rsS rs := by
  induction rs with
  | nil => cases h
  | cons x rs ih =>
    rw [rsS_cons]
    rcases List.mem_cons.1 h with rfl | h
    · omega
    · have := ih h; omega
/-- Rows of numbers. -/
def intsC (xs : List Int) : List (List AC) := xs.map fun n => [.int n]
theorem intsC_len (xs : List Int) : (intsC xs).length = xs.length := by simp [intsC]
theorem rsS_ints (xs : List Int) : rsS (intsC xs) = 0 := by
  induction xs with
  | nil => exact rsS_nil
  | cons x xs ih =>
    show rsS ([.int x] :: intsC xs) = 0
    rw [rsS_cons, cS_int, cS_nil, ih]
theorem intsC_get {xs : List Int} {k : Nat} (h : k < xs.length) : (intsC xs).getD k [] = [.int xs[k]] := by simp [intsC, List.getD, h]
theorem intsC_append (xs ys : List Int) : intsC xs ++ intsC ys = intsC (xs ++ ys) := by simp [intsC]
theorem intsC_take (xs : List Int) (n : Nat) : (intsC xs).take n = intsC (xs.take n) := by simp [intsC]
theorem intsC_drop (xs : List Int) (n : Nat) : (intsC xs).drop n = intsC (xs.drop n) := by simp [intsC]
def inI (n : Int) : Prop := -9223372036854775808 ≤ n ∧ n ≤ 9223372036854775807
def maxI : Nat := 9223372036854775807
structure IntsOk (xs : List Int) : Prop where
  len : xs.length ≤ maxI
  all : ∀ x ∈ xs, inI x
theorem wr {n : Int} (h1 : -9223372036854775808 ≤ n) (h2 : n ≤ 9223372036854775807) : wrapI n = n := wrap_in h1 h2
theorem wrk {k : Nat} (h : k < maxI) : wrapI ((k : Int) + 1) = ((k + 1 : Nat) : Int) := by
  unfold maxI at h
  rw [wr (by omega) (by omega)]
  omega

section
variable {ρ : Type} {r : ρ}
theorem at_to {rows : List (List AC)} {k : Nat} (h : k < rows.length) {sh : List AC} {K : Fn (Option ρ) sh} (h2 : openF sh (rows.getD k []) K = some r) : atR_ rows (k : Int) sh K = some r := by
  unfold atR_ okIdx
  rw [decide_eq_true (by omega), decide_eq_true (by omega)]
  exact h2
theorem callI {x : Option AV} {n : Int} (h : x = some (.v (.cell (.int n)))) {K : Fn (Option ρ) (shapesOf [(false, [.int 0])])} (h2 : (K : Int → Option ρ) n = some r) : callR x false [(false, [.int 0])] K = some r := by rw [h]; exact h2
theorem callB {x : Option AV} {n : Bool} (h : x = some (.v (.cell (.bool n)))) {K : Fn (Option ρ) (shapesOf [(false, [.bool false])])} (h2 : (K : Bool → Option ρ) n = some r) : callR x false [(false, [.bool false])] K = some r := by rw [h]; exact h2
theorem callS {x : Option AV} {k : Nat} {l : List (List AC)} (h : x = some (.v (.cell (.sl k l)))) {K : Fn (Option ρ) (shapesOf [(false, [.sl k []])])} (h2 : (K : List (List AC) → Option ρ) l = some r) : callR x false [(false, [.sl k []])] K = some r := by
  rw [h]
  show (bif Nat.beq k k then _ else none) = _
  rw [Nat.beq_refl]
  exact h2
theorem appTo {l l' : List (List AC)} (h : l.length + l'.length ≤ 68719476736) {K : List (List AC) → Option ρ} (h2 : K (l ++ l') = some r) : appR l l' K = some r := by
  unfold appR lim36
  rw [decide_eq_true (by rw [List.length_append]; exact h)]
  exact h2
theorem cutTo {l : List (List AC)} {lo hi : Int} (h0 : 0 ≤ lo) (h1 : lo ≤ hi) (h2 : hi ≤ l.length) {K : List (List AC) → Option ρ} (h3 : K ((l.drop lo.toNat).take (hi.toNat - lo.toNat)) = some r) : cutR l lo hi K = some r := by
  unfold cutR
  rw [decide_eq_true ⟨h0, h1, h2⟩]
  exact h3
theorem bifT {b : Bool} {x y : Option ρ} (h : b = true) (h2 : x = some r) : (bif b then x else y) = some r := by rw [h]; exact h2
theorem bifF {b : Bool} {x y : Option ρ} (h : b = false) (h2 : y = some r) : (bif b then x else y) = some r := by rw [h]; exact h2
theorem atInt {rows : List (List AC)} {k : Nat} (h : k < rows.length) {a0 : Int} (e : rows.getD k [] = [.int a0]) {K : Fn (Option ρ) [.int 0]} (h2 : (K : Int → Option ρ) a0 = some r) : atR_ rows (k : Int) [.int 0] K = some r := at_to h (by rw [e]; exact h2)
theorem atInt0 {rows : List (List AC)} (h : 0 < rows.length) {a0 : Int} (e : rows.getD 0 [] = [.int a0]) {K : Fn (Option ρ) [.int 0]} (h2 : (K : Int → Option ρ) a0 = some r) : atR_ rows 0 [.int 0] K = some r := atInt h e h2
theorem atCon {rows : List (List AC)} {k : Nat} (h : k < rows.length) {a0 : List (List AC)} (e : rows.getD k [] = [.sl 1 a0]) {K : Fn (Option ρ) [.sl 1 []]} (h2 : (K : List (List AC) → Option ρ) a0 = some r) : atR_ rows (k : Int) [.sl 1 []] K = some r := at_to h (by rw [e]; exact h2)
theorem atCon0 {rows : List (List AC)} (h : 0 < rows.length) {a0 : List (List AC)} (e : rows.getD 0 [] = [.sl 1 a0]) {K : Fn (Option ρ) [.sl 1 []]} (h2 : (K : List (List AC) → Option ρ) a0 = some r) : atR_ rows 0 [.sl 1 []] K = some r := atCon h e h2
theorem callCon {x : Option AV} {a0 : List (List AC)} (h : x = some (.v (.agg [.sl 1 a0]))) {K : Fn (Option ρ) (shapesOf [(true, [.sl 1 []])])} (h2 : (K : List (List AC) → Option ρ) a0 = some r) : callR x false [(true, [.sl 1 []])] K = some r := by rw [h]; exact h2
theorem atDecl {rows : List (List AC)} {k : Nat} (h : k < rows.length) {a0 : Int} {a1 : Int} {a2 : List (List AC)} (e : rows.getD k [] = [.int a0, .int a1, .sl 1 a2]) {K : Fn (Option ρ) [.int 0, .int 0, .sl 1 []]} (h2 : (K : Int → Int → List (List AC) → Option ρ) a0 a1 a2 = some r) : atR_ rows (k : Int) [.int 0, .int 0, .sl 1 []] K = some r := at_to h (by rw [e]; exact h2)
theorem atDecl0 {rows : List (List AC)} (h : 0 < rows.length) {a0 : Int} {a1 : Int} {a2 : List (List AC)} (e : rows.getD 0 [] = [.int a0, .int a1, .sl 1 a2]) {K : Fn (Option ρ) [.int 0, .int 0, .sl 1 []]} (h2 : (K : Int → Int → List (List AC) → Option ρ) a0 a1 a2 = some r) : atR_ rows 0 [.int 0, .int 0, .sl 1 []] K = some r := atDecl h e h2
theorem callDecl {x : Option AV} {a0 : Int} {a1 : Int} {a2 : List (List AC)} (h : x = some (.v (.agg [.int a0, .int a1, .sl 1 a2]))) {K : Fn (Option ρ) (shapesOf [(true, [.int 0, .int 0, .sl 1 []])])} (h2 : (K : Int → Int → List (List AC) → Option ρ) a0 a1 a2 = some r) : callR x false [(true, [.int 0, .int 0, .sl 1 []])] K = some r := by rw [h]; exact h2
theorem atExpr {rows : List (List AC)} {k : Nat} (h : k < rows.length) {a0 : Int} {a1 : Int} {a2 : List (List AC)} (e : rows.getD k [] = [.int a0, .int a1, .sl 3 a2]) {K : Fn (Option ρ) [.int 0, .int 0, .sl 3 []]} (h2 : (K : Int → Int → List (List AC) → Option ρ) a0 a1 a2 = some r) : atR_ rows (k : Int) [.int 0, .int 0, .sl 3 []] K = some r := at_to h (by rw [e]; exact h2)
theorem atExpr0 {rows : List (List AC)} (h : 0 < rows.length) {a0 : Int} {a1 : Int} {a2 : List (List AC)} (e : rows.getD 0 [] = [.int a0, .int a1, .sl 3 a2]) {K : Fn (Option ρ) [.int 0, .int 0, .sl 3 []]} (h2 : (K : Int → Int → List (List AC) → Option ρ) a0 a1 a2 = some r) : atR_ rows 0 [.int 0, .int 0, .sl 3 []] K = some r := atExpr h e h2
theorem callExpr {x : Option AV} {a0 : Int} {a1 : Int} {a2 : List (List AC)} (h : x = some (.v (.agg [.int a0, .int a1, .sl 3 a2]))) {K : Fn (Option ρ) (shapesOf [(true, [.int 0, .int 0, .sl 3 []])])} (h2 : (K : Int → Int → List (List AC) → Option ρ) a0 a1 a2 = some r) : callR x false [(true, [.int 0, .int 0, .sl 3 []])] K = some r := by rw [h]; exact h2
theorem atFunc {rows : List (List AC)} {k : Nat} (h : k < rows.length) {a0 : List (List AC)} {a1 : Int} {a2 : Int} {a3 : Int} {a4 : List (List AC)} (e : rows.getD k [] = [.sl 1 a0, .int a1, .int a2, .int a3, .sl 3 a4]) {K : Fn (Option ρ) [.sl 1 [], .int 0, .int 0, .int 0, .sl 3 []]} (h2 : (K : List (List AC) → Int → Int → Int → List (List AC) → Option ρ) a0 a1 a2 a3 a4 = some r) : atR_ rows (k : Int) [.sl 1 [], .int 0, .int 0, .int 0, .sl 3 []] K = some r := at_to h (by rw [e]; exact h2)
theorem atFunc0 {rows : List (List AC)} (h : 0 < rows.length) {a0 : List (List AC)} {a1 : Int} {a2 : Int} {a3 : Int} {a4 : List (List AC)} (e : rows.getD 0 [] = [.sl 1 a0, .int a1, .int a2, .int a3, .sl 3 a4]) {K : Fn (Option ρ) [.sl 1 [], .int 0, .int 0, .int 0, .sl 3 []]} (h2 : (K : List (List AC) → Int → Int → Int → List (List AC) → Option ρ) a0 a1 a2 a3 a4 = some r) : atR_ rows 0 [.sl 1 [], .int 0, .int 0, .int 0, .sl 3 []] K = some r := atFunc h e h2
theorem callFunc {x : Option AV} {a0 : List (List AC)} {a1 : Int} {a2 : Int} {a3 : Int} {a4 : List (List AC)} (h : x = some (.v (.agg [.sl 1 a0, .int a1, .int a2, .int a3, .sl 3 a4]))) {K : Fn (Option ρ) (shapesOf [(true, [.sl 1 [], .int 0, .int 0, .int 0, .sl 3 []])])} (h2 : (K : List (List AC) → Int → Int → Int → List (List AC) → Option ρ) a0 a1 a2 a3 a4 = some r) : callR x false [(true, [.sl 1 [], .int 0, .int 0, .int 0, .sl 3 []])] K = some r := by rw [h]; exact h2
theorem atStep {rows : List (List AC)} {k : Nat} (h : k < rows.length) {a0 : Int} {a1 : Int} {a2 : Int} {a3 : List (List AC)} {a4 : List (List AC)} (e : rows.getD k [] = [.int a0, .int a1, .int a2, .sl 1 a3, .sl 2 a4]) {K : Fn (Option ρ) [.int 0, .int 0, .int 0, .sl 1 [], .sl 2 []]} (h2 : (K : Int → Int → Int → List (List AC) → List (List AC) → Option ρ) a0 a1 a2 a3 a4 = some r) : atR_ rows (k : Int) [.int 0, .int 0, .int 0, .sl 1 [], .sl 2 []] K = some r := at_to h (by rw [e]; exact h2)
theorem atStep0 {rows : List (List AC)} (h : 0 < rows.length) {a0 : Int} {a1 : Int} {a2 : Int} {a3 : List (List AC)} {a4 : List (List AC)} (e : rows.getD 0 [] = [.int a0, .int a1, .int a2, .sl 1 a3, .sl 2 a4]) {K : Fn (Option ρ) [.int 0, .int 0, .int 0, .sl 1 [], .sl 2 []]} (h2 : (K : Int → Int → Int → List (List AC) → List (List AC) → Option ρ) a0 a1 a2 a3 a4 = some r) : atR_ rows 0 [.int 0, .int 0, .int 0, .sl 1 [], .sl 2 []] K = some r := atStep h e h2
theorem callStep {x : Option AV} {a0 : Int} {a1 : Int} {a2 : Int} {a3 : List (List AC)} {a4 : List (List AC)} (h : x = some (.v (.agg [.int a0, .int a1, .int a2, .sl 1 a3, .sl 2 a4]))) {K : Fn (Option ρ) (shapesOf [(true, [.int 0, .int 0, .int 0, .sl 1 [], .sl 2 []])])} (h2 : (K : Int → Int → Int → List (List AC) → List (List AC) → Option ρ) a0 a1 a2 a3 a4 = some r) : callR x false [(true, [.int 0, .int 0, .int 0, .sl 1 [], .sl 2 []])] K = some r := by rw [h]; exact h2
theorem atBlock {rows : List (List AC)} {k : Nat} (h : k < rows.length) {a0 : List (List AC)} {a1 : Int} (e : rows.getD k [] = [.sl 5 a0, .int a1]) {K : Fn (Option ρ) [.sl 5 [], .int 0]} (h2 : (K : List (List AC) → Int → Option ρ) a0 a1 = some r) : atR_ rows (k : Int) [.sl 5 [], .int 0] K = some r := at_to h (by rw [e]; exact h2)
theorem atBlock0 {rows : List (List AC)} (h : 0 < rows.length) {a0 : List (List AC)} {a1 : Int} (e : rows.getD 0 [] = [.sl 5 a0, .int a1]) {K : Fn (Option ρ) [.sl 5 [], .int 0]} (h2 : (K : List (List AC) → Int → Option ρ) a0 a1 = some r) : atR_ rows 0 [.sl 5 [], .int 0] K = some r := atBlock h e h2
theorem callBlock {x : Option AV} {a0 : List (List AC)} {a1 : Int} (h : x = some (.v (.agg [.sl 5 a0, .int a1]))) {K : Fn (Option ρ) (shapesOf [(true, [.sl 5 [], .int 0])])} (h2 : (K : List (List AC) → Int → Option ρ) a0 a1 = some r) : callR x false [(true, [.sl 5 [], .int 0])] K = some r := by rw [h]; exact h2
theorem atRoutine {rows : List (List AC)} {k : Nat} (h : k < rows.length) {a0 : List (List AC)} {a1 : List (List AC)} {a2 : Int} {a3 : List (List AC)} {a4 : Int} (e : rows.getD k [] = [.sl 1 a0, .sl 1 a1, .int a2, .sl 5 a3, .int a4]) {K : Fn (Option ρ) [.sl 1 [], .sl 1 [], .int 0, .sl 5 [], .int 0]} (h2 : (K : List (List AC) → List (List AC) → Int → List (List AC) → Int → Option ρ) a0 a1 a2 a3 a4 = some r) : atR_ rows (k : Int) [.sl 1 [], .sl 1 [], .int 0, .sl 5 [], .int 0] K = some r := at_to h (by rw [e]; exact h2)
theorem atRoutine0 {rows : List (List AC)} (h : 0 < rows.length) {a0 : List (List AC)} {a1 : List (List AC)} {a2 : Int} {a3 : List (List AC)} {a4 : Int} (e : rows.getD 0 [] = [.sl 1 a0, .sl 1 a1, .int a2, .sl 5 a3, .int a4]) {K : Fn (Option ρ) [.sl 1 [], .sl 1 [], .int 0, .sl 5 [], .int 0]} (h2 : (K : List (List AC) → List (List AC) → Int → List (List AC) → Int → Option ρ) a0 a1 a2 a3 a4 = some r) : atR_ rows 0 [.sl 1 [], .sl 1 [], .int 0, .sl 5 [], .int 0] K = some r := atRoutine h e h2
theorem callRoutine {x : Option AV} {a0 : List (List AC)} {a1 : List (List AC)} {a2 : Int} {a3 : List (List AC)} {a4 : Int} (h : x = some (.v (.agg [.sl 1 a0, .sl 1 a1, .int a2, .sl 5 a3, .int a4]))) {K : Fn (Option ρ) (shapesOf [(true, [.sl 1 [], .sl 1 [], .int 0, .sl 5 [], .int 0])])} (h2 : (K : List (List AC) → List (List AC) → Int → List (List AC) → Int → Option ρ) a0 a1 a2 a3 a4 = some r) : callR x false [(true, [.sl 1 [], .sl 1 [], .int 0, .sl 5 [], .int 0])] K = some r := by rw [h]; exact h2
theorem atProg {rows : List (List AC)} {k : Nat} (h : k < rows.length) {a0 : List (List AC)} {a1 : List (List AC)} (e : rows.getD k [] = [.sl 3 a0, .sl 5 a1]) {K : Fn (Option ρ) [.sl 3 [], .sl 5 []]} (h2 : (K : List (List AC) → List (List AC) → Option ρ) a0 a1 = some r) : atR_ rows (k : Int) [.sl 3 [], .sl 5 []] K = some r := at_to h (by rw [e]; exact h2)
theorem atProg0 {rows : List (List AC)} (h : 0 < rows.length) {a0 : List (List AC)} {a1 : List (List AC)} (e : rows.getD 0 [] = [.sl 3 a0, .sl 5 a1]) {K : Fn (Option ρ) [.sl 3 [], .sl 5 []]} (h2 : (K : List (List AC) → List (List AC) → Option ρ) a0 a1 = some r) : atR_ rows 0 [.sl 3 [], .sl 5 []] K = some r := atProg h e h2
theorem callProg {x : Option AV} {a0 : List (List AC)} {a1 : List (List AC)} (h : x = some (.v (.agg [.sl 3 a0, .sl 5 a1]))) {K : Fn (Option ρ) (shapesOf [(true, [.sl 3 [], .sl 5 []])])} (h2 : (K : List (List AC) → List (List AC) → Option ρ) a0 a1 = some r) : callR x false [(true, [.sl 3 [], .sl 5 []])] K = some r := by rw [h]; exact h2
theorem atInstr {rows : List (List AC)} {k : Nat} (h : k < rows.length) {a0 : Int} {a1 : Int} {a2 : Int} {a3 : Int} {a4 : List (List AC)} {a5 : List (List AC)} (e : rows.getD k [] = [.int a0, .int a1, .int a2, .int a3, .sl 1 a4, .sl 1 a5]) {K : Fn (Option ρ) [.int 0, .int 0, .int 0, .int 0, .sl 1 [], .sl 1 []]} (h2 : (K : Int → Int → Int → Int → List (List AC) → List (List AC) → Option ρ) a0 a1 a2 a3 a4 a5 = some r) : atR_ rows (k : Int) [.int 0, .int 0, .int 0, .int 0, .sl 1 [], .sl 1 []] K = some r := at_to h (by rw [e]; exact h2)
theorem atInstr0 {rows : List (List AC)} (h : 0 < rows.length) {a0 : Int} {a1 : Int} {a2 : Int} {a3 : Int} {a4 : List (List AC)} {a5 : List (List AC)} (e : rows.getD 0 [] = [.int a0, .int a1, .int a2, .int a3, .sl 1 a4, .sl 1 a5]) {K : Fn (Option ρ) [.int 0, .int 0, .int 0, .int 0, .sl 1 [], .sl 1 []]} (h2 : (K : Int → Int → Int → Int → List (List AC) → List (List AC) → Option ρ) a0 a1 a2 a3 a4 a5 = some r) : atR_ rows 0 [.int 0, .int 0, .int 0, .int 0, .sl 1 [], .sl 1 []] K = some r := atInstr h e h2
theorem callInstr {x : Option AV} {a0 : Int} {a1 : Int} {a2 : Int} {a3 : Int} {a4 : List (List AC)} {a5 : List (List AC)} (h : x = some (.v (.agg [.int a0, .int a1, .int a2, .int a3, .sl 1 a4, .sl 1 a5]))) {K : Fn (Option ρ) (shapesOf [(true, [.int 0, .int 0, .int 0, .int 0, .sl 1 [], .sl 1 []])])} (h2 : (K : Int → Int → Int → Int → List (List AC) → List (List AC) → Option ρ) a0 a1 a2 a3 a4 a5 = some r) : callR x false [(true, [.int 0, .int 0, .int 0, .int 0, .sl 1 [], .sl 1 []])] K = some r := by rw [h]; exact h2
theorem atProc {rows : List (List AC)} {k : Nat} (h : k < rows.length) {a0 : List (List AC)} {a1 : List (List AC)} {a2 : Int} {a3 : Int} {a4 : List (List AC)} (e : rows.getD k [] = [.sl 1 a0, .sl 1 a1, .int a2, .int a3, .sl 6 a4]) {K : Fn (Option ρ) [.sl 1 [], .sl 1 [], .int 0, .int 0, .sl 6 []]} (h2 : (K : List (List AC) → List (List AC) → Int → Int → List (List AC) → Option ρ) a0 a1 a2 a3 a4 = some r) : atR_ rows (k : Int) [.sl 1 [], .sl 1 [], .int 0, .int 0, .sl 6 []] K = some r := at_to h (by rw [e]; exact h2)
theorem atProc0 {rows : List (List AC)} (h : 0 < rows.length) {a0 : List (List AC)} {a1 : List (List AC)} {a2 : Int} {a3 : Int} {a4 : List (List AC)} (e : rows.getD 0 [] = [.sl 1 a0, .sl 1 a1, .int a2, .int a3, .sl 6 a4]) {K : Fn (Option ρ) [.sl 1 [], .sl 1 [], .int 0, .int 0, .sl 6 []]} (h2 : (K : List (List AC) → List (List AC) → Int → Int → List (List AC) → Option ρ) a0 a1 a2 a3 a4 = some r) : atR_ rows 0 [.sl 1 [], .sl 1 [], .int 0, .int 0, .sl 6 []] K = some r := atProc h e h2
theorem callProc {x : Option AV} {a0 : List (List AC)} {a1 : List (List AC)} {a2 : Int} {a3 : Int} {a4 : List (List AC)} (h : x = some (.v (.agg [.sl 1 a0, .sl 1 a1, .int a2, .int a3, .sl 6 a4]))) {K : Fn (Option ρ) (shapesOf [(true, [.sl 1 [], .sl 1 [], .int 0, .int 0, .sl 6 []])])} (h2 : (K : List (List AC) → List (List AC) → Int → Int → List (List AC) → Option ρ) a0 a1 a2 a3 a4 = some r) : callR x false [(true, [.sl 1 [], .sl 1 [], .int 0, .int 0, .sl 6 []])] K = some r := by rw [h]; exact h2
theorem atFrame {rows : List (List AC)} {k : Nat} (h : k < rows.length) {a0 : Int} {a1 : Int} {a2 : Int} {a3 : List (List AC)} {a4 : List (List AC)} {a5 : List (List AC)} (e : rows.getD k [] = [.int a0, .int a1, .int a2, .sl 1 a3, .sl 1 a4, .sl 1 a5]) {K : Fn (Option ρ) [.int 0, .int 0, .int 0, .sl 1 [], .sl 1 [], .sl 1 []]} (h2 : (K : Int → Int → Int → List (List AC) → List (List AC) → List (List AC) → Option ρ) a0 a1 a2 a3 a4 a5 = some r) : atR_ rows (k : Int) [.int 0, .int 0, .int 0, .sl 1 [], .sl 1 [], .sl 1 []] K = some r := at_to h (by rw [e]; exact h2)
theorem atFrame0 {rows : List (List AC)} (h : 0 < rows.length) {a0 : Int} {a1 : Int} {a2 : Int} {a3 : List (List AC)} {a4 : List (List AC)} {a5 : List (List AC)} (e : rows.getD 0 [] = [.int a0, .int a1, .int a2, .sl 1 a3, .sl 1 a4, .sl 1 a5]) {K : Fn (Option ρ) [.int 0, .int 0, .int 0, .sl 1 [], .sl 1 [], .sl 1 []]} (h2 : (K : Int → Int → Int → List (List AC) → List (List AC) → List (List AC) → Option ρ) a0 a1 a2 a3 a4 a5 = some r) : atR_ rows 0 [.int 0, .int 0, .int 0, .sl 1 [], .sl 1 [], .sl 1 []] K = some r := atFrame h e h2
theorem callFrame {x : Option AV} {a0 : Int} {a1 : Int} {a2 : Int} {a3 : List (List AC)} {a4 : List (List AC)} {a5 : List (List AC)} (h : x = some (.v (.agg [.int a0, .int a1, .int a2, .sl 1 a3, .sl 1 a4, .sl 1 a5]))) {K : Fn (Option ρ) (shapesOf [(true, [.int 0, .int 0, .int 0, .sl 1 [], .sl 1 [], .sl 1 []])])} (h2 : (K : Int → Int → Int → List (List AC) → List (List AC) → List (List AC) → Option ρ) a0 a1 a2 a3 a4 a5 = some r) : callR x false [(true, [.int 0, .int 0, .int 0, .sl 1 [], .sl 1 [], .sl 1 []])] K = some r := by rw [h]; exact h2
theorem atState {rows : List (List AC)} {k : Nat} (h : k < rows.length) {a0 : Int} {a1 : Int} {a2 : Int} {a3 : Int} {a4 : List (List AC)} {a5 : List (List AC)} {a6 : List (List AC)} (e : rows.getD k [] = [.int a0, .int a1, .int a2, .int a3, .sl 1 a4, .sl 3 a5, .sl 6 a6]) {K : Fn (Option ρ) [.int 0, .int 0, .int 0, .int 0, .sl 1 [], .sl 3 [], .sl 6 []]} (h2 : (K : Int → Int → Int → Int → List (List AC) → List (List AC) → List (List AC) → Option ρ) a0 a1 a2 a3 a4 a5 a6 = some r) : atR_ rows (k : Int) [.int 0, .int 0, .int 0, .int 0, .sl 1 [], .sl 3 [], .sl 6 []] K = some r := at_to h (by rw [e]; exact h2)
theorem atState0 {rows : List (List AC)} (h : 0 < rows.length) {a0 : Int} {a1 : Int} {a2 : Int} {a3 : Int} {a4 : List (List AC)} {a5 : List (List AC)} {a6 : List (List AC)} (e : rows.getD 0 [] = [.int a0, .int a1, .int a2, .int a3, .sl 1 a4, .sl 3 a5, .sl 6 a6]) {K : Fn (Option ρ) [.int 0, .int 0, .int 0, .int 0, .sl 1 [], .sl 3 [], .sl 6 []]} (h2 : (K : Int → Int → Int → Int → List (List AC) → List (List AC) → List (List AC) → Option ρ) a0 a1 a2 a3 a4 a5 a6 = some r) : atR_ rows 0 [.int 0, .int 0, .int 0, .int 0, .sl 1 [], .sl 3 [], .sl 6 []] K = some r := atState h e h2
theorem callState {x : Option AV} {a0 : Int} {a1 : Int} {a2 : Int} {a3 : Int} {a4 : List (List AC)} {a5 : List (List AC)} {a6 : List (List AC)} (h : x = some (.v (.agg [.int a0, .int a1, .int a2, .int a3, .sl 1 a4, .sl 3 a5, .sl 6 a6]))) {K : Fn (Option ρ) (shapesOf [(true, [.int 0, .int 0, .int 0, .int 0, .sl 1 [], .sl 3 [], .sl 6 []])])} (h2 : (K : Int → Int → Int → Int → List (List AC) → List (List AC) → List (List AC) → Option ρ) a0 a1 a2 a3 a4 a5 a6 = some r) : callR x false [(true, [.int 0, .int 0, .int 0, .int 0, .sl 1 [], .sl 3 [], .sl 6 []])] K = some r := by rw [h]; exact h2
theorem atBool {rows : List (List AC)} {k : Nat} (h : k < rows.length) {a0 : Bool} (e : rows.getD k [] = [.bool a0]) {K : Fn (Option ρ) [.bool false]} (h2 : (K : Bool → Option ρ) a0 = some r) : atR_ rows (k : Int) [.bool false] K = some r := at_to h (by rw [e]; exact h2)
theorem atBool0 {rows : List (List AC)} (h : 0 < rows.length) {a0 : Bool} (e : rows.getD 0 [] = [.bool a0]) {K : Fn (Option ρ) [.bool false]} (h2 : (K : Bool → Option ρ) a0 = some r) : atR_ rows 0 [.bool false] K = some r := atBool h e h2
theorem atNum {xs : List Int} {k : Nat} (h : k < xs.length) {K : Fn (Option ρ) [.int 0]} (h2 : (K : Int → Option ρ) xs[k] = some r) : atR_ (intsC xs) (k : Int) [.int 0] K = some r := atInt (by rw [intsC_len]; exact h) (intsC_get h) h2
/-! Rows that are written. -/
def boolsC (xs : List Bool) : List (List AC) := xs.map fun b => [.bool b]
theorem boolsC_len (xs : List Bool) : (boolsC xs).length = xs.length := by simp [boolsC]
theorem idxTo {rows : List (List AC)} {k : Nat} (h : k < rows.length) {K : Nat → Option ρ} (h2 : K k = some r) : idxR rows (k : Int) K = some r := by
  unfold idxR okIdx
  rw [decide_eq_true (by omega), decide_eq_true (by omega)]
  exact h2
theorem intsC_set (xs : List Int) (k : Nat) (v : Int) : (intsC xs).set k [.int v] = intsC (xs.set k v) := by simp [intsC, List.map_set]
theorem boolsC_set (xs : List Bool) (k : Nat) (v : Bool) : (boolsC xs).set k [.bool v] = boolsC (xs.set k v) := by simp [boolsC, List.map_set]
theorem elNum {xs : List Int} {k : Nat} (h : k < xs.length) {K : Fn (Option ρ) [.int 0]} (h2 : (K : Int → Option ρ) xs[k] = some r) : idxR (intsC xs) (k : Int) (fun m => elR (intsC xs) m 0 1 [.int 0] K) = some r := by
  refine idxTo (by rw [intsC_len]; exact h) ?_
  unfold elR
  rw [show Nat.blt k (intsC xs).length = true by rw [Nat.blt_eq, intsC_len]; exact h, intsC_get h]
  exact h2
theorem elBool {xs : List Bool} {k : Nat} (h : k < xs.length) {K : Fn (Option ρ) [.bool false]} (h2 : (K : Bool → Option ρ) xs[k] = some r) : idxR (boolsC xs) (k : Int) (fun m => elR (boolsC xs) m 0 1 [.bool false] K) = some r := by
  refine idxTo (by rw [boolsC_len]; exact h) ?_
  unfold elR
  rw [show Nat.blt k (boolsC xs).length = true by rw [Nat.blt_eq, boolsC_len]; exact h, show (boolsC xs).getD k [] = [.bool xs[k]] by simp [boolsC, List.getD, h]]
  exact h2
theorem setNum {xs : List Int} {k : Nat} (h : k < xs.length) {v : Int} {K : List (List AC) → Option ρ} (h2 : K (intsC (xs.set k v)) = some r) : idxR (intsC xs) (k : Int) (fun m => setR (intsC xs) m 0 [.int v] K) = some r := by
  refine idxTo (by rw [intsC_len]; exact h) ?_
  unfold setR
  rw [show Nat.blt k (intsC xs).length = true by rw [Nat.blt_eq, intsC_len]; exact h, intsC_get h]
  show K ((intsC xs).set k [.int v]) = some r
  rw [intsC_set]
  exact h2
theorem setBool {xs : List Bool} {k : Nat} (h : k < xs.length) {v : Bool} {K : List (List AC) → Option ρ} (h2 : K (boolsC (xs.set k v)) = some r) : idxR (boolsC xs) (k : Int) (fun m => setR (boolsC xs) m 0 [.bool v] K) = some r := by
  refine idxTo (by rw [boolsC_len]; exact h) ?_
  unfold setR
  rw [show Nat.blt k (boolsC xs).length = true by rw [Nat.blt_eq, boolsC_len]; exact h, show (boolsC xs).getD k [] = [.bool xs[k]] by simp [boolsC, List.getD, h]]
  show K ((boolsC xs).set k [.bool v]) = some r
  rw [boolsC_set]
  exact h2
theorem atBoolC {xs : List Bool} {k : Nat} (h : k < xs.length) {K : Fn (Option ρ) [.bool false]} (h2 : (K : Bool → Option ρ) xs[k] = some r) : atR_ (boolsC xs) (k : Int) [.bool false] K = some r := at_to (by rw [boolsC_len]; exact h) (by rw [show (boolsC xs).getD k [] = [.bool xs[k]] by simp [boolsC, List.getD, h]]; exact h2)
theorem thawTo {x : Option AV} {k : Nat} {rows : List (List AC)} (h : x = some (.v (.cell (.sl k rows)))) (hf : rows.all (fun r => r.all flatC) = true) {K : List (List AC) → Option ρ} (h2 : K rows = some r) : thawR x k K = some r := by
  rw [h]
  unfold thawR
  simp only [Nat.beq_refl, hf, Bool.and_self, cond_true]
  exact h2
theorem ints_flat (xs : List Int) : (intsC xs).all (fun r => r.all flatC) = true := by
  rw [List.all_eq_true]
  intro x hx
  simp only [intsC, List.mem_map] at hx
  obtain ⟨n, _, rfl⟩ := hx
  rfl
theorem callFB {x : Option AV} {n : Bool} (h : x = some (.v (.cell (.bool n)))) {K : Fn (Option ρ) (shapesOf [(false, [.bool false])])} (h2 : (K : Bool → Option ρ) n = some r) : callF x false [(false, [.bool false])] K = some r := by rw [h]; exact h2
theorem callFI {x : Option AV} {n : Int} (h : x = some (.v (.cell (.int n)))) {K : Fn (Option ρ) (shapesOf [(false, [.int 0])])} (h2 : (K : Int → Option ρ) n = some r) : callF x false [(false, [.int 0])] K = some r := by rw [h]; exact h2
theorem repTo {n : Nat} (h : n ≤ 68719476736) {z : List AC} {K : List (List AC) → Option ρ} (h2 : K (List.replicate n z) = some r) : repR (n : Int) (n : Int) z K = some r := by
  unfold repR lim36
  rw [decide_eq_true (by omega)]
  exact h2

end

/-- What kinds of data there are. -/
inductive Ty where
  | con
  | decl
  | expr
  | func
  | prog
  | step
  | block
  | routine
  | normal
  | cell
  | instr
  | proc
  | image
  | frame
  | state
inductive Fit : Ty → List AC → Prop
  | con (fs : List Int) (h : IntsOk fs) : Fit .con [.sl 1 (intsC fs)]
  | decl (f t : Int) (cons : List (List AC)) (hf : inI f) (ht : inI t) (hl : cons.length ≤ maxI) (h : ∀ c ∈ cons, Fit .con c) : Fit .decl [.int f, .int t, .sl 1 cons]
  | expr (o n : Int) (kids : List (List AC)) (ho : inI o) (hn : inI n) (hl : kids.length ≤ maxI) (h : ∀ c ∈ kids, Fit .expr c) : Fit .expr [.int o, .int n, .sl 3 kids]
  | func (ps : List Int) (r o n : Int) (kids : List (List AC)) (hp : IntsOk ps) (hr : inI r) (h : Fit .expr [.int o, .int n, .sl 3 kids]) : Fit .func [.sl 1 (intsC ps), .int r, .int o, .int n, .sl 3 kids]
  | prog (ds fs : List (List AC)) (hd : ds.length ≤ maxI) (hf : fs.length ≤ maxI) (h1 : ∀ d ∈ ds, Fit .decl d) (h2 : ∀ f ∈ fs, Fit .func f) : Fit .prog [.sl 3 ds, .sl 5 fs]
  | step (o n i : Int) (args : List Int) (kids : List (List AC)) (ho : inI o) (hn : inI n) (hi : inI i) (ha : IntsOk args) (hl : kids.length ≤ maxI) (h : ∀ b ∈ kids, Fit .block b) : Fit .step [.int o, .int n, .int i, .sl 1 (intsC args), .sl 2 kids]
  | block (steps : List (List AC)) (r : Int) (hr : inI r) (hl : steps.length ≤ maxI) (h : ∀ s ∈ steps, Fit .step s) : Fit .block [.sl 5 steps, .int r]
  | routine (ps lent : List Int) (r : Int) (steps : List (List AC)) (x : Int) (hp : IntsOk ps) (hl : IntsOk lent) (hr : inI r) (h : Fit .block [.sl 5 steps, .int x]) : Fit .routine [.sl 1 (intsC ps), .sl 1 (intsC lent), .int r, .sl 5 steps, .int x]
  | normal (ds rs : List (List AC)) (hd : ds.length ≤ maxI) (hr : rs.length ≤ maxI) (h1 : ∀ d ∈ ds, Fit .decl d) (h2 : ∀ r ∈ rs, Fit .routine r) : Fit .normal [.sl 3 ds, .sl 5 rs]
  | cell (c t : Int) (fs : List Int) (hc : inI c) (ht : inI t) (h : IntsOk fs) : Fit .cell [.int c, .int t, .sl 1 (intsC fs)]
  | instr (o d n i : Int) (args jumps : List Int) (ho : inI o) (hd : inI d) (hn : inI n) (hi : inI i) (ha : IntsOk args) (hj : IntsOk jumps) : Fit .instr [.int o, .int d, .int n, .int i, .sl 1 (intsC args), .sl 1 (intsC jumps)]
  | proc (ps lent : List Int) (r regs : Int) (code : List (List AC)) (hp : IntsOk ps) (hl : IntsOk lent) (hr : inI r) (hg : inI regs) (hc : code.length ≤ maxI) (h : ∀ x ∈ code, Fit .instr x) : Fit .proc [.sl 1 (intsC ps), .sl 1 (intsC lent), .int r, .int regs, .sl 6 code]
  | image (ds procs : List (List AC)) (hd : ds.length ≤ maxI) (hp : procs.length ≤ maxI) (h1 : ∀ d ∈ ds, Fit .decl d) (h2 : ∀ p ∈ procs, Fit .proc p) : Fit .image [.sl 3 ds, .sl 5 procs]
  | frame (p a d : Int) (regs own held : List Int) (hp : inI p) (ha : inI a) (hd : inI d) (h1 : IntsOk regs) (h2 : IntsOk own) (h3 : IntsOk held) : Fit .frame [.int p, .int a, .int d, .sl 1 (intsC regs), .sl 1 (intsC own), .sl 1 (intsC held)]
  | state (s v c m : Int) (out : List Int) (heap frames : List (List AC)) (hs : inI s) (hv : inI v) (hc : inI c) (hm : inI m) (ho : IntsOk out) (hh : heap.length ≤ maxI) (hf : frames.length ≤ maxI) (h1 : ∀ x ∈ heap, Fit .cell x) (h2 : ∀ x ∈ frames, Fit .frame x) : Fit .state [.int s, .int v, .int c, .int m, .sl 1 (intsC out), .sl 3 heap, .sl 6 frames]
theorem mem_getD {α : Type} {l : List α} {k : Nat} (h : k < l.length) (d : α) : l.getD k d ∈ l := by simp [List.getD, List.getElem?_eq_getElem h]
/-- What is left of a bound. -/
def SzOk (S : Nat) (left r : Int) : Prop := ((S : Int) ≤ left ∧ r = left - S) ∨ (left < S ∧ r = -1)
end Go.Proofs.Ytoljlooeiljpfaa
