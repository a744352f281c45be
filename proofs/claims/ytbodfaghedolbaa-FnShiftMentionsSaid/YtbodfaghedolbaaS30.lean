/- Generic texts and models for the proofs of this seat: part 30. -/
import Derived.Test.YtbodfaghedolbaaS29
import Derived.Test.YtbodfaghedolbaaRows
set_option linter.unusedVariables false
set_option linter.unusedSimpArgs false
namespace Go.Proofs.Ytbodfaghedolbaa
def headSp : Char := Char.ofNat 32
def headOne : List Char := [Char.ofNat 104, Char.ofNat 97, Char.ofNat 114, Char.ofNat 110, Char.ofNat 101, Char.ofNat 115, Char.ofNat 115]
def headSum : List Char := [Char.ofNat 97, Char.ofNat 97, Char.ofNat 56, Char.ofNat 99, Char.ofNat 97, Char.ofNat 54, Char.ofNat 48, Char.ofNat 51, Char.ofNat 102, Char.ofNat 52, Char.ofNat 100, Char.ofNat 56, Char.ofNat 55, Char.ofNat 56, Char.ofNat 102, Char.ofNat 53, Char.ofNat 52, Char.ofNat 49, Char.ofNat 102, Char.ofNat 55, Char.ofNat 50, Char.ofNat 98, Char.ofNat 98, Char.ofNat 98, Char.ofNat 53, Char.ofNat 54, Char.ofNat 54, Char.ofNat 55, Char.ofNat 57, Char.ofNat 50, Char.ofNat 98, Char.ofNat 56, Char.ofNat 48, Char.ofNat 48, Char.ofNat 48, Char.ofNat 100, Char.ofNat 97, Char.ofNat 52, Char.ofNat 49, Char.ofNat 102, Char.ofNat 55, Char.ofNat 55, Char.ofNat 99, Char.ofNat 48, Char.ofNat 51, Char.ofNat 98, Char.ofNat 101, Char.ofNat 52, Char.ofNat 53, Char.ofNat 102, Char.ofNat 52, Char.ofNat 56, Char.ofNat 102, Char.ofNat 97, Char.ofNat 97, Char.ofNat 98, Char.ofNat 97, Char.ofNat 56, Char.ofNat 99, Char.ofNat 48, Char.ofNat 51, Char.ofNat 54, Char.ofNat 51, Char.ofNat 52]
def headCut : List Char := [Char.ofNat 99, Char.ofNat 117, Char.ofNat 116]
def headRest : List Char := [Char.ofNat 97, Char.ofNat 116, Char.ofNat 32, Char.ofNat 108, Char.ofNat 111, Char.ofNat 111, Char.ofNat 112, Char.ofNat 46, Char.ofNat 101, Char.ofNat 120, Char.ofNat 97, Char.ofNat 109, Char.ofNat 112, Char.ofNat 108, Char.ofNat 101, Char.ofNat 47, Char.ofNat 114, Char.ofNat 101, Char.ofNat 102, Char.ofNat 99, Char.ofNat 111, Char.ofNat 117, Char.ofNat 110, Char.ofNat 116, Char.ofNat 109, Char.ofNat 108, Char.ofNat 47, Char.ofNat 108, Char.ofNat 97, Char.ofNat 119, Char.ofNat 115, Char.ofNat 46, Char.ofNat 70, Char.ofNat 110, Char.ofNat 86, Char.ofNat 97, Char.ofNat 108, Char.ofNat 105, Char.ofNat 100, Char.ofNat 83, Char.ofNat 105, Char.ofNat 103, Char.ofNat 115, Char.ofNat 32, Char.ofNat 108, Char.ofNat 111, Char.ofNat 111, Char.ofNat 112, Char.ofNat 46, Char.ofNat 101, Char.ofNat 120, Char.ofNat 97, Char.ofNat 109, Char.ofNat 112, Char.ofNat 108, Char.ofNat 101, Char.ofNat 47, Char.ofNat 114, Char.ofNat 101, Char.ofNat 102, Char.ofNat 99, Char.ofNat 111, Char.ofNat 117, Char.ofNat 110, Char.ofNat 116, Char.ofNat 109, Char.ofNat 108, Char.ofNat 47, Char.ofNat 108, Char.ofNat 97, Char.ofNat 119, Char.ofNat 115, Char.ofNat 46, Char.ofNat 70, Char.ofNat 110, Char.ofNat 86, Char.ofNat 97, Char.ofNat 108, Char.ofNat 105, Char.ofNat 100, Char.ofNat 80, Char.ofNat 114, Char.ofNat 111, Char.ofNat 103, Char.ofNat 114, Char.ofNat 97, Char.ofNat 109, Char.ofNat 32, Char.ofNat 108, Char.ofNat 111, Char.ofNat 111, Char.ofNat 112, Char.ofNat 46, Char.ofNat 101, Char.ofNat 120, Char.ofNat 97, Char.ofNat 109, Char.ofNat 112, Char.ofNat 108, Char.ofNat 101, Char.ofNat 47, Char.ofNat 114, Char.ofNat 101, Char.ofNat 102, Char.ofNat 99, Char.ofNat 111, Char.ofNat 117, Char.ofNat 110, Char.ofNat 116, Char.ofNat 109, Char.ofNat 108, Char.ofNat 47, Char.ofNat 108, Char.ofNat 97, Char.ofNat 119, Char.ofNat 115, Char.ofNat 46, Char.ofNat 70, Char.ofNat 110, Char.ofNat 83, Char.ofNat 104, Char.ofNat 105, Char.ofNat 102, Char.ofNat 116, Char.ofNat 32, Char.ofNat 108, Char.ofNat 111, Char.ofNat 111, Char.ofNat 112, Char.ofNat 46, Char.ofNat 101, Char.ofNat 120, Char.ofNat 97, Char.ofNat 109, Char.ofNat 112, Char.ofNat 108, Char.ofNat 101, Char.ofNat 47, Char.ofNat 114, Char.ofNat 101, Char.ofNat 102, Char.ofNat 99, Char.ofNat 111, Char.ofNat 117, Char.ofNat 110, Char.ofNat 116, Char.ofNat 109, Char.ofNat 108, Char.ofNat 47, Char.ofNat 108, Char.ofNat 97, Char.ofNat 119, Char.ofNat 115, Char.ofNat 46, Char.ofNat 70, Char.ofNat 110, Char.ofNat 83, Char.ofNat 104, Char.ofNat 105, Char.ofNat 102, Char.ofNat 116, Char.ofNat 84, Char.ofNat 119, Char.ofNat 105, Char.ofNat 99, Char.ofNat 101, Char.ofNat 32, Char.ofNat 108, Char.ofNat 111, Char.ofNat 111, Char.ofNat 112, Char.ofNat 46, Char.ofNat 101, Char.ofNat 120, Char.ofNat 97, Char.ofNat 109, Char.ofNat 112, Char.ofNat 108, Char.ofNat 101, Char.ofNat 47, Char.ofNat 114, Char.ofNat 101, Char.ofNat 102, Char.ofNat 99, Char.ofNat 111, Char.ofNat 117, Char.ofNat 110, Char.ofNat 116, Char.ofNat 109, Char.ofNat 108, Char.ofNat 47, Char.ofNat 108, Char.ofNat 97, Char.ofNat 119, Char.ofNat 115, Char.ofNat 46, Char.ofNat 70, Char.ofNat 110, Char.ofNat 83, Char.ofNat 104, Char.ofNat 105, Char.ofNat 102, Char.ofNat 116, Char.ofNat 77, Char.ofNat 101, Char.ofNat 110, Char.ofNat 116, Char.ofNat 105, Char.ofNat 111, Char.ofNat 110, Char.ofNat 115]
theorem head_string : Try.prog.initOrder = String.ofList (headOne ++ headSp :: (headSum ++ headSp :: (headCut ++ headSp :: headRest))) := by kernel_rfl
theorem words_cut : ∀ (a b : List Char), (∀ c ∈ a, (c == headSp) = false) → wordsSigns (a ++ headSp :: b) = a :: wordsSigns b := by
  intro a
  induction a with
  | nil => intro b _; rfl
  | cons c a ih =>
    intro b h
    have hc : c ≠ headSp := by have := h c (by simp); simpa using this
    have hr := ih b fun x hx => h x (by simp [hx])
    rw [List.cons_append]
    conv => lhs; unfold wordsSigns
    split
    · rename_i e; cases e
    · rename_i e; injection e with e1 _; exact absurd e1 hc
    · rename_i c' r' _ e
      injection e with e1 e2
      subst e1 e2
      rw [hr]
theorem head_words : wordsSigns Try.prog.initOrder.toList = headOne :: headSum :: headCut :: wordsSigns headRest := by
  rw [head_string, String.toList_ofList, words_cut _ _ (by decide), words_cut _ _ (by decide), words_cut _ _ (by decide)]
theorem behind_of {h s : List Char} {r : List (List Char)} (hc : ((h == "harness".toList || h == "ownmain".toList) && isSumSigns s) = true) : behindMainWord (h :: s :: r) = r := by
  unfold behindMainWord
  simp only [hc, if_true]
theorem enter_of {P : Program} {c : List Char} {rest : List (List Char)} (hb : behindMainWord (wordsSigns P.initOrder.toList) = c :: rest) (hs : stripLifts liftWords (c :: rest) = ([], c :: rest))
    (h1 : (c == "gc".toList) = false) (h2 : (c == "spec".toList) = false) (h3 : (c == "carried".toList) = false) (h4 : ((some c : Option (List Char)) == some "cut".toList) = true) (h5 : P.laysLater = false) (h6 : P.bearsReflect = false) (h7 : P.doorFits [] = true) : P.mayEnter = true := by
  unfold Program.mayEnter
  rw [hb]
  simp only [hs, List.head?_cons, h1, h2, h3, h4, h5, h6, h7, Bool.or_false, Bool.false_and, Bool.not_false, Bool.or_true, Bool.and_true, List.contains_nil]
theorem make_of {P : Program} {c : List Char} {rest : List (List Char)} (hb : behindMainWord (wordsSigns P.initOrder.toList) = c :: rest)
    (h1 : (c == "gc".toList) = false) (h2 : (c == "spec".toList) = false) (h3 : (c == "cut".toList) = true) : P.make = some Make.cut := by
  unfold Program.make
  rw [hb]
  simp only [h1, h2, h3, Bool.true_or, Bool.or_false, Bool.false_eq_true, if_false, if_true]
theorem head_behind : behindMainWord (wordsSigns Try.prog.initOrder.toList) = headCut :: wordsSigns headRest := by
  have hc : ((headOne == "harness".toList || headOne == "ownmain".toList) && isSumSigns headSum) = true := by as_aux_lemma => kernel_rfl
  rw [head_words]
  exact behind_of hc
theorem strip_no {o : String} {os : List String} {w : List Char} {ws : List (List Char)} (h : (w == o.toList) = false) : stripLifts (o :: os) (w :: ws) = stripLifts os (w :: ws) := by
  unfold stripLifts
  rw [h]
  rw [if_neg Bool.false_ne_true]
  cases os <;> rfl
theorem strip_cut (R : List (List Char)) : stripLifts liftWords (headCut :: R) = ([], headCut :: R) := by
  unfold liftWords
  rw [strip_no (o := "finals") (by as_aux_lemma => kernel_rfl)]
  rw [strip_no (o := "reflectrows") (by as_aux_lemma => kernel_rfl)]
  rw [strip_no (o := "leanrows") (by as_aux_lemma => kernel_rfl)]
  rw [strip_no (o := "onebuild") (by as_aux_lemma => kernel_rfl)]
  rw [strip_no (o := "publicsums") (by as_aux_lemma => kernel_rfl)]
  rw [strip_no (o := "eqguard") (by as_aux_lemma => kernel_rfl)]
  rw [strip_no (o := "ownunsafe") (by as_aux_lemma => kernel_rfl)]
  rw [strip_no (o := "libbeside") (by as_aux_lemma => kernel_rfl)]
  rw [strip_no (o := "ownbeside") (by as_aux_lemma => kernel_rfl)]
  rw [strip_no (o := "reflbeside") (by as_aux_lemma => kernel_rfl)]
  rw [strip_no (o := "aliases") (by as_aux_lemma => kernel_rfl)]
  rw [strip_no (o := "afterinit") (by as_aux_lemma => kernel_rfl)]
  rw [strip_no (o := "crcplain") (by as_aux_lemma => kernel_rfl)]
  rw [strip_no (o := "roadunsafe") (by as_aux_lemma => kernel_rfl)]
  rw [strip_no (o := "fmthandon") (by as_aux_lemma => kernel_rfl)]
  rfl
theorem cut_is : (headCut == "cut".toList) = true := by kernel_rfl
theorem cut_gc : (headCut == "gc".toList) = false := by kernel_rfl
theorem cut_spec : (headCut == "spec".toList) = false := by kernel_rfl
theorem cut_carried : (headCut == "carried".toList) = false := by kernel_rfl
theorem some_cut : ((some headCut : Option (List Char)) == some "cut".toList) = true := by kernel_rfl
theorem some_carried : ((some headCut : Option (List Char)) == some "carried".toList) = false := by kernel_rfl
theorem head_late : Try.prog.laysLater = false := by kernel_rfl
theorem head_reflect : Try.prog.bearsReflect = false := by kernel_rfl
theorem head_door : Try.prog.doorFits [] = true := by kernel_rfl
theorem head_enter : Try.prog.mayEnter = true := enter_of head_behind (strip_cut _) cut_gc cut_spec cut_carried some_cut head_late head_reflect head_door
theorem head_lifts : Try.prog.headLifts = [] := by
  unfold Program.headLifts
  rw [head_behind, strip_cut]
  generalize wordsSigns headRest = R
  simp only [List.head?_cons, some_cut, if_true]
theorem head_lifted : ((false : Bool) == Try.prog.liftsFinal) = true := by
  unfold Program.liftsFinal
  rw [head_behind, head_lifts]
  generalize wordsSigns headRest = R
  simp only [List.head?_cons, some_carried, Bool.false_and, Bool.false_or, List.contains_nil]
  rfl
theorem head_make : (Try.prog.make == some Make.cut) = true := by
  rw [make_of head_behind cut_gc cut_spec cut_is]
  rfl
end Go.Proofs.Ytbodfaghedolbaa
namespace Go.Proofs.Ytbodfaghedolbaa
open Go
def acS : AC → Nat
  | .int _ => 0
  | .bool _ => 0
  | .sl _ rows => rows.length + rsS rows
where
  rsS : List (List AC) → Nat
    | [] => 0
    | r :: rs => cS r + rsS rs
  cS : List AC → Nat
    | [] => 0
    | c :: cs => acS c + cS cs
abbrev cS := acS.cS
abbrev rsS := acS.rsS
theorem cS_nil : cS [] = 0 := by simp [cS, acS.cS]
theorem cS_int (n : Int) (cs : List AC) : cS (.int n :: cs) = cS cs := by simp [cS, acS.cS, acS]
theorem cS_sl (k : Nat) (r : List (List AC)) (cs : List AC) : cS (.sl k r :: cs) = r.length + rsS r + cS cs := by simp [cS, acS.cS, acS, rsS]
theorem rsS_nil : rsS [] = 0 := by simp [rsS, acS.rsS]
theorem rsS_cons (r : List AC) (rs : List (List AC)) : rsS (r :: rs) = cS r + rsS rs := by simp [rsS, acS.rsS, cS]
theorem rsS_drop {rs : List (List AC)} {k : Nat} (h : k < rs.length) : rsS (rs.drop k) = cS (rs.getD k []) + rsS (rs.drop (k + 1)) := by
  rw [List.drop_eq_getElem_cons h, rsS_cons]
  simp [List.getD, h]
theorem rsS_mem {rs : List (List AC)} {r : List AC} (h : r ∈ rs) : cS r ≤ rsS rs := by
  induction rs with
  | nil => cases h
  | cons x rs ih =>
    rw [rsS_cons]
    rcases List.mem_cons.1 h with rfl | h
    · omega
    · have := ih h; omega
def intsC (xs : List Int) : List (List AC) := xs.map fun n => [.int n]
theorem intsC_len (xs : List Int) : (intsC xs).length = xs.length := by simp [intsC]
theorem intsC_get {xs : List Int} {k : Nat} (h : k < xs.length) : (intsC xs).getD k [] = [.int xs[k]] := by simp [intsC, List.getD, h]
theorem intsC_append (xs ys : List Int) : intsC xs ++ intsC ys = intsC (xs ++ ys) := by simp [intsC]
def inI (n : Int) : Prop := -9223372036854775808 ≤ n ∧ n ≤ 9223372036854775807
def maxI : Nat := 9223372036854775807
structure IntsOk (xs : List Int) : Prop where
  len : xs.length ≤ maxI
  all : ∀ x ∈ xs, inI x
theorem wr {n : Int} (h1 : -9223372036854775808 ≤ n) (h2 : n ≤ 9223372036854775807) : wrapI n = n := wrap_in h1 h2
theorem wrk {k : Nat} (h : k < maxI) : wrapI ((k : Int) + 1) = ((k + 1 : Nat) : Int) := by
  unfold maxI at h
  rw [wr (by omega) (by omega)]
  omega
section
variable {ρ : Type} {r : ρ}
theorem at_to {rows : List (List AC)} {k : Nat} (h : k < rows.length) {sh : List AC} {K : Fn (Option ρ) sh} (h2 : openF sh (rows.getD k []) K = some r) : atR_ rows (k : Int) sh K = some r := by
  unfold atR_ okIdx
  rw [decide_eq_true (by omega), decide_eq_true (by omega)]
  exact h2
theorem callI {x : Option AV} {n : Int} (h : x = some (.v (.cell (.int n)))) {K : Fn (Option ρ) (shapesOf [(false, [.int 0])])} (h2 : (K : Int → Option ρ) n = some r) : callR x false [(false, [.int 0])] K = some r := by rw [h]; exact h2
theorem callB {x : Option AV} {n : Bool} (h : x = some (.v (.cell (.bool n)))) {K : Fn (Option ρ) (shapesOf [(false, [.bool false])])} (h2 : (K : Bool → Option ρ) n = some r) : callR x false [(false, [.bool false])] K = some r := by rw [h]; exact h2
theorem callS {x : Option AV} {k : Nat} {l : List (List AC)} (h : x = some (.v (.cell (.sl k l)))) {K : Fn (Option ρ) (shapesOf [(false, [.sl k []])])} (h2 : (K : List (List AC) → Option ρ) l = some r) : callR x false [(false, [.sl k []])] K = some r := by
  rw [h]
  show (bif Nat.beq k k then _ else none) = _
  rw [Nat.beq_refl]
  exact h2
theorem appTo {l l' : List (List AC)} (h : l.length + l'.length ≤ 68719476736) {K : List (List AC) → Option ρ} (h2 : K (l ++ l') = some r) : appR l l' K = some r := by
  unfold appR lim36
  rw [decide_eq_true (by rw [List.length_append]; exact h)]
  exact h2
theorem bifT {b : Bool} {x y : Option ρ} (h : b = true) (h2 : x = some r) : (bif b then x else y) = some r := by rw [h]; exact h2
theorem bifF {b : Bool} {x y : Option ρ} (h : b = false) (h2 : y = some r) : (bif b then x else y) = some r := by rw [h]; exact h2
theorem atInt {rows : List (List AC)} {k : Nat} (h : k < rows.length) {a0 : Int} (e : rows.getD k [] = [.int a0]) {K : Fn (Option ρ) [.int 0]} (h2 : (K : Int → Option ρ) a0 = some r) : atR_ rows (k : Int) [.int 0] K = some r := at_to h (by rw [e]; exact h2)
theorem atCon {rows : List (List AC)} {k : Nat} (h : k < rows.length) {a0 : List (List AC)} (e : rows.getD k [] = [.sl 1 a0]) {K : Fn (Option ρ) [.sl 1 []]} (h2 : (K : List (List AC) → Option ρ) a0 = some r) : atR_ rows (k : Int) [.sl 1 []] K = some r := at_to h (by rw [e]; exact h2)
theorem callCon {x : Option AV} {a0 : List (List AC)} (h : x = some (.v (.agg [.sl 1 a0]))) {K : Fn (Option ρ) (shapesOf [(true, [.sl 1 []])])} (h2 : (K : List (List AC) → Option ρ) a0 = some r) : callR x false [(true, [.sl 1 []])] K = some r := by rw [h]; exact h2
theorem atDecl {rows : List (List AC)} {k : Nat} (h : k < rows.length) {a0 : Int} {a1 : Int} {a2 : List (List AC)} (e : rows.getD k [] = [.int a0, .int a1, .sl 1 a2]) {K : Fn (Option ρ) [.int 0, .int 0, .sl 1 []]} (h2 : (K : Int → Int → List (List AC) → Option ρ) a0 a1 a2 = some r) : atR_ rows (k : Int) [.int 0, .int 0, .sl 1 []] K = some r := at_to h (by rw [e]; exact h2)
theorem atExpr {rows : List (List AC)} {k : Nat} (h : k < rows.length) {a0 : Int} {a1 : Int} {a2 : List (List AC)} (e : rows.getD k [] = [.int a0, .int a1, .sl 3 a2]) {K : Fn (Option ρ) [.int 0, .int 0, .sl 3 []]} (h2 : (K : Int → Int → List (List AC) → Option ρ) a0 a1 a2 = some r) : atR_ rows (k : Int) [.int 0, .int 0, .sl 3 []] K = some r := at_to h (by rw [e]; exact h2)
theorem callExpr {x : Option AV} {a0 : Int} {a1 : Int} {a2 : List (List AC)} (h : x = some (.v (.agg [.int a0, .int a1, .sl 3 a2]))) {K : Fn (Option ρ) (shapesOf [(true, [.int 0, .int 0, .sl 3 []])])} (h2 : (K : Int → Int → List (List AC) → Option ρ) a0 a1 a2 = some r) : callR x false [(true, [.int 0, .int 0, .sl 3 []])] K = some r := by rw [h]; exact h2
theorem atFunc {rows : List (List AC)} {k : Nat} (h : k < rows.length) {a0 : List (List AC)} {a1 : Int} {a2 : Int} {a3 : Int} {a4 : List (List AC)} (e : rows.getD k [] = [.sl 1 a0, .int a1, .int a2, .int a3, .sl 3 a4]) {K : Fn (Option ρ) [.sl 1 [], .int 0, .int 0, .int 0, .sl 3 []]} (h2 : (K : List (List AC) → Int → Int → Int → List (List AC) → Option ρ) a0 a1 a2 a3 a4 = some r) : atR_ rows (k : Int) [.sl 1 [], .int 0, .int 0, .int 0, .sl 3 []] K = some r := at_to h (by rw [e]; exact h2)
theorem callFunc {x : Option AV} {a0 : List (List AC)} {a1 : Int} {a2 : Int} {a3 : Int} {a4 : List (List AC)} (h : x = some (.v (.agg [.sl 1 a0, .int a1, .int a2, .int a3, .sl 3 a4]))) {K : Fn (Option ρ) (shapesOf [(true, [.sl 1 [], .int 0, .int 0, .int 0, .sl 3 []])])} (h2 : (K : List (List AC) → Int → Int → Int → List (List AC) → Option ρ) a0 a1 a2 a3 a4 = some r) : callR x false [(true, [.sl 1 [], .int 0, .int 0, .int 0, .sl 3 []])] K = some r := by rw [h]; exact h2
theorem atNum {xs : List Int} {k : Nat} (h : k < xs.length) {K : Fn (Option ρ) [.int 0]} (h2 : (K : Int → Option ρ) xs[k] = some r) : atR_ (intsC xs) (k : Int) [.int 0] K = some r := atInt (by rw [intsC_len]; exact h) (intsC_get h) h2
end
inductive Ty where
  | con
  | decl
  | expr
  | func
  | prog
  | step
  | block
  | routine
  | normal
  | cell
  | instr
  | proc
  | image
  | frame
  | state
inductive Fit : Ty → List AC → Prop
  | con (fs : List Int) (h : IntsOk fs) : Fit .con [.sl 1 (intsC fs)]
  | decl (f t : Int) (cons : List (List AC)) (hf : inI f) (ht : inI t) (hl : cons.length ≤ maxI) (h : ∀ c ∈ cons, Fit .con c) : Fit .decl [.int f, .int t, .sl 1 cons]
  | expr (o n : Int) (kids : List (List AC)) (ho : inI o) (hn : inI n) (hl : kids.length ≤ maxI) (h : ∀ c ∈ kids, Fit .expr c) : Fit .expr [.int o, .int n, .sl 3 kids]
  | func (ps : List Int) (r o n : Int) (kids : List (List AC)) (hp : IntsOk ps) (hr : inI r) (h : Fit .expr [.int o, .int n, .sl 3 kids]) : Fit .func [.sl 1 (intsC ps), .int r, .int o, .int n, .sl 3 kids]
  | prog (ds fs : List (List AC)) (hd : ds.length ≤ maxI) (hf : fs.length ≤ maxI) (h1 : ∀ d ∈ ds, Fit .decl d) (h2 : ∀ f ∈ fs, Fit .func f) : Fit .prog [.sl 3 ds, .sl 5 fs]
  | step (o n i : Int) (args : List Int) (kids : List (List AC)) (ho : inI o) (hn : inI n) (hi : inI i) (ha : IntsOk args) (hl : kids.length ≤ maxI) (h : ∀ b ∈ kids, Fit .block b) : Fit .step [.int o, .int n, .int i, .sl 1 (intsC args), .sl 2 kids]
  | block (steps : List (List AC)) (r : Int) (hr : inI r) (hl : steps.length ≤ maxI) (h : ∀ s ∈ steps, Fit .step s) : Fit .block [.sl 5 steps, .int r]
  | routine (ps lent : List Int) (r : Int) (steps : List (List AC)) (x : Int) (hp : IntsOk ps) (hl : IntsOk lent) (hr : inI r) (h : Fit .block [.sl 5 steps, .int x]) : Fit .routine [.sl 1 (intsC ps), .sl 1 (intsC lent), .int r, .sl 5 steps, .int x]
  | normal (ds rs : List (List AC)) (hd : ds.length ≤ maxI) (hr : rs.length ≤ maxI) (h1 : ∀ d ∈ ds, Fit .decl d) (h2 : ∀ r ∈ rs, Fit .routine r) : Fit .normal [.sl 3 ds, .sl 5 rs]
  | cell (c t : Int) (fs : List Int) (hc : inI c) (ht : inI t) (h : IntsOk fs) : Fit .cell [.int c, .int t, .sl 1 (intsC fs)]
  | instr (o d n i : Int) (args jumps : List Int) (ho : inI o) (hd : inI d) (hn : inI n) (hi : inI i) (ha : IntsOk args) (hj : IntsOk jumps) : Fit .instr [.int o, .int d, .int n, .int i, .sl 1 (intsC args), .sl 1 (intsC jumps)]
  | proc (ps lent : List Int) (r regs : Int) (code : List (List AC)) (hp : IntsOk ps) (hl : IntsOk lent) (hr : inI r) (hg : inI regs) (hc : code.length ≤ maxI) (h : ∀ x ∈ code, Fit .instr x) : Fit .proc [.sl 1 (intsC ps), .sl 1 (intsC lent), .int r, .int regs, .sl 6 code]
  | image (ds procs : List (List AC)) (hd : ds.length ≤ maxI) (hp : procs.length ≤ maxI) (h1 : ∀ d ∈ ds, Fit .decl d) (h2 : ∀ p ∈ procs, Fit .proc p) : Fit .image [.sl 3 ds, .sl 5 procs]
  | frame (p a d : Int) (regs own held : List Int) (hp : inI p) (ha : inI a) (hd : inI d) (h1 : IntsOk regs) (h2 : IntsOk own) (h3 : IntsOk held) : Fit .frame [.int p, .int a, .int d, .sl 1 (intsC regs), .sl 1 (intsC own), .sl 1 (intsC held)]
  | state (s v c m : Int) (out : List Int) (heap frames : List (List AC)) (hs : inI s) (hv : inI v) (hc : inI c) (hm : inI m) (ho : IntsOk out) (hh : heap.length ≤ maxI) (hf : frames.length ≤ maxI) (h1 : ∀ x ∈ heap, Fit .cell x) (h2 : ∀ x ∈ frames, Fit .frame x) : Fit .state [.int s, .int v, .int c, .int m, .sl 1 (intsC out), .sl 3 heap, .sl 6 frames]
theorem mem_getD {α : Type} {l : List α} {k : Nat} (h : k < l.length) (d : α) : l.getD k d ∈ l := by simp [List.getD, List.getElem?_eq_getElem h]
end Go.Proofs.Ytbodfaghedolbaa
namespace Go.Proofs.Ytbodfaghedolbaa
open Go
abbrev rB (b : Bool) : Option AV := some (.v (.cell (.bool b)))
abbrev rI (n : Int) : Option AV := some (.v (.cell (.int n)))
abbrev rL (xs : List Int) : Option AV := some (.v (.cell (.sl 1 (intsC xs))))
structure DM where
  f : Int
  t : Int
  cs : List (List Int)
  deriving Inhabited
def conC (c : List Int) : List AC := [.sl 1 (intsC c)]
def consC (cs : List (List Int)) : List (List AC) := cs.map conC
def decC (d : DM) : List AC := [.int d.f, .int d.t, .sl 1 (consC d.cs)]
def decsC (D : List DM) : List (List AC) := D.map decC
theorem decsC_len (D : List DM) : (decsC D).length = D.length := by simp [decsC]
theorem consC_len (C : List (List Int)) : (consC C).length = C.length := by simp [consC]
def gD (D : List DM) (k : Nat) : DM := D.getD k default
theorem decsC_get {D : List DM} {k : Nat} (h : k < D.length) : (decsC D).getD k [] = [.int (gD D k).f, .int (gD D k).t, .sl 1 (consC (gD D k).cs)] := by simp [decsC, List.getD, h, gD, decC]
theorem consC_get {C : List (List Int)} {k : Nat} (h : k < C.length) : (consC C).getD k [] = [.sl 1 (intsC (C.getD k []))] := by simp [consC, List.getD, h, conC]
section
variable {ρ : Type} {r : ρ}
theorem atDecI {D : List DM} {i : Int} {k : Nat} (hi : i = (k : Int)) (h : k < D.length) {K : Fn (Option ρ) [.int 0, .int 0, .sl 1 []]} (h2 : (K : Int → Int → List (List AC) → Option ρ) (gD D k).f (gD D k).t (consC (gD D k).cs) = some r) : atR_ (decsC D) i [.int 0, .int 0, .sl 1 []] K = some r := by
  subst hi
  exact atDecl (by rw [decsC_len]; exact h) (decsC_get h) h2
theorem atConI {C : List (List Int)} {i : Int} {k : Nat} (hi : i = (k : Int)) (h : k < C.length) {K : Fn (Option ρ) [.sl 1 []]} (h2 : (K : List (List AC) → Option ρ) (intsC (C.getD k [])) = some r) : atR_ (consC C) i [.sl 1 []] K = some r := by
  subst hi
  exact atCon (by rw [consC_len]; exact h) (consC_get h) h2
end
theorem gD_get {D : List DM} {k : Nat} (h : k < D.length) : D[k] = gD D k := by simp [gD, List.getD, h]
theorem nz {n : Nat} (h : n ≠ 0) : (((n : Nat) : Int) == 0) = false := by simp [h]
theorem zr {n : Nat} (h : n = 0) : (((n : Nat) : Int) == 0) = true := by simp [h]
theorem eqt {a b : Int} (h : a = b) : (a == b) = true := by simp [h]
theorem eqf {a b : Int} (h : a ≠ b) : (a == b) = false := by simp [h]
theorem nef {a b : Int} (h : a = b) : (a != b) = false := by simp [h]
def isTy (D : List DM) (t : Int) : Bool := decide (0 ≤ t) && decide (t ≤ D.length)
def isAr (D : List DM) (t : Int) : Bool := decide (0 < t) && (isTy D t && ((gD D (t.toNat - 1)).cs.length == 0))
def hitA (f t : Int) (d : DM) : Bool := (d.cs.length == 0) && (d.f == f && d.t == t)
def arrL (f t : Int) : List DM → Nat → Int
  | [], _ => -1
  | d :: ds, k => if hitA f t d then ((k + 1 : Nat) : Int) else arrL f t ds (k + 1)
def conOk (D : List DM) (c : List Int) : Bool := decide (c.length ≤ 3) && c.all (isTy D)
def decOk (D : List DM) (k : Nat) : Bool :=
  if 0 < (gD D k).cs.length then decide ((gD D k).cs.length ≤ 3) && (((gD D k).f == 0) && (((gD D k).t == 0) && (gD D k).cs.all (conOk D)))
  else isTy D (gD D k).f && (isTy D (gD D k).t && !(D.take k).any (hitA (gD D k).f (gD D k).t))
def typesOk (D : List DM) : Bool := decide (D.length ≤ 4) && (List.range D.length).all (decOk D)
theorem s_inRange (n lo hi : Int) : spec_inRange [.cell (.int n), .cell (.int lo), .cell (.int hi)] = rB (decide (lo ≤ n) && decide (n ≤ hi)) := by
  refine spec_inRange_le ?_
  by_cases h : lo ≤ n
  · exact bifT (decide_eq_true h) (by simp [h])
  · exact bifF (decide_eq_false h) (by simp [h])
theorem hit_cases {f t : Int} {d : DM} : hitA f t d = true ↔ d.cs.length = 0 ∧ d.f = f ∧ d.t = t := by simp [hitA]
theorem s_arrow (D : List DM) (hD : D.length ≤ 1000) (f t : Int) : spec_arrowOf [.cell (.sl 3 (decsC D)), .cell (.int f), .cell (.int t)] = rI (arrL f t D 0) := by
  have key : ∀ m k : Nat, k + m = D.length → spec_arrowOf_L0 (decsC D) f t (k : Int) = rI (arrL f t (D.drop k) k) := by
    intro m
    induction m with
    | zero => intro k hk; exact spec_arrowOf_L0_le (bifF (decide_eq_false (by rw [decsC_len]; omega)) (by rw [List.drop_eq_nil_of_le (by omega)]; rfl))
    | succ m ih =>
      intro k hk
      have hlt : k < D.length := by omega
      have w1 : wrapI ((k : Int) + 1) = ((k + 1 : Nat) : Int) := wrk (by unfold maxI; omega)
      have nx := ih (k + 1) (by omega)
      rw [List.drop_eq_getElem_cons hlt, gD_get hlt]
      refine spec_arrowOf_L0_le (bifT (decide_eq_true (by rw [decsC_len]; omega)) (atDecI rfl hlt ?_))
      rw [consC_len, w1]
      by_cases h1 : (gD D k).cs.length = 0
      · refine bifT (by simp [h1]) (atDecI rfl hlt ?_)
        by_cases h2 : (gD D k).f = f
        · refine bifT (by simp [h2]) (atDecI rfl hlt ?_)
          by_cases h3 : (gD D k).t = t
          · exact bifT (by simp [h3]) (by rw [arrL, if_pos (hit_cases.2 ⟨h1, h2, h3⟩)])
          · exact bifF (by simp [h3]) (by rw [arrL, if_neg (fun h => h3 (hit_cases.1 h).2.2)]; exact nx)
        · exact bifF (by simp [h2]) (by rw [arrL, if_neg (fun h => h2 (hit_cases.1 h).2.1)]; exact nx)
      · exact bifF (nz h1) (by rw [arrL, if_neg (fun h => h1 (hit_cases.1 h).1)]; exact nx)
  exact spec_arrowOf_le (key D.length 0 (by omega))
end Go.Proofs.Ytbodfaghedolbaa
namespace Go.Proofs.Ytbodfaghedolbaa
open Go
end Go.Proofs.Ytbodfaghedolbaa
namespace Go.Proofs.Ytbodfaghedolbaa
open Go
structure DV (D : List DM) : Prop where
  len : D.length ≤ 4
  cs : ∀ k, k < D.length → (gD D k).cs.length ≤ 3
  c : ∀ k, k < D.length → ∀ c ∈ (gD D k).cs, c.length ≤ 3 ∧ ∀ x ∈ c, 0 ≤ x ∧ x ≤ D.length
  arr : ∀ k, k < D.length → (gD D k).cs.length = 0 → (0 ≤ (gD D k).f ∧ (gD D k).f ≤ D.length) ∧ (0 ≤ (gD D k).t ∧ (gD D k).t ≤ D.length)
theorem isTy_iff {D : List DM} {t : Int} : isTy D t = true ↔ 0 ≤ t ∧ t ≤ D.length := by simp [isTy]
theorem dv_of {D : List DM} (h : typesOk D = true) : DV D := by
  simp only [typesOk, Bool.and_eq_true, decide_eq_true_eq, List.all_eq_true, List.mem_range] at h
  obtain ⟨h1, h2⟩ := h
  refine ⟨h1, fun k hk => ?_, fun k hk c hc => ?_, fun k hk h0 => ?_⟩
  · have := h2 k hk
    unfold decOk at this
    split at this
    · simp only [Bool.and_eq_true, decide_eq_true_eq] at this; exact this.1
    · omega
  · have := h2 k hk
    unfold decOk at this
    have hpos : 0 < (gD D k).cs.length := List.length_pos_of_mem hc
    rw [if_pos hpos] at this
    simp only [Bool.and_eq_true, List.all_eq_true, conOk, decide_eq_true_eq] at this
    obtain ⟨g1, g2⟩ := this.2.2.2 c hc
    exact ⟨g1, fun x hx => isTy_iff.1 (g2 x hx)⟩
  · have := h2 k hk
    unfold decOk at this
    rw [if_neg (by omega)] at this
    simp only [Bool.and_eq_true] at this
    exact ⟨isTy_iff.1 this.1, isTy_iff.1 this.2.1⟩
def sumC : List DM → Nat
  | [] => 0
  | d :: ds => d.cs.length + sumC ds
theorem sumC_append (a b : List DM) : sumC (a ++ b) = sumC a + sumC b := by
  induction a with
  | nil => simp [sumC]
  | cons x a ih => simp only [List.cons_append, sumC, ih]; omega
theorem sumC_succ {D : List DM} {k : Nat} (h : k < D.length) : sumC (D.take (k + 1)) = sumC (D.take k) + (gD D k).cs.length := by
  rw [List.take_succ_eq_append_getElem h, sumC_append, gD_get h]
  simp [sumC]
theorem sumC_le {D : List DM} (h : ∀ k, k < D.length → (gD D k).cs.length ≤ 3) : ∀ k, k ≤ D.length → sumC (D.take k) ≤ 3 * k
  | 0, _ => by simp [sumC]
  | k + 1, hk => by
    rw [sumC_succ (by omega)]
    have := sumC_le h k (by omega)
    have := h k (by omega)
    omega
theorem s_firstCon {D : List DM} (hv : DV D) {k : Nat} (hk : k ≤ D.length) : spec_firstCon [.cell (.sl 3 (decsC D)), .cell (.int (k : Int))] = rI (sumC (D.take k)) := by
  have h4 := hv.len
  have key : ∀ m j : Nat, j + m = k → spec_firstCon_L0 (decsC D) (k : Int) ((sumC (D.take j) : Nat) : Int) (j : Int) = rI (sumC (D.take k)) := by
    intro m
    induction m with
    | zero => intro j hj; exact spec_firstCon_L0_le (bifF (decide_eq_false (by omega)) (by rw [show j = k by omega]))
    | succ m ih =>
      intro j hj
      have hlt : j < D.length := by omega
      have h1 := sumC_le hv.cs j (by omega)
      have h2 := hv.cs j hlt
      refine spec_firstCon_L0_le (bifT (decide_eq_true (by omega)) (atDecI rfl hlt ?_))
      rw [consC_len, wr (by omega) (by omega), wrk (by unfold maxI; omega)]
      have := ih (j + 1) (by omega)
      rw [sumC_succ hlt] at this
      change @Eq (Option AV) _ _
      simpa using this
  exact spec_firstCon_le (key k 0 (by omega))
def conL (c : Int) : List DM → Nat → Nat → Int
  | [], _, _ => -1
  | d :: ds, first, k => if (first : Int) ≤ c ∧ c < (first : Int) + d.cs.length then ((k + 1 : Nat) : Int) else conL c ds (first + d.cs.length) (k + 1)
def conT (D : List DM) (c : Int) : Int := conL c D 0 0
theorem s_conType {D : List DM} (hv : DV D) (c : Int) : spec_conType [.cell (.sl 3 (decsC D)), .cell (.int c)] = rI (conT D c) := by
  have h4 := hv.len
  have key : ∀ m k : Nat, k + m = D.length → spec_conType_L0 (decsC D) c (k : Int) = rI (conL c (D.drop k) (sumC (D.take k)) k) := by
    intro m
    induction m with
    | zero => intro k hk; exact spec_conType_L0_le (bifF (decide_eq_false (by rw [decsC_len]; omega)) (by rw [List.drop_eq_nil_of_le (by omega)]; rfl))
    | succ m ih =>
      intro k hk
      have hlt : k < D.length := by omega
      have h1 := sumC_le hv.cs k (by omega)
      have h2 := hv.cs k hlt
      have nx := ih (k + 1) (by omega)
      rw [sumC_succ hlt] at nx
      rw [List.drop_eq_getElem_cons hlt, gD_get hlt]
      unfold conL
      refine spec_conType_L0_le (bifT (decide_eq_true (by rw [decsC_len]; omega)) (callI (s_firstCon hv (by omega)) (atDecI rfl hlt ?_)))
      rw [consC_len, wr (n := ((sumC (D.take k) : Nat) : Int) + ((gD D k).cs.length : Nat)) (by omega) (by omega), wr (n := ((sumC (D.take k) : Nat) : Int) + ((gD D k).cs.length : Nat) - 1) (by omega) (by omega), wrk (by unfold maxI; omega)]
      refine callB (s_inRange _ _ _) ?_
      by_cases g1 : ((sumC (D.take k) : Nat) : Int) ≤ c
      · rw [decide_eq_true g1]
        by_cases g2 : c < ((sumC (D.take k) : Nat) : Int) + ((gD D k).cs.length : Nat)
        · rw [if_pos ⟨g1, g2⟩, decide_eq_true (show c ≤ ((sumC (D.take k) : Nat) : Int) + ((gD D k).cs.length : Nat) - 1 by omega)]
          exact bifT rfl rfl
        · rw [if_neg (fun h => g2 h.2), decide_eq_false (show ¬ c ≤ ((sumC (D.take k) : Nat) : Int) + ((gD D k).cs.length : Nat) - 1 by omega)]
          exact bifF rfl nx
      · rw [if_neg (fun h => g1 h.1), decide_eq_false g1]
        exact bifF rfl nx
  exact spec_conType_le (key D.length 0 (by omega))
theorem conL_some (c : Int) : ∀ (ds : List DM) (first k : Nat), conL c ds first k = -1 ∨ ∃ j, j < ds.length ∧ conL c ds first k = ((k + j + 1 : Nat) : Int) ∧ ((first + sumC (ds.take j) : Nat) : Int) ≤ c ∧ c < ((first + sumC (ds.take j) : Nat) : Int) + (gD ds j).cs.length
  | [], first, k => .inl rfl
  | d :: ds, first, k => by
    unfold conL
    split
    · rename_i h
      exact .inr ⟨0, by simp, by simp, by simpa [sumC] using h.1, by simpa [sumC, gD] using h.2⟩
    · rcases conL_some c ds (first + d.cs.length) (k + 1) with h | ⟨j, h1, h2, h3, h4⟩
      · exact .inl h
      · refine .inr ⟨j + 1, by simpa using h1, by rw [h2]; congr 1; omega, ?_, ?_⟩
        · simp only [List.take_succ_cons, sumC]; omega
        · simp only [List.take_succ_cons, sumC]
          have : gD (d :: ds) (j + 1) = gD ds j := by simp [gD]
          rw [this]; omega
def fld (D : List DM) (c : Int) : List Int := (gD D ((conT D c).toNat - 1)).cs.getD (c - ((sumC (D.take ((conT D c).toNat - 1)) : Nat) : Int)).toNat []
theorem conT_cases {D : List DM} (c : Int) : conT D c = -1 ∨ ∃ j i : Nat, j < D.length ∧ conT D c = ((j : Nat) : Int) + 1 ∧ c = ((sumC (D.take j) + i : Nat) : Int) ∧ i < (gD D j).cs.length ∧ fld D c = (gD D j).cs.getD i [] := by
  rcases conL_some c D 0 0 with h | ⟨j, h1, h2, h3, h4⟩
  · exact .inl h
  · have e : conT D c = ((j : Nat) : Int) + 1 := by unfold conT; rw [h2]; omega
    refine .inr ⟨j, (c - ((sumC (D.take j) : Nat) : Int)).toNat, h1, e, by omega, by omega, ?_⟩
    unfold fld
    rw [e, show (((j : Nat) : Int) + 1).toNat - 1 = j by omega]
theorem s_conFields {D : List DM} (hv : DV D) (c : Int) : spec_conFields [.cell (.sl 3 (decsC D)), .cell (.int c)] = rL (if conT D c < 1 then [] else fld D c) := by
  have h4 := hv.len
  refine spec_conFields_le (callI (s_conType hv c) ?_)
  rcases conT_cases (D := D) c with h0 | ⟨j, i, hj, he, hc, hi, hf⟩
  · rw [h0]
    exact bifT rfl rfl
  have h1 := sumC_le hv.cs j (by omega)
  have h2 := hv.cs j hj
  rw [he, if_neg (by omega)]
  refine bifF (decide_eq_false (by omega)) ?_
  have w : wrapI (((j : Nat) : Int) + 1 - 1) = j := by rw [wr (by omega) (by omega)]; omega
  rw [w]
  refine atDecI rfl hj (callI (s_firstCon hv (by omega)) (atConI (k := i) (by rw [hc, wr (by omega) (by omega)]; omega) hi ?_))
  rw [hf]
theorem s_isArrow {D : List DM} (hl : D.length ≤ 1000) (t : Int) : spec_isArrow [.cell (.sl 3 (decsC D)), .cell (.int t)] = rB (isAr D t) := by
  refine spec_isArrow_le (callB (s_inRange _ _ _) ?_)
  rw [decsC_len]
  unfold isAr
  by_cases h : 0 < t
  rotate_left
  · rw [decide_eq_false h, decide_eq_false (show ¬ (1 : Int) ≤ t by omega)]
    exact bifF rfl rfl
  rw [decide_eq_true h, decide_eq_true (show (1 : Int) ≤ t by omega)]
  rcases ht : isTy D t with _ | _
  · have : ¬ (t ≤ D.length) := fun hle => by
      have := isTy_iff.2 ⟨show 0 ≤ t by omega, hle⟩
      rw [ht] at this
      cases this
    rw [decide_eq_false this]
    exact bifF rfl rfl
  have := isTy_iff.1 ht
  rw [decide_eq_true this.2]
  refine bifT rfl (atDecI (k := t.toNat - 1) (by rw [wr (by omega) (by omega)]; omega) (by omega) ?_)
  rw [consC_len]
  by_cases hc : (gD D (t.toNat - 1)).cs.length = 0
  · rw [zr hc, hc]; rfl
  · rw [nz hc, show ((gD D (t.toNat - 1)).cs.length == 0) = false by simpa using hc]; rfl
def tv (V : List Int) (v : Int) : Int := if 0 ≤ v ∧ v < V.length then V.getD v.toNat 0 else -1
theorem s_copyInts (xs : List Int) (hx : xs.length ≤ 68719476736) : spec_copyInts [.cell (.sl 1 (intsC xs))] = rL xs :=
  spec_copyInts_le (appTo (by rw [intsC_len]; simpa using hx) (by rw [List.nil_append]))
theorem s_extend (xs ys : List Int) (hx : xs.length + ys.length ≤ 68719476736) : spec_extend [.cell (.sl 1 (intsC xs)), .cell (.sl 1 (intsC ys))] = rL (xs ++ ys) :=
  spec_extend_le (callS (s_copyInts xs (by omega)) (appTo (by rw [intsC_len, intsC_len]; exact hx) (by rw [intsC_append])))
end Go.Proofs.Ytbodfaghedolbaa
namespace Go.Proofs.Ytbodfaghedolbaa
open Go
structure PM where
  ps : List Int
  r : Int
  o : Int
  n : Int
  kids : List (List AC)
  deriving Inhabited
def pmC (x : PM) : List AC := [.sl 1 (intsC x.ps), .int x.r, .int x.o, .int x.n, .sl 3 x.kids]
def pmsC (R : List PM) : List (List AC) := R.map pmC
structure POk (x : PM) : Prop where
  ps : IntsOk x.ps
  r : inI x.r
  b : Fit .expr [.int x.o, .int x.n, .sl 3 x.kids]
theorem pmsC_len (R : List PM) : (pmsC R).length = R.length := by simp [pmsC]
def gP (R : List PM) (k : Nat) : PM := R.getD k default
theorem gP_mem {R : List PM} {k : Nat} (h : k < R.length) : gP R k ∈ R := mem_getD h _
theorem pmsC_get {R : List PM} {k : Nat} (h : k < R.length) : (pmsC R).getD k [] = [.sl 1 (intsC (gP R k).ps), .int (gP R k).r, .int (gP R k).o, .int (gP R k).n, .sl 3 (gP R k).kids] := by simp [pmsC, List.getD, h, gP, pmC]
section
variable {ρ : Type} {r : ρ}
theorem atPmI {R : List PM} {i : Int} {k : Nat} (hi : i = (k : Int)) (h : k < R.length) {K : Fn (Option ρ) [.sl 1 [], .int 0, .int 0, .int 0, .sl 3 []]}
    (h2 : (K : List (List AC) → Int → Int → Int → List (List AC) → Option ρ) (intsC (gP R k).ps) (gP R k).r (gP R k).o (gP R k).n (gP R k).kids = some r) : atR_ (pmsC R) i [.sl 1 [], .int 0, .int 0, .int 0, .sl 3 []] K = some r := by
  subst hi
  exact atFunc (by rw [pmsC_len]; exact h) (pmsC_get h) h2
end
end Go.Proofs.Ytbodfaghedolbaa
namespace Go.Proofs.Ytbodfaghedolbaa
open Go
structure CP (D : List DM) (R : List PM) : Prop where
  dv : DV D
  rl : R.length ≤ 4
  rok : ∀ x ∈ R, POk x
  ps : ∀ k, k < R.length → (gP R k).ps.length ≤ 3 ∧ ∀ t ∈ (gP R k).ps, 0 ≤ t ∧ t ≤ D.length
  r : ∀ k, k < R.length → 0 ≤ (gP R k).r ∧ (gP R k).r ≤ D.length
section
variable {D : List DM} {R : List PM} (hv : CP D R)
include hv
end
end Go.Proofs.Ytbodfaghedolbaa
namespace Go.Proofs.Ytbodfaghedolbaa
open Go
section
variable {D : List DM} {R : List PM}
end
end Go.Proofs.Ytbodfaghedolbaa
