/- The words at the head of this seat's translation, letter by letter: what they tell of the way in which it was cut. Conditions: none. -/
import Derived.Test.YtgbeongiejppnaaRows
namespace Go.Proofs.Ytgbeongiejppnaa
def headSp : Char := Char.ofNat 32
def headOne : List Char := [Char.ofNat 104, Char.ofNat 97, Char.ofNat 114, Char.ofNat 110, Char.ofNat 101, Char.ofNat 115, Char.ofNat 115]
def headSum : List Char := [Char.ofNat 53, Char.ofNat 53, Char.ofNat 51, Char.ofNat 54, Char.ofNat 100, Char.ofNat 52, Char.ofNat 99, Char.ofNat 101, Char.ofNat 99, Char.ofNat 97, Char.ofNat 49, Char.ofNat 54, Char.ofNat 49, Char.ofNat 50, Char.ofNat 55, Char.ofNat 99, Char.ofNat 54, Char.ofNat 53, Char.ofNat 54, Char.ofNat 53, Char.ofNat 48, Char.ofNat 102, Char.ofNat 55, Char.ofNat 48, Char.ofNat 97, Char.ofNat 49, Char.ofNat 102, Char.ofNat 54, Char.ofNat 48, Char.ofNat 54, Char.ofNat 100, Char.ofNat 98, Char.ofNat 102, Char.ofNat 54, Char.ofNat 56, Char.ofNat 55, Char.ofNat 51, Char.ofNat 48, Char.ofNat 101, Char.ofNat 52, Char.ofNat 57, Char.ofNat 99, Char.ofNat 99, Char.ofNat 102, Char.ofNat 100, Char.ofNat 52, Char.ofNat 53, Char.ofNat 52, Char.ofNat 54, Char.ofNat 55, Char.ofNat 48, Char.ofNat 49, Char.ofNat 54, Char.ofNat 50, Char.ofNat 51, Char.ofNat 50, Char.ofNat 54, Char.ofNat 56, Char.ofNat 102, Char.ofNat 101, Char.ofNat 48, Char.ofNat 100, Char.ofNat 98, Char.ofNat 56]
def headCut : List Char := [Char.ofNat 99, Char.ofNat 117, Char.ofNat 116]
def headRest : List Char := [Char.ofNat 97, Char.ofNat 116, Char.ofNat 32, Char.ofNat 108, Char.ofNat 111, Char.ofNat 111, Char.ofNat 112, Char.ofNat 46, Char.ofNat 101, Char.ofNat 120, Char.ofNat 97, Char.ofNat 109, Char.ofNat 112, Char.ofNat 108, Char.ofNat 101, Char.ofNat 47, Char.ofNat 114, Char.ofNat 101, Char.ofNat 102, Char.ofNat 99, Char.ofNat 111, Char.ofNat 117, Char.ofNat 110, Char.ofNat 116, Char.ofNat 109, Char.ofNat 108, Char.ofNat 47, Char.ofNat 108, Char.ofNat 97, Char.ofNat 119, Char.ofNat 115, Char.ofNat 46, Char.ofNat 70, Char.ofNat 110, Char.ofNat 73, Char.ofNat 110, Char.ofNat 104, Char.ofNat 97, Char.ofNat 98, Char.ofNat 105, Char.ofNat 116, Char.ofNat 101, Char.ofNat 100, Char.ofNat 32, Char.ofNat 108, Char.ofNat 111, Char.ofNat 111, Char.ofNat 112, Char.ofNat 46, Char.ofNat 101, Char.ofNat 120, Char.ofNat 97, Char.ofNat 109, Char.ofNat 112, Char.ofNat 108, Char.ofNat 101, Char.ofNat 47, Char.ofNat 114, Char.ofNat 101, Char.ofNat 102, Char.ofNat 99, Char.ofNat 111, Char.ofNat 117, Char.ofNat 110, Char.ofNat 116, Char.ofNat 109, Char.ofNat 108, Char.ofNat 47, Char.ofNat 108, Char.ofNat 97, Char.ofNat 119, Char.ofNat 115, Char.ofNat 46, Char.ofNat 70, Char.ofNat 110, Char.ofNat 73, Char.ofNat 110, Char.ofNat 104, Char.ofNat 97, Char.ofNat 98, Char.ofNat 105, Char.ofNat 116, Char.ofNat 101, Char.ofNat 100, Char.ofNat 77, Char.ofNat 111, Char.ofNat 114, Char.ofNat 101, Char.ofNat 32, Char.ofNat 108, Char.ofNat 111, Char.ofNat 111, Char.ofNat 112, Char.ofNat 46, Char.ofNat 101, Char.ofNat 120, Char.ofNat 97, Char.ofNat 109, Char.ofNat 112, Char.ofNat 108, Char.ofNat 101, Char.ofNat 47, Char.ofNat 114, Char.ofNat 101, Char.ofNat 102, Char.ofNat 99, Char.ofNat 111, Char.ofNat 117, Char.ofNat 110, Char.ofNat 116, Char.ofNat 109, Char.ofNat 108, Char.ofNat 47, Char.ofNat 108, Char.ofNat 97, Char.ofNat 119, Char.ofNat 115, Char.ofNat 46, Char.ofNat 70, Char.ofNat 110, Char.ofNat 78, Char.ofNat 111, Char.ofNat 100, Char.ofNat 101, Char.ofNat 115, Char.ofNat 79, Char.ofNat 102, Char.ofNat 32, Char.ofNat 108, Char.ofNat 111, Char.ofNat 111, Char.ofNat 112, Char.ofNat 46, Char.ofNat 101, Char.ofNat 120, Char.ofNat 97, Char.ofNat 109, Char.ofNat 112, Char.ofNat 108, Char.ofNat 101, Char.ofNat 47, Char.ofNat 114, Char.ofNat 101, Char.ofNat 102, Char.ofNat 99, Char.ofNat 111, Char.ofNat 117, Char.ofNat 110, Char.ofNat 116, Char.ofNat 109, Char.ofNat 108, Char.ofNat 47, Char.ofNat 108, Char.ofNat 97, Char.ofNat 119, Char.ofNat 115, Char.ofNat 46, Char.ofNat 70, Char.ofNat 110, Char.ofNat 78, Char.ofNat 111, Char.ofNat 100, Char.ofNat 101, Char.ofNat 115, Char.ofNat 79, Char.ofNat 102, Char.ofNat 84, Char.ofNat 119, Char.ofNat 111, Char.ofNat 32, Char.ofNat 108, Char.ofNat 111, Char.ofNat 111, Char.ofNat 112, Char.ofNat 46, Char.ofNat 101, Char.ofNat 120, Char.ofNat 97, Char.ofNat 109, Char.ofNat 112, Char.ofNat 108, Char.ofNat 101, Char.ofNat 47, Char.ofNat 114, Char.ofNat 101, Char.ofNat 102, Char.ofNat 99, Char.ofNat 111, Char.ofNat 117, Char.ofNat 110, Char.ofNat 116, Char.ofNat 109, Char.ofNat 108, Char.ofNat 47, Char.ofNat 108, Char.ofNat 97, Char.ofNat 119, Char.ofNat 115, Char.ofNat 46, Char.ofNat 70, Char.ofNat 110, Char.ofNat 86, Char.ofNat 97, Char.ofNat 108, Char.ofNat 105, Char.ofNat 100, Char.ofNat 83, Char.ofNat 105, Char.ofNat 103, Char.ofNat 115, Char.ofNat 32, Char.ofNat 108, Char.ofNat 111, Char.ofNat 111, Char.ofNat 112, Char.ofNat 46, Char.ofNat 101, Char.ofNat 120, Char.ofNat 97, Char.ofNat 109, Char.ofNat 112, Char.ofNat 108, Char.ofNat 101, Char.ofNat 47, Char.ofNat 114, Char.ofNat 101, Char.ofNat 102, Char.ofNat 99, Char.ofNat 111, Char.ofNat 117, Char.ofNat 110, Char.ofNat 116, Char.ofNat 109, Char.ofNat 108, Char.ofNat 47, Char.ofNat 108, Char.ofNat 97, Char.ofNat 119, Char.ofNat 115, Char.ofNat 46, Char.ofNat 70, Char.ofNat 110, Char.ofNat 84, Char.ofNat 121, Char.ofNat 112, Char.ofNat 101, Char.ofNat 79, Char.ofNat 102, Char.ofNat 32, Char.ofNat 108, Char.ofNat 111, Char.ofNat 111, Char.ofNat 112, Char.ofNat 46, Char.ofNat 101, Char.ofNat 120, Char.ofNat 97, Char.ofNat 109, Char.ofNat 112, Char.ofNat 108, Char.ofNat 101, Char.ofNat 47, Char.ofNat 114, Char.ofNat 101, Char.ofNat 102, Char.ofNat 99, Char.ofNat 111, Char.ofNat 117, Char.ofNat 110, Char.ofNat 116, Char.ofNat 109, Char.ofNat 108, Char.ofNat 47, Char.ofNat 108, Char.ofNat 97, Char.ofNat 119, Char.ofNat 115, Char.ofNat 46, Char.ofNat 70, Char.ofNat 110, Char.ofNat 84, Char.ofNat 121, Char.ofNat 112, Char.ofNat 101, Char.ofNat 79, Char.ofNat 102, Char.ofNat 70, Char.ofNat 114, Char.ofNat 111, Char.ofNat 110, Char.ofNat 116, Char.ofNat 32, Char.ofNat 108, Char.ofNat 111, Char.ofNat 111, Char.ofNat 112, Char.ofNat 46, Char.ofNat 101, Char.ofNat 120, Char.ofNat 97, Char.ofNat 109, Char.ofNat 112, Char.ofNat 108, Char.ofNat 101, Char.ofNat 47, Char.ofNat 114, Char.ofNat 101, Char.ofNat 102, Char.ofNat 99, Char.ofNat 111, Char.ofNat 117, Char.ofNat 110, Char.ofNat 116, Char.ofNat 109, Char.ofNat 108, Char.ofNat 47, Char.ofNat 108, Char.ofNat 97, Char.ofNat 119, Char.ofNat 115, Char.ofNat 46, Char.ofNat 70, Char.ofNat 110, Char.ofNat 84, Char.ofNat 121, Char.ofNat 112, Char.ofNat 101, Char.ofNat 79, Char.ofNat 102, Char.ofNat 76, Char.ofNat 101, Char.ofNat 116, Char.ofNat 32, Char.ofNat 108, Char.ofNat 111, Char.ofNat 111, Char.ofNat 112, Char.ofNat 46, Char.ofNat 101, Char.ofNat 120, Char.ofNat 97, Char.ofNat 109, Char.ofNat 112, Char.ofNat 108, Char.ofNat 101, Char.ofNat 47, Char.ofNat 114, Char.ofNat 101, Char.ofNat 102, Char.ofNat 99, Char.ofNat 111, Char.ofNat 117, Char.ofNat 110, Char.ofNat 116, Char.ofNat 109, Char.ofNat 108, Char.ofNat 47, Char.ofNat 108, Char.ofNat 97, Char.ofNat 119, Char.ofNat 115, Char.ofNat 46, Char.ofNat 70, Char.ofNat 110, Char.ofNat 84, Char.ofNat 121, Char.ofNat 112, Char.ofNat 101, Char.ofNat 79, Char.ofNat 102, Char.ofNat 73, Char.ofNat 102, Char.ofNat 32, Char.ofNat 108, Char.ofNat 111, Char.ofNat 111, Char.ofNat 112, Char.ofNat 46, Char.ofNat 101, Char.ofNat 120, Char.ofNat 97, Char.ofNat 109, Char.ofNat 112, Char.ofNat 108, Char.ofNat 101, Char.ofNat 47, Char.ofNat 114, Char.ofNat 101, Char.ofNat 102, Char.ofNat 99, Char.ofNat 111, Char.ofNat 117, Char.ofNat 110, Char.ofNat 116, Char.ofNat 109, Char.ofNat 108, Char.ofNat 47, Char.ofNat 108, Char.ofNat 97, Char.ofNat 119, Char.ofNat 115, Char.ofNat 46, Char.ofNat 70, Char.ofNat 110, Char.ofNat 70, Char.ofNat 114, Char.ofNat 101, Char.ofNat 101, Char.ofNat 79, Char.ofNat 102, Char.ofNat 32, Char.ofNat 108, Char.ofNat 111, Char.ofNat 111, Char.ofNat 112, Char.ofNat 46, Char.ofNat 101, Char.ofNat 120, Char.ofNat 97, Char.ofNat 109, Char.ofNat 112, Char.ofNat 108, Char.ofNat 101, Char.ofNat 47, Char.ofNat 114, Char.ofNat 101, Char.ofNat 102, Char.ofNat 99, Char.ofNat 111, Char.ofNat 117, Char.ofNat 110, Char.ofNat 116, Char.ofNat 109, Char.ofNat 108, Char.ofNat 47, Char.ofNat 108, Char.ofNat 97, Char.ofNat 119, Char.ofNat 115, Char.ofNat 46, Char.ofNat 70, Char.ofNat 110, Char.ofNat 70, Char.ofNat 114, Char.ofNat 101, Char.ofNat 101, Char.ofNat 79, Char.ofNat 102, Char.ofNat 76, Char.ofNat 101, Char.ofNat 115, Char.ofNat 115, Char.ofNat 32, Char.ofNat 108, Char.ofNat 111, Char.ofNat 111, Char.ofNat 112, Char.ofNat 46, Char.ofNat 101, Char.ofNat 120, Char.ofNat 97, Char.ofNat 109, Char.ofNat 112, Char.ofNat 108, Char.ofNat 101, Char.ofNat 47, Char.ofNat 114, Char.ofNat 101, Char.ofNat 102, Char.ofNat 99, Char.ofNat 111, Char.ofNat 117, Char.ofNat 110, Char.ofNat 116, Char.ofNat 109, Char.ofNat 108, Char.ofNat 47, Char.ofNat 108, Char.ofNat 97, Char.ofNat 119, Char.ofNat 115, Char.ofNat 46, Char.ofNat 70, Char.ofNat 110, Char.ofNat 77, Char.ofNat 101, Char.ofNat 110, Char.ofNat 116, Char.ofNat 105, Char.ofNat 111, Char.ofNat 110, Char.ofNat 115, Char.ofNat 79, Char.ofNat 102]
theorem head_string : Try.prog.initOrder = String.ofList (headOne ++ headSp :: (headSum ++ headSp :: (headCut ++ headSp :: headRest))) := by kernel_rfl
theorem words_cut : ∀ (a b : List Char), (∀ c ∈ a, (c == headSp) = false) → wordsSigns (a ++ headSp :: b) = a :: wordsSigns b := by
  intro a
  induction a with
  | nil => intro b _; rfl
  | cons c a ih =>
    intro b h
    have hc : c ≠ headSp := by have := h c (by simp); simpa using this
    have hr := ih b fun x hx => h x (by simp [hx])
    rw [List.cons_append]
    conv => lhs; unfold wordsSigns
    split
    · rename_i e; cases e
    · rename_i e; injection e with e1 _; exact absurd e1 hc
    · rename_i c' r' _ e
      injection e with e1 e2
      subst e1 e2
      rw [hr]
theorem head_words : wordsSigns Try.prog.initOrder.toList = headOne :: headSum :: headCut :: wordsSigns headRest := by
  rw [head_string, String.toList_ofList, words_cut _ _ (by decide), words_cut _ _ (by decide), words_cut _ _ (by decide)]
theorem behind_of {h s : List Char} {r : List (List Char)} (hc : ((h == "harness".toList || h == "ownmain".toList) && isSumSigns s) = true) : behindMainWord (h :: s :: r) = r := by
  unfold behindMainWord
  simp only [hc, if_true]
theorem enter_of {P : Program} {c : List Char} {rest : List (List Char)} (hb : behindMainWord (wordsSigns P.initOrder.toList) = c :: rest) (hs : stripLifts liftWords (c :: rest) = ([], c :: rest))
    (h1 : (c == "gc".toList) = false) (h2 : (c == "spec".toList) = false) (h3 : (c == "carried".toList) = false) (h4 : ((some c : Option (List Char)) == some "cut".toList) = true) (h5 : P.laysLater = false) (h6 : P.bearsReflect = false) (h7 : P.doorFits [] = true) : P.mayEnter = true := by
  unfold Program.mayEnter
  rw [hb]
  simp only [hs, List.head?_cons, h1, h2, h3, h4, h5, h6, h7, Bool.or_false, Bool.false_and, Bool.not_false, Bool.or_true, Bool.and_true, List.contains_nil]
theorem make_of {P : Program} {c : List Char} {rest : List (List Char)} (hb : behindMainWord (wordsSigns P.initOrder.toList) = c :: rest)
    (h1 : (c == "gc".toList) = false) (h2 : (c == "spec".toList) = false) (h3 : (c == "cut".toList) = true) : P.make = some Make.cut := by
  unfold Program.make
  rw [hb]
  simp only [h1, h2, h3, Bool.true_or, Bool.or_false, Bool.false_eq_true, if_false, if_true]
theorem head_behind : behindMainWord (wordsSigns Try.prog.initOrder.toList) = headCut :: wordsSigns headRest := by
  have hc : ((headOne == "harness".toList || headOne == "ownmain".toList) && isSumSigns headSum) = true := by as_aux_lemma => kernel_rfl
  rw [head_words]
  exact behind_of hc
theorem strip_no {o : String} {os : List String} {w : List Char} {ws : List (List Char)} (h : (w == o.toList) = false) : stripLifts (o :: os) (w :: ws) = stripLifts os (w :: ws) := by
  unfold stripLifts
  rw [h]
  rw [if_neg Bool.false_ne_true]
  cases os <;> rfl
theorem strip_cut (R : List (List Char)) : stripLifts liftWords (headCut :: R) = ([], headCut :: R) := by
  unfold liftWords
  rw [strip_no (o := "finals") (by as_aux_lemma => kernel_rfl)]
  rw [strip_no (o := "reflectrows") (by as_aux_lemma => kernel_rfl)]
  rw [strip_no (o := "leanrows") (by as_aux_lemma => kernel_rfl)]
  rw [strip_no (o := "onebuild") (by as_aux_lemma => kernel_rfl)]
  rw [strip_no (o := "publicsums") (by as_aux_lemma => kernel_rfl)]
  rw [strip_no (o := "eqguard") (by as_aux_lemma => kernel_rfl)]
  rw [strip_no (o := "ownunsafe") (by as_aux_lemma => kernel_rfl)]
  rw [strip_no (o := "libbeside") (by as_aux_lemma => kernel_rfl)]
  rw [strip_no (o := "ownbeside") (by as_aux_lemma => kernel_rfl)]
  rw [strip_no (o := "reflbeside") (by as_aux_lemma => kernel_rfl)]
  rw [strip_no (o := "aliases") (by as_aux_lemma => kernel_rfl)]
  rw [strip_no (o := "afterinit") (by as_aux_lemma => kernel_rfl)]
  rw [strip_no (o := "crcplain") (by as_aux_lemma => kernel_rfl)]
  rw [strip_no (o := "roadunsafe") (by as_aux_lemma => kernel_rfl)]
  rw [strip_no (o := "fmthandon") (by as_aux_lemma => kernel_rfl)]
  rfl
theorem cut_is : (headCut == "cut".toList) = true := by kernel_rfl
theorem cut_gc : (headCut == "gc".toList) = false := by kernel_rfl
theorem cut_spec : (headCut == "spec".toList) = false := by kernel_rfl
theorem cut_carried : (headCut == "carried".toList) = false := by kernel_rfl
theorem some_cut : ((some headCut : Option (List Char)) == some "cut".toList) = true := by kernel_rfl
theorem some_carried : ((some headCut : Option (List Char)) == some "carried".toList) = false := by kernel_rfl
theorem head_late : Try.prog.laysLater = false := by kernel_rfl
theorem head_reflect : Try.prog.bearsReflect = false := by kernel_rfl
theorem head_door : Try.prog.doorFits [] = true := by kernel_rfl
theorem head_enter : Try.prog.mayEnter = true := enter_of head_behind (strip_cut _) cut_gc cut_spec cut_carried some_cut head_late head_reflect head_door
theorem head_lifts : Try.prog.headLifts = [] := by
  unfold Program.headLifts
  rw [head_behind, strip_cut]
  generalize wordsSigns headRest = R
  simp only [List.head?_cons, some_cut, if_true]
theorem head_lifted : ((false : Bool) == Try.prog.liftsFinal) = true := by
  unfold Program.liftsFinal
  rw [head_behind, head_lifts]
  generalize wordsSigns headRest = R
  simp only [List.head?_cons, some_carried, Bool.false_and, Bool.false_or, List.contains_nil]
  rfl
theorem head_make : (Try.prog.make == some Make.cut) = true := by
  rw [make_of head_behind cut_gc cut_spec cut_is]
  rfl
end Go.Proofs.Ytgbeongiejppnaa
