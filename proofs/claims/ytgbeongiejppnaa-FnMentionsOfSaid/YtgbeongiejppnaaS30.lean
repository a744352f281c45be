/- Generic texts and models for the proofs of this seat: part 30. -/
import Derived.Test.YtgbeongiejppnaaS29
set_option linter.unusedVariables false
set_option linter.unusedSimpArgs false
namespace Go.Proofs.Ytgbeongiejppnaa
open Go
def acS : AC → Nat
  | .int _ => 0
  | .bool _ => 0
  | .sl _ rows => rows.length + rsS rows
where
  rsS : List (List AC) → Nat
    | [] => 0
    | r :: rs => cS r + rsS rs
  cS : List AC → Nat
    | [] => 0
    | c :: cs => acS c + cS cs
abbrev cS := acS.cS
abbrev rsS := acS.rsS
theorem cS_nil : cS [] = 0 := by simp [cS, acS.cS]
theorem cS_int (n : Int) (cs : List AC) : cS (.int n :: cs) = cS cs := by simp [cS, acS.cS, acS]
theorem cS_sl (k : Nat) (r : List (List AC)) (cs : List AC) : cS (.sl k r :: cs) = r.length + rsS r + cS cs := by simp [cS, acS.cS, acS, rsS]
theorem rsS_nil : rsS [] = 0 := by simp [rsS, acS.rsS]
theorem rsS_cons (r : List AC) (rs : List (List AC)) : rsS (r :: rs) = cS r + rsS rs := by simp [rsS, acS.rsS, cS]
theorem rsS_drop {rs : List (List AC)} {k : Nat} (h : k < rs.length) : rsS (rs.drop k) = cS (rs.getD k []) + rsS (rs.drop (k + 1)) := by
  rw [List.drop_eq_getElem_cons h, rsS_cons]
  simp [List.getD, h]
theorem rsS_mem {rs : List (List AC)} {r : List AC} (h : r ∈ rs) : cS r ≤ rsS rs := by
  induction rs with
  | nil => cases h
  | cons x rs ih =>
    rw [rsS_cons]
    rcases List.mem_cons.1 h with rfl | h
    · omega
    · have := ih h; omega
def intsC (xs : List Int) : List (List AC) := xs.map fun n => [.int n]
theorem intsC_len (xs : List Int) : (intsC xs).length = xs.length := by simp [intsC]
theorem intsC_get {xs : List Int} {k : Nat} (h : k < xs.length) : (intsC xs).getD k [] = [.int xs[k]] := by simp [intsC, List.getD, h]
theorem intsC_append (xs ys : List Int) : intsC xs ++ intsC ys = intsC (xs ++ ys) := by simp [intsC]
def inI (n : Int) : Prop := -9223372036854775808 ≤ n ∧ n ≤ 9223372036854775807
def maxI : Nat := 9223372036854775807
structure IntsOk (xs : List Int) : Prop where
  len : xs.length ≤ maxI
  all : ∀ x ∈ xs, inI x
theorem wr {n : Int} (h1 : -9223372036854775808 ≤ n) (h2 : n ≤ 9223372036854775807) : wrapI n = n := wrap_in h1 h2
theorem wrk {k : Nat} (h : k < maxI) : wrapI ((k : Int) + 1) = ((k + 1 : Nat) : Int) := by
  unfold maxI at h
  rw [wr (by omega) (by omega)]
  omega
section
variable {ρ : Type} {r : ρ}
theorem at_to {rows : List (List AC)} {k : Nat} (h : k < rows.length) {sh : List AC} {K : Fn (Option ρ) sh} (h2 : openF sh (rows.getD k []) K = some r) : atR_ rows (k : Int) sh K = some r := by
  unfold atR_ okIdx
  rw [decide_eq_true (by omega), decide_eq_true (by omega)]
  exact h2
theorem callI {x : Option AV} {n : Int} (h : x = some (.v (.cell (.int n)))) {K : Fn (Option ρ) (shapesOf [(false, [.int 0])])} (h2 : (K : Int → Option ρ) n = some r) : callR x false [(false, [.int 0])] K = some r := by rw [h]; exact h2
theorem callB {x : Option AV} {n : Bool} (h : x = some (.v (.cell (.bool n)))) {K : Fn (Option ρ) (shapesOf [(false, [.bool false])])} (h2 : (K : Bool → Option ρ) n = some r) : callR x false [(false, [.bool false])] K = some r := by rw [h]; exact h2
theorem callS {x : Option AV} {k : Nat} {l : List (List AC)} (h : x = some (.v (.cell (.sl k l)))) {K : Fn (Option ρ) (shapesOf [(false, [.sl k []])])} (h2 : (K : List (List AC) → Option ρ) l = some r) : callR x false [(false, [.sl k []])] K = some r := by
  rw [h]
  show (bif Nat.beq k k then _ else none) = _
  rw [Nat.beq_refl]
  exact h2
theorem appTo {l l' : List (List AC)} (h : l.length + l'.length ≤ 68719476736) {K : List (List AC) → Option ρ} (h2 : K (l ++ l') = some r) : appR l l' K = some r := by
  unfold appR lim36
  rw [decide_eq_true (by rw [List.length_append]; exact h)]
  exact h2
theorem cutTo {l : List (List AC)} {lo hi : Int} (h0 : 0 ≤ lo) (h1 : lo ≤ hi) (h2 : hi ≤ l.length) {K : List (List AC) → Option ρ} (h3 : K ((l.drop lo.toNat).take (hi.toNat - lo.toNat)) = some r) : cutR l lo hi K = some r := by
  unfold cutR
  rw [decide_eq_true ⟨h0, h1, h2⟩]
  exact h3
theorem bifT {b : Bool} {x y : Option ρ} (h : b = true) (h2 : x = some r) : (bif b then x else y) = some r := by rw [h]; exact h2
theorem bifF {b : Bool} {x y : Option ρ} (h : b = false) (h2 : y = some r) : (bif b then x else y) = some r := by rw [h]; exact h2
theorem atInt {rows : List (List AC)} {k : Nat} (h : k < rows.length) {a0 : Int} (e : rows.getD k [] = [.int a0]) {K : Fn (Option ρ) [.int 0]} (h2 : (K : Int → Option ρ) a0 = some r) : atR_ rows (k : Int) [.int 0] K = some r := at_to h (by rw [e]; exact h2)
theorem atCon {rows : List (List AC)} {k : Nat} (h : k < rows.length) {a0 : List (List AC)} (e : rows.getD k [] = [.sl 1 a0]) {K : Fn (Option ρ) [.sl 1 []]} (h2 : (K : List (List AC) → Option ρ) a0 = some r) : atR_ rows (k : Int) [.sl 1 []] K = some r := at_to h (by rw [e]; exact h2)
theorem callCon {x : Option AV} {a0 : List (List AC)} (h : x = some (.v (.agg [.sl 1 a0]))) {K : Fn (Option ρ) (shapesOf [(true, [.sl 1 []])])} (h2 : (K : List (List AC) → Option ρ) a0 = some r) : callR x false [(true, [.sl 1 []])] K = some r := by rw [h]; exact h2
theorem atDecl {rows : List (List AC)} {k : Nat} (h : k < rows.length) {a0 : Int} {a1 : Int} {a2 : List (List AC)} (e : rows.getD k [] = [.int a0, .int a1, .sl 1 a2]) {K : Fn (Option ρ) [.int 0, .int 0, .sl 1 []]} (h2 : (K : Int → Int → List (List AC) → Option ρ) a0 a1 a2 = some r) : atR_ rows (k : Int) [.int 0, .int 0, .sl 1 []] K = some r := at_to h (by rw [e]; exact h2)
theorem atExpr {rows : List (List AC)} {k : Nat} (h : k < rows.length) {a0 : Int} {a1 : Int} {a2 : List (List AC)} (e : rows.getD k [] = [.int a0, .int a1, .sl 3 a2]) {K : Fn (Option ρ) [.int 0, .int 0, .sl 3 []]} (h2 : (K : Int → Int → List (List AC) → Option ρ) a0 a1 a2 = some r) : atR_ rows (k : Int) [.int 0, .int 0, .sl 3 []] K = some r := at_to h (by rw [e]; exact h2)
theorem callExpr {x : Option AV} {a0 : Int} {a1 : Int} {a2 : List (List AC)} (h : x = some (.v (.agg [.int a0, .int a1, .sl 3 a2]))) {K : Fn (Option ρ) (shapesOf [(true, [.int 0, .int 0, .sl 3 []])])} (h2 : (K : Int → Int → List (List AC) → Option ρ) a0 a1 a2 = some r) : callR x false [(true, [.int 0, .int 0, .sl 3 []])] K = some r := by rw [h]; exact h2
theorem atFunc {rows : List (List AC)} {k : Nat} (h : k < rows.length) {a0 : List (List AC)} {a1 : Int} {a2 : Int} {a3 : Int} {a4 : List (List AC)} (e : rows.getD k [] = [.sl 1 a0, .int a1, .int a2, .int a3, .sl 3 a4]) {K : Fn (Option ρ) [.sl 1 [], .int 0, .int 0, .int 0, .sl 3 []]} (h2 : (K : List (List AC) → Int → Int → Int → List (List AC) → Option ρ) a0 a1 a2 a3 a4 = some r) : atR_ rows (k : Int) [.sl 1 [], .int 0, .int 0, .int 0, .sl 3 []] K = some r := at_to h (by rw [e]; exact h2)
theorem callFunc {x : Option AV} {a0 : List (List AC)} {a1 : Int} {a2 : Int} {a3 : Int} {a4 : List (List AC)} (h : x = some (.v (.agg [.sl 1 a0, .int a1, .int a2, .int a3, .sl 3 a4]))) {K : Fn (Option ρ) (shapesOf [(true, [.sl 1 [], .int 0, .int 0, .int 0, .sl 3 []])])} (h2 : (K : List (List AC) → Int → Int → Int → List (List AC) → Option ρ) a0 a1 a2 a3 a4 = some r) : callR x false [(true, [.sl 1 [], .int 0, .int 0, .int 0, .sl 3 []])] K = some r := by rw [h]; exact h2
theorem atNum {xs : List Int} {k : Nat} (h : k < xs.length) {K : Fn (Option ρ) [.int 0]} (h2 : (K : Int → Option ρ) xs[k] = some r) : atR_ (intsC xs) (k : Int) [.int 0] K = some r := atInt (by rw [intsC_len]; exact h) (intsC_get h) h2
end
inductive Ty where
  | con
  | decl
  | expr
  | func
  | prog
  | step
  | block
  | routine
  | normal
  | cell
  | instr
  | proc
  | image
  | frame
  | state
inductive Fit : Ty → List AC → Prop
  | con (fs : List Int) (h : IntsOk fs) : Fit .con [.sl 1 (intsC fs)]
  | decl (f t : Int) (cons : List (List AC)) (hf : inI f) (ht : inI t) (hl : cons.length ≤ maxI) (h : ∀ c ∈ cons, Fit .con c) : Fit .decl [.int f, .int t, .sl 1 cons]
  | expr (o n : Int) (kids : List (List AC)) (ho : inI o) (hn : inI n) (hl : kids.length ≤ maxI) (h : ∀ c ∈ kids, Fit .expr c) : Fit .expr [.int o, .int n, .sl 3 kids]
  | func (ps : List Int) (r o n : Int) (kids : List (List AC)) (hp : IntsOk ps) (hr : inI r) (h : Fit .expr [.int o, .int n, .sl 3 kids]) : Fit .func [.sl 1 (intsC ps), .int r, .int o, .int n, .sl 3 kids]
  | prog (ds fs : List (List AC)) (hd : ds.length ≤ maxI) (hf : fs.length ≤ maxI) (h1 : ∀ d ∈ ds, Fit .decl d) (h2 : ∀ f ∈ fs, Fit .func f) : Fit .prog [.sl 3 ds, .sl 5 fs]
  | step (o n i : Int) (args : List Int) (kids : List (List AC)) (ho : inI o) (hn : inI n) (hi : inI i) (ha : IntsOk args) (hl : kids.length ≤ maxI) (h : ∀ b ∈ kids, Fit .block b) : Fit .step [.int o, .int n, .int i, .sl 1 (intsC args), .sl 2 kids]
  | block (steps : List (List AC)) (r : Int) (hr : inI r) (hl : steps.length ≤ maxI) (h : ∀ s ∈ steps, Fit .step s) : Fit .block [.sl 5 steps, .int r]
  | routine (ps lent : List Int) (r : Int) (steps : List (List AC)) (x : Int) (hp : IntsOk ps) (hl : IntsOk lent) (hr : inI r) (h : Fit .block [.sl 5 steps, .int x]) : Fit .routine [.sl 1 (intsC ps), .sl 1 (intsC lent), .int r, .sl 5 steps, .int x]
  | normal (ds rs : List (List AC)) (hd : ds.length ≤ maxI) (hr : rs.length ≤ maxI) (h1 : ∀ d ∈ ds, Fit .decl d) (h2 : ∀ r ∈ rs, Fit .routine r) : Fit .normal [.sl 3 ds, .sl 5 rs]
  | cell (c t : Int) (fs : List Int) (hc : inI c) (ht : inI t) (h : IntsOk fs) : Fit .cell [.int c, .int t, .sl 1 (intsC fs)]
  | instr (o d n i : Int) (args jumps : List Int) (ho : inI o) (hd : inI d) (hn : inI n) (hi : inI i) (ha : IntsOk args) (hj : IntsOk jumps) : Fit .instr [.int o, .int d, .int n, .int i, .sl 1 (intsC args), .sl 1 (intsC jumps)]
  | proc (ps lent : List Int) (r regs : Int) (code : List (List AC)) (hp : IntsOk ps) (hl : IntsOk lent) (hr : inI r) (hg : inI regs) (hc : code.length ≤ maxI) (h : ∀ x ∈ code, Fit .instr x) : Fit .proc [.sl 1 (intsC ps), .sl 1 (intsC lent), .int r, .int regs, .sl 6 code]
  | image (ds procs : List (List AC)) (hd : ds.length ≤ maxI) (hp : procs.length ≤ maxI) (h1 : ∀ d ∈ ds, Fit .decl d) (h2 : ∀ p ∈ procs, Fit .proc p) : Fit .image [.sl 3 ds, .sl 5 procs]
  | frame (p a d : Int) (regs own held : List Int) (hp : inI p) (ha : inI a) (hd : inI d) (h1 : IntsOk regs) (h2 : IntsOk own) (h3 : IntsOk held) : Fit .frame [.int p, .int a, .int d, .sl 1 (intsC regs), .sl 1 (intsC own), .sl 1 (intsC held)]
  | state (s v c m : Int) (out : List Int) (heap frames : List (List AC)) (hs : inI s) (hv : inI v) (hc : inI c) (hm : inI m) (ho : IntsOk out) (hh : heap.length ≤ maxI) (hf : frames.length ≤ maxI) (h1 : ∀ x ∈ heap, Fit .cell x) (h2 : ∀ x ∈ frames, Fit .frame x) : Fit .state [.int s, .int v, .int c, .int m, .sl 1 (intsC out), .sl 3 heap, .sl 6 frames]
theorem mem_getD {α : Type} {l : List α} {k : Nat} (h : k < l.length) (d : α) : l.getD k d ∈ l := by simp [List.getD, List.getElem?_eq_getElem h]
end Go.Proofs.Ytgbeongiejppnaa
namespace Go.Proofs.Ytgbeongiejppnaa
open Go
abbrev rB (b : Bool) : Option AV := some (.v (.cell (.bool b)))
abbrev rI (n : Int) : Option AV := some (.v (.cell (.int n)))
abbrev rL (xs : List Int) : Option AV := some (.v (.cell (.sl 1 (intsC xs))))
structure DM where
  f : Int
  t : Int
  cs : List (List Int)
  deriving Inhabited
def conC (c : List Int) : List AC := [.sl 1 (intsC c)]
def consC (cs : List (List Int)) : List (List AC) := cs.map conC
def decC (d : DM) : List AC := [.int d.f, .int d.t, .sl 1 (consC d.cs)]
def decsC (D : List DM) : List (List AC) := D.map decC
theorem decsC_len (D : List DM) : (decsC D).length = D.length := by simp [decsC]
theorem consC_len (C : List (List Int)) : (consC C).length = C.length := by simp [consC]
def gD (D : List DM) (k : Nat) : DM := D.getD k default
theorem decsC_get {D : List DM} {k : Nat} (h : k < D.length) : (decsC D).getD k [] = [.int (gD D k).f, .int (gD D k).t, .sl 1 (consC (gD D k).cs)] := by simp [decsC, List.getD, h, gD, decC]
theorem consC_get {C : List (List Int)} {k : Nat} (h : k < C.length) : (consC C).getD k [] = [.sl 1 (intsC (C.getD k []))] := by simp [consC, List.getD, h, conC]
section
variable {ρ : Type} {r : ρ}
theorem atDecI {D : List DM} {i : Int} {k : Nat} (hi : i = (k : Int)) (h : k < D.length) {K : Fn (Option ρ) [.int 0, .int 0, .sl 1 []]} (h2 : (K : Int → Int → List (List AC) → Option ρ) (gD D k).f (gD D k).t (consC (gD D k).cs) = some r) : atR_ (decsC D) i [.int 0, .int 0, .sl 1 []] K = some r := by
  subst hi
  exact atDecl (by rw [decsC_len]; exact h) (decsC_get h) h2
theorem atConI {C : List (List Int)} {i : Int} {k : Nat} (hi : i = (k : Int)) (h : k < C.length) {K : Fn (Option ρ) [.sl 1 []]} (h2 : (K : List (List AC) → Option ρ) (intsC (C.getD k [])) = some r) : atR_ (consC C) i [.sl 1 []] K = some r := by
  subst hi
  exact atCon (by rw [consC_len]; exact h) (consC_get h) h2
end
theorem gD_get {D : List DM} {k : Nat} (h : k < D.length) : D[k] = gD D k := by simp [gD, List.getD, h]
theorem nz {n : Nat} (h : n ≠ 0) : (((n : Nat) : Int) == 0) = false := by simp [h]
theorem zr {n : Nat} (h : n = 0) : (((n : Nat) : Int) == 0) = true := by simp [h]
theorem eqt {a b : Int} (h : a = b) : (a == b) = true := by simp [h]
theorem eqf {a b : Int} (h : a ≠ b) : (a == b) = false := by simp [h]
theorem net {a b : Int} (h : a ≠ b) : (a != b) = true := by simp [h]
theorem nef {a b : Int} (h : a = b) : (a != b) = false := by simp [h]
def isTy (D : List DM) (t : Int) : Bool := decide (0 ≤ t) && decide (t ≤ D.length)
def isAr (D : List DM) (t : Int) : Bool := decide (0 < t) && (isTy D t && ((gD D (t.toNat - 1)).cs.length == 0))
def hitA (f t : Int) (d : DM) : Bool := (d.cs.length == 0) && (d.f == f && d.t == t)
def arrL (f t : Int) : List DM → Nat → Int
  | [], _ => -1
  | d :: ds, k => if hitA f t d then ((k + 1 : Nat) : Int) else arrL f t ds (k + 1)
def conOk (D : List DM) (c : List Int) : Bool := decide (c.length ≤ 3) && c.all (isTy D)
def decOk (D : List DM) (k : Nat) : Bool :=
  if 0 < (gD D k).cs.length then decide ((gD D k).cs.length ≤ 3) && (((gD D k).f == 0) && (((gD D k).t == 0) && (gD D k).cs.all (conOk D)))
  else isTy D (gD D k).f && (isTy D (gD D k).t && !(D.take k).any (hitA (gD D k).f (gD D k).t))
def typesOk (D : List DM) : Bool := decide (D.length ≤ 4) && (List.range D.length).all (decOk D)
theorem s_inRange (n lo hi : Int) : spec_inRange [.cell (.int n), .cell (.int lo), .cell (.int hi)] = rB (decide (lo ≤ n) && decide (n ≤ hi)) := by
  refine spec_inRange_le ?_
  by_cases h : lo ≤ n
  · exact bifT (decide_eq_true h) (by simp [h])
  · exact bifF (decide_eq_false h) (by simp [h])
theorem hit_cases {f t : Int} {d : DM} : hitA f t d = true ↔ d.cs.length = 0 ∧ d.f = f ∧ d.t = t := by simp [hitA]
theorem s_arrow (D : List DM) (hD : D.length ≤ 1000) (f t : Int) : spec_arrowOf [.cell (.sl 3 (decsC D)), .cell (.int f), .cell (.int t)] = rI (arrL f t D 0) := by
  have key : ∀ m k : Nat, k + m = D.length → spec_arrowOf_L0 (decsC D) f t (k : Int) = rI (arrL f t (D.drop k) k) := by
    intro m
    induction m with
    | zero => intro k hk; exact spec_arrowOf_L0_le (bifF (decide_eq_false (by rw [decsC_len]; omega)) (by rw [List.drop_eq_nil_of_le (by omega)]; rfl))
    | succ m ih =>
      intro k hk
      have hlt : k < D.length := by omega
      have w1 : wrapI ((k : Int) + 1) = ((k + 1 : Nat) : Int) := wrk (by unfold maxI; omega)
      have nx := ih (k + 1) (by omega)
      rw [List.drop_eq_getElem_cons hlt, gD_get hlt]
      refine spec_arrowOf_L0_le (bifT (decide_eq_true (by rw [decsC_len]; omega)) (atDecI rfl hlt ?_))
      rw [consC_len, w1]
      by_cases h1 : (gD D k).cs.length = 0
      · refine bifT (by simp [h1]) (atDecI rfl hlt ?_)
        by_cases h2 : (gD D k).f = f
        · refine bifT (by simp [h2]) (atDecI rfl hlt ?_)
          by_cases h3 : (gD D k).t = t
          · exact bifT (by simp [h3]) (by rw [arrL, if_pos (hit_cases.2 ⟨h1, h2, h3⟩)])
          · exact bifF (by simp [h3]) (by rw [arrL, if_neg (fun h => h3 (hit_cases.1 h).2.2)]; exact nx)
        · exact bifF (by simp [h2]) (by rw [arrL, if_neg (fun h => h2 (hit_cases.1 h).2.1)]; exact nx)
      · exact bifF (nz h1) (by rw [arrL, if_neg (fun h => h1 (hit_cases.1 h).1)]; exact nx)
  exact spec_arrowOf_le (key D.length 0 (by omega))
end Go.Proofs.Ytgbeongiejppnaa
namespace Go.Proofs.Ytgbeongiejppnaa
open Go
end Go.Proofs.Ytgbeongiejppnaa
namespace Go.Proofs.Ytgbeongiejppnaa
open Go
structure DV (D : List DM) : Prop where
  len : D.length ≤ 4
  cs : ∀ k, k < D.length → (gD D k).cs.length ≤ 3
  c : ∀ k, k < D.length → ∀ c ∈ (gD D k).cs, c.length ≤ 3 ∧ ∀ x ∈ c, 0 ≤ x ∧ x ≤ D.length
  arr : ∀ k, k < D.length → (gD D k).cs.length = 0 → (0 ≤ (gD D k).f ∧ (gD D k).f ≤ D.length) ∧ (0 ≤ (gD D k).t ∧ (gD D k).t ≤ D.length)
theorem isTy_iff {D : List DM} {t : Int} : isTy D t = true ↔ 0 ≤ t ∧ t ≤ D.length := by simp [isTy]
theorem dv_of {D : List DM} (h : typesOk D = true) : DV D := by
  simp only [typesOk, Bool.and_eq_true, decide_eq_true_eq, List.all_eq_true, List.mem_range] at h
  obtain ⟨h1, h2⟩ := h
  refine ⟨h1, fun k hk => ?_, fun k hk c hc => ?_, fun k hk h0 => ?_⟩
  · have := h2 k hk
    unfold decOk at this
    split at this
    · simp only [Bool.and_eq_true, decide_eq_true_eq] at this; exact this.1
    · omega
  · have := h2 k hk
    unfold decOk at this
    have hpos : 0 < (gD D k).cs.length := List.length_pos_of_mem hc
    rw [if_pos hpos] at this
    simp only [Bool.and_eq_true, List.all_eq_true, conOk, decide_eq_true_eq] at this
    obtain ⟨g1, g2⟩ := this.2.2.2 c hc
    exact ⟨g1, fun x hx => isTy_iff.1 (g2 x hx)⟩
  · have := h2 k hk
    unfold decOk at this
    rw [if_neg (by omega)] at this
    simp only [Bool.and_eq_true] at this
    exact ⟨isTy_iff.1 this.1, isTy_iff.1 this.2.1⟩
def sumC : List DM → Nat
  | [] => 0
  | d :: ds => d.cs.length + sumC ds
theorem sumC_append (a b : List DM) : sumC (a ++ b) = sumC a + sumC b := by
  induction a with
  | nil => simp [sumC]
  | cons x a ih => simp only [List.cons_append, sumC, ih]; omega
theorem sumC_succ {D : List DM} {k : Nat} (h : k < D.length) : sumC (D.take (k + 1)) = sumC (D.take k) + (gD D k).cs.length := by
  rw [List.take_succ_eq_append_getElem h, sumC_append, gD_get h]
  simp [sumC]
theorem sumC_le {D : List DM} (h : ∀ k, k < D.length → (gD D k).cs.length ≤ 3) : ∀ k, k ≤ D.length → sumC (D.take k) ≤ 3 * k
  | 0, _ => by simp [sumC]
  | k + 1, hk => by
    rw [sumC_succ (by omega)]
    have := sumC_le h k (by omega)
    have := h k (by omega)
    omega
theorem s_firstCon {D : List DM} (hv : DV D) {k : Nat} (hk : k ≤ D.length) : spec_firstCon [.cell (.sl 3 (decsC D)), .cell (.int (k : Int))] = rI (sumC (D.take k)) := by
  have h4 := hv.len
  have key : ∀ m j : Nat, j + m = k → spec_firstCon_L0 (decsC D) (k : Int) ((sumC (D.take j) : Nat) : Int) (j : Int) = rI (sumC (D.take k)) := by
    intro m
    induction m with
    | zero => intro j hj; exact spec_firstCon_L0_le (bifF (decide_eq_false (by omega)) (by rw [show j = k by omega]))
    | succ m ih =>
      intro j hj
      have hlt : j < D.length := by omega
      have h1 := sumC_le hv.cs j (by omega)
      have h2 := hv.cs j hlt
      refine spec_firstCon_L0_le (bifT (decide_eq_true (by omega)) (atDecI rfl hlt ?_))
      rw [consC_len, wr (by omega) (by omega), wrk (by unfold maxI; omega)]
      have := ih (j + 1) (by omega)
      rw [sumC_succ hlt] at this
      change @Eq (Option AV) _ _
      simpa using this
  exact spec_firstCon_le (key k 0 (by omega))
def conL (c : Int) : List DM → Nat → Nat → Int
  | [], _, _ => -1
  | d :: ds, first, k => if (first : Int) ≤ c ∧ c < (first : Int) + d.cs.length then ((k + 1 : Nat) : Int) else conL c ds (first + d.cs.length) (k + 1)
def conT (D : List DM) (c : Int) : Int := conL c D 0 0
theorem s_conType {D : List DM} (hv : DV D) (c : Int) : spec_conType [.cell (.sl 3 (decsC D)), .cell (.int c)] = rI (conT D c) := by
  have h4 := hv.len
  have key : ∀ m k : Nat, k + m = D.length → spec_conType_L0 (decsC D) c (k : Int) = rI (conL c (D.drop k) (sumC (D.take k)) k) := by
    intro m
    induction m with
    | zero => intro k hk; exact spec_conType_L0_le (bifF (decide_eq_false (by rw [decsC_len]; omega)) (by rw [List.drop_eq_nil_of_le (by omega)]; rfl))
    | succ m ih =>
      intro k hk
      have hlt : k < D.length := by omega
      have h1 := sumC_le hv.cs k (by omega)
      have h2 := hv.cs k hlt
      have nx := ih (k + 1) (by omega)
      rw [sumC_succ hlt] at nx
      rw [List.drop_eq_getElem_cons hlt, gD_get hlt]
      unfold conL
      refine spec_conType_L0_le (bifT (decide_eq_true (by rw [decsC_len]; omega)) (callI (s_firstCon hv (by omega)) (atDecI rfl hlt ?_)))
      rw [consC_len, wr (n := ((sumC (D.take k) : Nat) : Int) + ((gD D k).cs.length : Nat)) (by omega) (by omega), wr (n := ((sumC (D.take k) : Nat) : Int) + ((gD D k).cs.length : Nat) - 1) (by omega) (by omega), wrk (by unfold maxI; omega)]
      refine callB (s_inRange _ _ _) ?_
      by_cases g1 : ((sumC (D.take k) : Nat) : Int) ≤ c
      · rw [decide_eq_true g1]
        by_cases g2 : c < ((sumC (D.take k) : Nat) : Int) + ((gD D k).cs.length : Nat)
        · rw [if_pos ⟨g1, g2⟩, decide_eq_true (show c ≤ ((sumC (D.take k) : Nat) : Int) + ((gD D k).cs.length : Nat) - 1 by omega)]
          exact bifT rfl rfl
        · rw [if_neg (fun h => g2 h.2), decide_eq_false (show ¬ c ≤ ((sumC (D.take k) : Nat) : Int) + ((gD D k).cs.length : Nat) - 1 by omega)]
          exact bifF rfl nx
      · rw [if_neg (fun h => g1 h.1), decide_eq_false g1]
        exact bifF rfl nx
  exact spec_conType_le (key D.length 0 (by omega))
theorem conL_some (c : Int) : ∀ (ds : List DM) (first k : Nat), conL c ds first k = -1 ∨ ∃ j, j < ds.length ∧ conL c ds first k = ((k + j + 1 : Nat) : Int) ∧ ((first + sumC (ds.take j) : Nat) : Int) ≤ c ∧ c < ((first + sumC (ds.take j) : Nat) : Int) + (gD ds j).cs.length
  | [], first, k => .inl rfl
  | d :: ds, first, k => by
    unfold conL
    split
    · rename_i h
      exact .inr ⟨0, by simp, by simp, by simpa [sumC] using h.1, by simpa [sumC, gD] using h.2⟩
    · rcases conL_some c ds (first + d.cs.length) (k + 1) with h | ⟨j, h1, h2, h3, h4⟩
      · exact .inl h
      · refine .inr ⟨j + 1, by simpa using h1, by rw [h2]; congr 1; omega, ?_, ?_⟩
        · simp only [List.take_succ_cons, sumC]; omega
        · simp only [List.take_succ_cons, sumC]
          have : gD (d :: ds) (j + 1) = gD ds j := by simp [gD]
          rw [this]; omega
def fld (D : List DM) (c : Int) : List Int := (gD D ((conT D c).toNat - 1)).cs.getD (c - ((sumC (D.take ((conT D c).toNat - 1)) : Nat) : Int)).toNat []
theorem conT_cases {D : List DM} (c : Int) : conT D c = -1 ∨ ∃ j i : Nat, j < D.length ∧ conT D c = ((j : Nat) : Int) + 1 ∧ c = ((sumC (D.take j) + i : Nat) : Int) ∧ i < (gD D j).cs.length ∧ fld D c = (gD D j).cs.getD i [] := by
  rcases conL_some c D 0 0 with h | ⟨j, h1, h2, h3, h4⟩
  · exact .inl h
  · have e : conT D c = ((j : Nat) : Int) + 1 := by unfold conT; rw [h2]; omega
    refine .inr ⟨j, (c - ((sumC (D.take j) : Nat) : Int)).toNat, h1, e, by omega, by omega, ?_⟩
    unfold fld
    rw [e, show (((j : Nat) : Int) + 1).toNat - 1 = j by omega]
theorem s_conFields {D : List DM} (hv : DV D) (c : Int) : spec_conFields [.cell (.sl 3 (decsC D)), .cell (.int c)] = rL (if conT D c < 1 then [] else fld D c) := by
  have h4 := hv.len
  refine spec_conFields_le (callI (s_conType hv c) ?_)
  rcases conT_cases (D := D) c with h0 | ⟨j, i, hj, he, hc, hi, hf⟩
  · rw [h0]
    exact bifT rfl rfl
  have h1 := sumC_le hv.cs j (by omega)
  have h2 := hv.cs j hj
  rw [he, if_neg (by omega)]
  refine bifF (decide_eq_false (by omega)) ?_
  have w : wrapI (((j : Nat) : Int) + 1 - 1) = j := by rw [wr (by omega) (by omega)]; omega
  rw [w]
  refine atDecI rfl hj (callI (s_firstCon hv (by omega)) (atConI (k := i) (by rw [hc, wr (by omega) (by omega)]; omega) hi ?_))
  rw [hf]
theorem s_isArrow {D : List DM} (hl : D.length ≤ 1000) (t : Int) : spec_isArrow [.cell (.sl 3 (decsC D)), .cell (.int t)] = rB (isAr D t) := by
  refine spec_isArrow_le (callB (s_inRange _ _ _) ?_)
  rw [decsC_len]
  unfold isAr
  by_cases h : 0 < t
  rotate_left
  · rw [decide_eq_false h, decide_eq_false (show ¬ (1 : Int) ≤ t by omega)]
    exact bifF rfl rfl
  rw [decide_eq_true h, decide_eq_true (show (1 : Int) ≤ t by omega)]
  rcases ht : isTy D t with _ | _
  · have : ¬ (t ≤ D.length) := fun hle => by
      have := isTy_iff.2 ⟨show 0 ≤ t by omega, hle⟩
      rw [ht] at this
      cases this
    rw [decide_eq_false this]
    exact bifF rfl rfl
  have := isTy_iff.1 ht
  rw [decide_eq_true this.2]
  refine bifT rfl (atDecI (k := t.toNat - 1) (by rw [wr (by omega) (by omega)]; omega) (by omega) ?_)
  rw [consC_len]
  by_cases hc : (gD D (t.toNat - 1)).cs.length = 0
  · rw [zr hc, hc]; rfl
  · rw [nz hc, show ((gD D (t.toNat - 1)).cs.length == 0) = false by simpa using hc]; rfl
def tv (V : List Int) (v : Int) : Int := if 0 ≤ v ∧ v < V.length then V.getD v.toNat 0 else -1
theorem s_copyInts (xs : List Int) (hx : xs.length ≤ 68719476736) : spec_copyInts [.cell (.sl 1 (intsC xs))] = rL xs :=
  spec_copyInts_le (appTo (by rw [intsC_len]; simpa using hx) (by rw [List.nil_append]))
theorem s_extend (xs ys : List Int) (hx : xs.length + ys.length ≤ 68719476736) : spec_extend [.cell (.sl 1 (intsC xs)), .cell (.sl 1 (intsC ys))] = rL (xs ++ ys) :=
  spec_extend_le (callS (s_copyInts xs (by omega)) (appTo (by rw [intsC_len, intsC_len]; exact hx) (by rw [intsC_append])))
end Go.Proofs.Ytgbeongiejppnaa
namespace Go.Proofs.Ytgbeongiejppnaa
open Go
structure PM where
  ps : List Int
  r : Int
  o : Int
  n : Int
  kids : List (List AC)
  deriving Inhabited
def pmC (x : PM) : List AC := [.sl 1 (intsC x.ps), .int x.r, .int x.o, .int x.n, .sl 3 x.kids]
def pmsC (R : List PM) : List (List AC) := R.map pmC
structure POk (x : PM) : Prop where
  ps : IntsOk x.ps
  r : inI x.r
  b : Fit .expr [.int x.o, .int x.n, .sl 3 x.kids]
theorem pmsC_len (R : List PM) : (pmsC R).length = R.length := by simp [pmsC]
def gP (R : List PM) (k : Nat) : PM := R.getD k default
theorem gP_mem {R : List PM} {k : Nat} (h : k < R.length) : gP R k ∈ R := mem_getD h _
theorem pmsC_get {R : List PM} {k : Nat} (h : k < R.length) : (pmsC R).getD k [] = [.sl 1 (intsC (gP R k).ps), .int (gP R k).r, .int (gP R k).o, .int (gP R k).n, .sl 3 (gP R k).kids] := by simp [pmsC, List.getD, h, gP, pmC]
section
variable {ρ : Type} {r : ρ}
theorem atPmI {R : List PM} {i : Int} {k : Nat} (hi : i = (k : Int)) (h : k < R.length) {K : Fn (Option ρ) [.sl 1 [], .int 0, .int 0, .int 0, .sl 3 []]}
    (h2 : (K : List (List AC) → Int → Int → Int → List (List AC) → Option ρ) (intsC (gP R k).ps) (gP R k).r (gP R k).o (gP R k).n (gP R k).kids = some r) : atR_ (pmsC R) i [.sl 1 [], .int 0, .int 0, .int 0, .sl 3 []] K = some r := by
  subst hi
  exact atFunc (by rw [pmsC_len]; exact h) (pmsC_get h) h2
end
end Go.Proofs.Ytgbeongiejppnaa
namespace Go.Proofs.Ytgbeongiejppnaa
open Go
structure CP (D : List DM) (R : List PM) : Prop where
  dv : DV D
  rl : R.length ≤ 4
  rok : ∀ x ∈ R, POk x
  ps : ∀ k, k < R.length → (gP R k).ps.length ≤ 3 ∧ ∀ t ∈ (gP R k).ps, 0 ≤ t ∧ t ≤ D.length
  r : ∀ k, k < R.length → 0 ≤ (gP R k).r ∧ (gP R k).r ≤ D.length
section
variable {D : List DM} {R : List PM} (hv : CP D R)
include hv
end
end Go.Proofs.Ytgbeongiejppnaa
namespace Go.Proofs.Ytgbeongiejppnaa
open Go
section
variable {D : List DM} {R : List PM}
end
end Go.Proofs.Ytgbeongiejppnaa
namespace Go.Proofs.Ytgbeongiejppnaa
open Go
theorem rI_cong {a b : Int} (h : a = b) : rI a = rI b := by rw [h]
theorem cS_ex (o n : Int) (kids : List (List AC)) : cS [.int o, .int n, .sl 3 kids] = kids.length + rsS kids := by
  rw [cS_int, cS_int, cS_sl, cS_nil]
  omega
theorem fit_ex {o n : Int} {kids : List (List AC)} (h : Fit .expr [.int o, .int n, .sl 3 kids]) : inI o ∧ inI n ∧ kids.length ≤ maxI ∧ ∀ b ∈ kids, Fit .expr b := by
  generalize ht : Ty.expr = t at h
  generalize hx : [AC.int o, AC.int n, AC.sl 3 kids] = x at h
  cases h with
  | expr o' n' kids' ho hn hl h =>
    simp only [List.cons.injEq, AC.int.injEq, AC.sl.injEq, true_and, and_true] at hx
    obtain ⟨rfl, rfl, rfl⟩ := hx
    exact ⟨ho, hn, hl, h⟩
  | _ => cases ht
theorem fit_shape {x : List AC} (h : Fit .expr x) : ∃ o n kids, x = [.int o, .int n, .sl 3 kids] := by
  generalize ht : Ty.expr = t at h
  cases h with
  | expr o n kids _ _ _ _ => exact ⟨o, n, kids, rfl⟩
  | _ => cases ht
theorem fit_kid {kids : List (List AC)} (h : ∀ b ∈ kids, Fit .expr b) {k : Nat} (hk : k < kids.length) : ∃ o n ks, kids.getD k [] = [.int o, .int n, .sl 3 ks] ∧ Fit .expr [.int o, .int n, .sl 3 ks] := by
  have h1 := h _ (mem_getD hk [])
  obtain ⟨o, n, ks, e⟩ := fit_shape h1
  exact ⟨o, n, ks, e, e ▸ h1⟩
theorem kid_lt {kids : List (List AC)} {k : Nat} (hk : k < kids.length) {o n : Int} : cS (kids.getD k []) < cS [.int o, .int n, .sl 3 kids] := by
  rw [cS_ex]
  have := rsS_mem (mem_getD hk [])
  omega
def remN (kids : List (List AC)) (k : Nat) : Nat := (kids.length - k) + rsS (kids.drop k)
theorem remN_succ {kids : List (List AC)} {k : Nat} (hk : k < kids.length) : remN kids k = 1 + cS (kids.getD k []) + remN kids (k + 1) := by
  unfold remN
  rw [rsS_drop hk]
  omega
theorem remN_end (kids : List (List AC)) : remN kids kids.length = 0 := by
  unfold remN
  rw [List.drop_eq_nil_of_le (Nat.le_refl _), rsS_nil]
  omega
theorem remN_zero (o n : Int) (kids : List (List AC)) : remN kids 0 = cS [.int o, .int n, .sl 3 kids] := by
  rw [cS_ex]
  unfold remN
  simp
def minN (a b : Nat) : Nat := if a ≤ b then a else b
theorem i_upTo : ∀ (s : Nat) (o n : Int) (kids : List (List AC)), cS [.int o, .int n, .sl 3 kids] < s → Fit .expr [.int o, .int n, .sl 3 kids] → ∀ L : Nat, L ≤ 30 →
    impl_nodesUpTo [.agg [.int o, .int n, .sl 3 kids], .cell (.int (L : Int))] = rI ((minN (1 + cS [.int o, .int n, .sl 3 kids]) (L + 1) : Nat) : Int) := by
  intro s
  induction s with
  | zero => intro o n kids h; omega
  | succ s ihs =>
    intro o n kids hs hf L hL
    obtain ⟨_, _, hl, hk⟩ := fit_ex hf
    have key : ∀ m k : Nat, k + m = kids.length → ∀ c : Nat, 1 ≤ c → c ≤ L + 1 → impl_nodesUpTo_L0 (L : Int) (c : Int) kids ((kids.length : Nat) : Int) (k : Int) = rI ((minN (c + remN kids k) (L + 1) : Nat) : Int) := by
      intro m
      induction m with
      | zero =>
        intro k hk c h1 h2
        obtain rfl : k = kids.length := by omega
        refine impl_nodesUpTo_L0_le (bifF (decide_eq_false (by omega)) ?_)
        rw [remN_end]
        unfold minN
        rw [if_pos (by omega)]
        rfl
      | succ m ih =>
        intro k hkm c h1 h2
        have hlt : k < kids.length := by omega
        obtain ⟨o', n', ks, e, hf'⟩ := fit_kid hk hlt
        have hr := remN_succ hlt
        have hlt' := kid_lt hlt (o := o) (n := n)
        rw [e] at hr hlt'
        refine impl_nodesUpTo_L0_le (bifT (decide_eq_true (by omega)) (atExpr hlt e ?_))
        by_cases hc : c = L + 1
        · refine bifT (decide_eq_true (by omega)) ?_
          unfold minN
          split
          · have : c + remN kids k = c := by omega
            rw [this]
          · rw [hc]
        refine bifF (decide_eq_false (by omega)) ?_
        have w1 : wrapI ((L : Int) - (c : Int)) = ((L - c : Nat) : Int) := by rw [wr (by omega) (by omega)]; omega
        rw [w1]
        refine callI (ihs o' n' ks (by omega) hf' (L - c) (by omega)) ?_
        generalize cS [.int o', .int n', .sl 3 ks] = z at hr
        have hm : minN (1 + z) (L - c + 1) ≤ L - c + 1 ∧ 1 ≤ minN (1 + z) (L - c + 1) := by unfold minN; split <;> omega
        have w2 : wrapI ((c : Int) + ((minN (1 + z) (L - c + 1) : Nat) : Int)) = ((c + minN (1 + z) (L - c + 1) : Nat) : Int) := by rw [wr (by omega) (by omega)]; omega
        rw [w2, wrk (by omega)]
        rw [ih (k + 1) (by omega) _ (by omega) (by omega), hr]
        refine rI_cong ?_
        unfold minN
        split <;> split <;> split <;> omega
    have := key kids.length 0 (by omega) 1 (by omega) (by omega)
    rw [remN_zero o n] at this
    exact impl_nodesUpTo_le this
def nodV (x : List AC) : Int := if cS x ≤ 29 then ((1 + cS x : Nat) : Int) else -1
theorem i_nodesOf {o n : Int} {kids : List (List AC)} (hf : Fit .expr [.int o, .int n, .sl 3 kids]) : impl_NodesOf [.agg [.int o, .int n, .sl 3 kids]] = rI (nodV [.int o, .int n, .sl 3 kids]) := by
  refine impl_NodesOf_le (callI (i_upTo _ o n kids (Nat.lt_succ_self _) hf 30 (by omega)) ?_)
  unfold nodV minN
  generalize cS [.int o, .int n, .sl 3 kids] = z
  by_cases h : z ≤ 29
  · rw [if_pos (show 1 + z ≤ 30 + 1 by omega), if_pos h]
    exact bifF (decide_eq_false (by omega)) rfl
  · rw [if_neg h]
    refine bifT (decide_eq_true ?_) rfl
    split <;> omega
theorem s_left : ∀ (s : Nat) (o n : Int) (kids : List (List AC)), cS [.int o, .int n, .sl 3 kids] < s → Fit .expr [.int o, .int n, .sl 3 kids] → ∀ L : Nat, L ≤ 30 →
    spec_nodesLeft [.agg [.int o, .int n, .sl 3 kids], .cell (.int (L : Int))] = rI (if 1 + cS [.int o, .int n, .sl 3 kids] ≤ L then ((L - (1 + cS [.int o, .int n, .sl 3 kids]) : Nat) : Int) else -1) := by
  intro s
  induction s with
  | zero => intro o n kids h; omega
  | succ s ihs =>
    intro o n kids hs hf L hL
    obtain ⟨_, _, hl, hk⟩ := fit_ex hf
    have key : ∀ m k : Nat, k + m = kids.length → ∀ c : Nat, c ≤ 30 → spec_nodesLeft_L0 (c : Int) o n kids (k : Int) = rI (if remN kids k ≤ c then ((c - remN kids k : Nat) : Int) else -1) := by
      intro m
      induction m with
      | zero =>
        intro k hk c h2
        obtain rfl : k = kids.length := by omega
        refine spec_nodesLeft_L0_le (bifF (decide_eq_false (by omega)) ?_)
        rw [remN_end, if_pos (by omega)]
        rfl
      | succ m ih =>
        intro k hkm c h2
        have hlt : k < kids.length := by omega
        obtain ⟨o', n', ks, e, hf'⟩ := fit_kid hk hlt
        have hr := remN_succ hlt
        have hlt' := kid_lt hlt (o := o) (n := n)
        rw [e] at hr hlt'
        refine spec_nodesLeft_L0_le (bifT (decide_eq_true (by omega)) (atExpr hlt e (callI (ihs o' n' ks (by omega) hf' c h2) ?_)))
        generalize cS [.int o', .int n', .sl 3 ks] = z at hr
        by_cases hc : 1 + z ≤ c
        · rw [if_pos hc]
          refine bifF (decide_eq_false (by omega)) ?_
          rw [wrk (by omega), ih (k + 1) (by omega) _ (by omega)]
          refine rI_cong ?_
          split <;> split <;> omega
        · rw [if_neg hc, if_neg (by omega)]
          exact bifT rfl rfl
    refine spec_nodesLeft_le ?_
    by_cases h1 : L = 0
    · rw [if_neg (by omega)]
      exact bifT (decide_eq_true (by omega)) rfl
    refine bifF (decide_eq_false (by omega)) ?_
    have w1 : wrapI ((L : Int) - 1) = ((L - 1 : Nat) : Int) := by rw [wr (by omega) (by omega)]; omega
    have := key kids.length 0 (by omega) (L - 1) (by omega)
    rw [remN_zero o n] at this
    rw [w1, show ((0 : Nat) : Int) = 0 from rfl] at *
    refine Eq.trans this ?_
    refine rI_cong ?_
    split <;> split <;> omega
theorem s_nodesOf {o n : Int} {kids : List (List AC)} (hf : Fit .expr [.int o, .int n, .sl 3 kids]) : spec_nodesOf [.agg [.int o, .int n, .sl 3 kids]] = rI (nodV [.int o, .int n, .sl 3 kids]) := by
  refine spec_nodesOf_le (callI (s_left _ o n kids (Nat.lt_succ_self _) hf 30 (by omega)) ?_)
  unfold nodV
  generalize cS [.int o, .int n, .sl 3 kids] = z
  by_cases h : z ≤ 29
  · rw [if_pos (by omega), if_pos h]
    refine bifF (decide_eq_false (by omega)) ?_
    rw [wr (by omega) (by omega)]
    refine rI_cong ?_
    omega
  · rw [if_neg (by omega), if_neg h]
    exact bifT rfl rfl
end Go.Proofs.Ytgbeongiejppnaa
