/- Types of expressions as data: what a node makes of the types of its kids. Nothing here speaks of a program's code. -/
import Derived.Test.YtdooageiopnhaabPr0
import Derived.Test.YtdooageiopnhaabM
namespace Go.Proofs.Ytdooageiopnhaab
open Go.RowKit
def hasF (p : Pg) (f : Int) : Bool := decide (0 ≤ f) && decide (f < p.funcs.length)
def fnAt (p : Pg) (f : Int) : Fn := nthF p.funcs f.toNat
/-- Is a type an arrow type? -/
def isAr (ds : List Dec) (t : Int) : Bool := decide (1 ≤ t) && (decide (t ≤ ds.length) && decide ((nthD ds (t - 1).toNat).cons.length = 0))
def arrT (ds : List Dec) (f t : Int) : Int := seek ds.length fun k => isArr f t (nthD ds k)
def conRes (ds : List Dec) (c : Int) (ts : List Int) : Int := if 0 ≤ conTy ds c ∧ ts = flds ds c then conTy ds c else -1
def callRes (p : Pg) (f : Int) (ts : List Int) : Int := if hasF p f = true ∧ ts = (fnAt p f).params then (fnAt p f).result else -1
def closeRes (p : Pg) (f : Int) (ts : List Int) : Int :=
  if hasF p f = true ∧ 0 < (fnAt p f).params.length ∧ ts = (fnAt p f).params.take ((fnAt p f).params.length - 1) then arrT p.decls (nth (fnAt p f).params ((fnAt p f).params.length - 1)) (fnAt p f).result else -1
def applyRes (ds : List Dec) (ts : List Int) : Int :=
  if ts.length = 2 ∧ isAr ds (nth ts 0) = true ∧ nth ts 1 = (nthD ds (nth ts 0 - 1).toNat).frm then (nthD ds (nth ts 0 - 1).toNat).to else -1
/-- The type of what an operation gives for values of some types. -/
def resV (p : Pg) (o n : Int) (ts : List Int) : Int :=
  if o = 0 then (if -999 ≤ n ∧ n ≤ 999 ∧ ts = [] then 0 else -1)
  else if o = 1 ∨ o = 2 ∨ o = 3 ∨ o = 4 then (if n = 0 ∧ ts = [0, 0] then 0 else -1)
  else if o = 5 then (if n = 0 ∧ ts = [0] then 0 else -1)
  else if o = 6 then conRes p.decls n ts
  else if o = 9 then callRes p n ts
  else if o = 10 then closeRes p n ts
  else if o = 11 then (if n = 0 then applyRes p.decls ts else -1)
  else -1
def varTy (vars : List Int) (v : Int) : Int := if 0 ≤ v ∧ v < vars.length then nth vars v.toNat else -1
/-- The type of a kid, where the kids are given by what they make of the types of variables. -/
def at_ (fs : List (List Int → Int)) (k : Nat) : List Int → Int := fs.getD k fun _ => -1
def letV (n : Int) (fs : List (List Int → Int)) (vars : List Int) : Int :=
  if n = 0 ∧ fs.length = 2 ∧ 0 ≤ at_ fs 0 vars then at_ fs 1 (vars ++ [at_ fs 0 vars]) else -1
def ifV (n : Int) (fs : List (List Int → Int)) (vars : List Int) : Int :=
  if n = 0 ∧ fs.length = 3 ∧ at_ fs 0 vars = 0 ∧ at_ fs 2 vars = at_ fs 1 vars then at_ fs 1 vars else -1
/-- The type of one arm. -/
def armV (cs : List (List Int)) (fs : List (List Int → Int)) (vars : List Int) (k : Nat) : Int := at_ fs (1 + k) (vars ++ nthL cs k)
def matchV (ds : List Dec) (n : Int) (fs : List (List Int → Int)) (vars : List Int) : Int :=
  if isDat ds n = true ∧ fs.length = 1 + (nthD ds (n - 1).toNat).cons.length ∧ at_ fs 0 vars = n ∧
    upTo (nthD ds (n - 1).toNat).cons.length (fun k => decide (armV (nthD ds (n - 1).toNat).cons fs vars k = armV (nthD ds (n - 1).toNat).cons fs vars 0)) = true then armV (nthD ds (n - 1).toNat).cons fs vars 0 else -1
def tyN (p : Pg) (o n : Int) (fs : List (List Int → Int)) (vars : List Int) : Int :=
  if o = 12 then (if fs.length = 0 then varTy vars n else -1)
  else if o = 13 then letV n fs vars
  else if o = 7 then ifV n fs vars
  else if o = 8 then matchV p.decls n fs vars
  else resV p o n (fs.map fun f => f vars)
mutual
def Ex.ty (p : Pg) : Ex → List Int → Int
  | .node o n ks => tyN p o n (tyL p ks)
def tyL (p : Pg) : List Ex → List (List Int → Int)
  | [] => []
  | e :: es => e.ty p :: tyL p es
end
theorem ty_eq (p : Pg) (e : Ex) : e.ty p = tyN p e.op e.num (tyL p e.kids) := by cases e; simp [Ex.ty, Ex.op, Ex.num, Ex.kids]
theorem tyL_map (p : Pg) (es : List Ex) : tyL p es = es.map (Ex.ty p) := by
  induction es with
  | nil => simp [tyL]
  | cons e es ih => simp only [tyL, ih, List.map_cons]
theorem length_tyL (p : Pg) (es : List Ex) : (tyL p es).length = es.length := by rw [tyL_map, List.length_map]
theorem at_tyL (p : Pg) {es : List Ex} {k : Nat} (h : k < es.length) : at_ (tyL p es) k = (nthX es k).ty p := by
  rw [tyL_map, nthX_of h]; simp [at_, h]
/-- The types of the first kids, all in one scope. -/
def tysL (p : Pg) (vars : List Int) (es : List Ex) : List Int := es.map fun e => e.ty p vars
theorem tysL_eq (p : Pg) (vars : List Int) (es : List Ex) : (tyL p es).map (fun f => f vars) = tysL p vars es := by rw [tyL_map, List.map_map]; rfl
theorem tysL_step (p : Pg) (vars : List Int) {es : List Ex} {k : Nat} (h : k < es.length) : tysL p vars (es.take (k + 1)) = tysL p vars (es.take k) ++ [(nthX es k).ty p vars] := by
  unfold tysL; rw [List.take_succ_eq_append_getElem h, List.map_append, nthX_of h]; rfl
theorem tysL_all (p : Pg) (vars : List Int) {es : List Ex} {k : Nat} (h : ¬ k < es.length) : tysL p vars (es.take k) = tysL p vars es := by rw [List.take_of_length_le (by omega)]
theorem length_tysL (p : Pg) (vars : List Int) (es : List Ex) : (tysL p vars es).length = es.length := by simp [tysL]
theorem nth_tysL (p : Pg) (vars : List Int) {es : List Ex} {k : Nat} (h : k < es.length) : nth (tysL p vars es) k = (nthX es k).ty p vars := by rw [nth_of (by rw [length_tysL]; exact h), nthX_of h]; simp [tysL]
/-- The signature of a function is valid. -/
def sigOk (n : Nat) (f : Fn) : Bool := decide (f.params.length ≤ 3) && (f.params.all (isTy n) && isTy n f.result)
/-- Signatures are valid. -/
def sigsOk (p : Pg) : Bool := typesOk p.decls && (decide (1 ≤ p.funcs.length) && (decide (p.funcs.length ≤ 4) && (upTo p.funcs.length (fun k => sigOk p.decls.length (nthF p.funcs k)) && (decide ((nthF p.funcs 0).params.length = 0) && decide ((nthF p.funcs 0).result = 0)))))
def typeV (p : Pg) (vars : List Int) (e : Ex) : Int := if sigsOk p = true ∧ vars.all (isTy p.decls.length) = true ∧ 1 + sumL one_ e.kids ≤ 30 then e.ty p vars else -1
def progOk (p : Pg) : Bool := sigsOk p && upTo p.funcs.length fun k => decide (typeV p (nthF p.funcs k).params (nthF p.funcs k).body = (nthF p.funcs k).result)
theorem sigs_types {p : Pg} (h : sigsOk p = true) : typesOk p.decls = true := by unfold sigsOk at h; simp only [Bool.and_eq_true] at h; exact h.1
theorem sigs_len {p : Pg} (h : sigsOk p = true) : 1 ≤ p.funcs.length ∧ p.funcs.length ≤ 4 := by unfold sigsOk at h; simp only [Bool.and_eq_true, decide_eq_true_eq] at h; exact ⟨h.2.1, h.2.2.1⟩
theorem sigs_at {p : Pg} (h : sigsOk p = true) {k : Nat} (hk : k < p.funcs.length) : sigOk p.decls.length (nthF p.funcs k) = true := by unfold sigsOk at h; simp only [Bool.and_eq_true] at h; exact upTo_at h.2.2.2.1 hk
theorem sig_three {n : Nat} {f : Fn} (h : sigOk n f = true) : f.params.length ≤ 3 := by unfold sigOk at h; simp only [Bool.and_eq_true, decide_eq_true_eq] at h; exact h.1
theorem prog_sigs {p : Pg} (h : progOk p = true) : sigsOk p = true := by unfold progOk at h; simp only [Bool.and_eq_true] at h; exact h.1
theorem prog_at {p : Pg} (h : progOk p = true) {k : Nat} (hk : k < p.funcs.length) : typeV p (nthF p.funcs k).params (nthF p.funcs k).body = (nthF p.funcs k).result := by
  unfold progOk at h; simp only [Bool.and_eq_true] at h; exact of_decide_eq_true (upTo_at h.2 hk)
end Go.Proofs.Ytdooageiopnhaab
