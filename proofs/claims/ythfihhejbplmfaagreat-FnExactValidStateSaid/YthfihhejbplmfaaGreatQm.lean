/- Instructions, procedures, images: impl's and spec's functions of validity agree. -/
import Derived.Test.YthfihhejbplmfaaGreatQi
set_option linter.unusedVariables false
set_option linter.unusedSimpArgs false
namespace Go.Proofs.YthfihhejbplmfaaGreat
open Go
structure IM where
  o : Int
  d : Int
  n : Int
  i : Int
  args : List Int
  jumps : List Int
  deriving Inhabited
def insC (x : IM) : List AC := [.int x.o, .int x.d, .int x.n, .int x.i, .sl 1 (intsC x.args), .sl 1 (intsC x.jumps)]
def codeC (X : List IM) : List (List AC) := X.map insC
structure PM where
  ps : List Int
  lent : List Int
  r : Int
  regs : Int
  code : List IM
  deriving Inhabited
def procC (x : PM) : List AC := [.sl 1 (intsC x.ps), .sl 1 (intsC x.lent), .int x.r, .int x.regs, .sl 6 (codeC x.code)]
def procsC (X : List PM) : List (List AC) := X.map procC
structure IOk (x : IM) : Prop where
  args : x.args.length ≤ maxI
  jumps : x.jumps.length ≤ maxI
structure POk (x : PM) : Prop where
  ps : IntsOk x.ps
  lent : IntsOk x.lent
  r : inI x.r
  code : ∀ i ∈ x.code, IOk i
theorem fit_code : ∀ {rs : List (List AC)}, (∀ d ∈ rs, Fit .instr d) → ∃ R, rs = codeC R ∧ ∀ d ∈ R, IOk d
  | [], _ => ⟨[], rfl, fun c h => by cases h⟩
  | d :: ds, h => by
    obtain ⟨R, rfl, hR⟩ := fit_code fun x hx => h x (List.mem_cons_of_mem _ hx)
    have h0 := h d List.mem_cons_self
    cases h0 with
    | instr o d n i args jumps ho hd hn hi ha hj =>
      refine ⟨⟨o, d, n, i, args, jumps⟩ :: R, rfl, fun x hx => ?_⟩
      rcases List.mem_cons.1 hx with rfl | hx
      · exact ⟨ha.len, hj.len⟩
      · exact hR x hx
theorem fit_procs : ∀ {rs : List (List AC)}, (∀ d ∈ rs, Fit .proc d) → ∃ R, rs = procsC R ∧ ∀ d ∈ R, POk d
  | [], _ => ⟨[], rfl, fun c h => by cases h⟩
  | d :: ds, h => by
    obtain ⟨R, rfl, hR⟩ := fit_procs fun x hx => h x (List.mem_cons_of_mem _ hx)
    have h0 := h d List.mem_cons_self
    cases h0 with
    | proc ps lent r regs code hp hl hr hg hc hcode =>
      obtain ⟨X, rfl, hX⟩ := fit_code hcode
      refine ⟨⟨ps, lent, r, regs, X⟩ :: R, rfl, fun x hx => ?_⟩
      rcases List.mem_cons.1 hx with rfl | hx
      · exact ⟨hp, hl, hr, hX⟩
      · exact hR x hx
theorem codeC_len (X : List IM) : (codeC X).length = X.length := by simp [codeC]
theorem procsC_len (X : List PM) : (procsC X).length = X.length := by simp [procsC]
def gI (X : List IM) (k : Nat) : IM := X.getD k default
def gP (X : List PM) (k : Nat) : PM := X.getD k default
theorem gI_mem {X : List IM} {k : Nat} (h : k < X.length) : gI X k ∈ X := mem_getD h _
theorem gP_mem {X : List PM} {k : Nat} (h : k < X.length) : gP X k ∈ X := mem_getD h _
theorem codeC_get {X : List IM} {k : Nat} (h : k < X.length) : (codeC X).getD k [] = [.int (gI X k).o, .int (gI X k).d, .int (gI X k).n, .int (gI X k).i, .sl 1 (intsC (gI X k).args), .sl 1 (intsC (gI X k).jumps)] := by simp [codeC, List.getD, h, gI, insC]
theorem procsC_get {X : List PM} {k : Nat} (h : k < X.length) : (procsC X).getD k [] = [.sl 1 (intsC (gP X k).ps), .sl 1 (intsC (gP X k).lent), .int (gP X k).r, .int (gP X k).regs, .sl 6 (codeC (gP X k).code)] := by simp [procsC, List.getD, h, gP, procC]
section
variable {ρ : Type} {r : ρ}
theorem atInsI {X : List IM} {i : Int} {k : Nat} (hi : i = (k : Int)) (h : k < X.length) {K : Fn (Option ρ) [.int 0, .int 0, .int 0, .int 0, .sl 1 [], .sl 1 []]}
    (h2 : (K : Int → Int → Int → Int → List (List AC) → List (List AC) → Option ρ) (gI X k).o (gI X k).d (gI X k).n (gI X k).i (intsC (gI X k).args) (intsC (gI X k).jumps) = some r) : atR_ (codeC X) i [.int 0, .int 0, .int 0, .int 0, .sl 1 [], .sl 1 []] K = some r := by
  subst hi
  exact atInstr (by rw [codeC_len]; exact h) (codeC_get h) h2
theorem atProcI {X : List PM} {i : Int} {k : Nat} (hi : i = (k : Int)) (h : k < X.length) {K : Fn (Option ρ) [.sl 1 [], .sl 1 [], .int 0, .int 0, .sl 6 []]}
    (h2 : (K : List (List AC) → List (List AC) → Int → Int → List (List AC) → Option ρ) (intsC (gP X k).ps) (intsC (gP X k).lent) (gP X k).r (gP X k).regs (codeC (gP X k).code) = some r) : atR_ (procsC X) i [.sl 1 [], .sl 1 [], .int 0, .int 0, .sl 6 []] K = some r := by
  subst hi
  exact atProc (by rw [procsC_len]; exact h) (procsC_get h) h2
end
def headR (p : PM) : RM := ⟨p.ps, p.lent, p.r, [], 0⟩
def headsL (X : List PM) : List RM := X.map headR
theorem headsL_len (X : List PM) : (headsL X).length = X.length := by simp [headsL]
theorem gR_head {X : List PM} {k : Nat} (h : k < X.length) : gR (headsL X) k = headR (gP X k) := by simp [gR, headsL, List.getD, h, gP]
def InsOp (o : Int) : Prop := o = 0 ∨ o = 1 ∨ o = 2 ∨ o = 3 ∨ o = 4 ∨ o = 5 ∨ o = 6 ∨ o = 9 ∨ o = 10 ∨ o = 11 ∨ o = 14 ∨ o = 15 ∨ o = 16 ∨ o = 17 ∨ o = 18 ∨ o = 19 ∨ o = 20 ∨ o = 21 ∨ o = 22 ∨ o = 23 ∨ o = 24
def isInsM (o : Int) : Bool := decide (0 ≤ o ∧ o ≤ 24 ∧ o ≠ 7 ∧ o ≠ 8 ∧ o ≠ 12 ∧ o ≠ 13)
theorem insOp_of {o : Int} (h : isInsM o = true) : InsOp o := by
  have := of_decide_eq_true h
  unfold InsOp
  omega
theorem ins_of_op {o : Int} (h : InsOp o) : isInsM o = true := by
  unfold InsOp at h
  exact decide_eq_true (by omega)
def numM (D : List DM) (R : List RM) (k len : Nat) (o n : Int) : Bool :=
  if o = 0 then decide (-999 ≤ n) && decide (n ≤ 999)
  else if o = 6 then decide (0 ≤ conT D n)
  else if o = 9 ∨ o = 24 then decide (0 ≤ n ∧ n < R.length)
  else if o = 10 then decide (0 ≤ n ∧ n < R.length) && !lendsM R n
  else if o = 19 then decide (0 ≤ n) && decide (n ≤ 2)
  else if o = 20 ∨ o = 22 then decide ((k : Int) + 1 ≤ n) && decide (n ≤ (len : Int) - 1)
  else if o = 21 then isDa D n
  else n == 0
def argM (D : List DM) (R : List RM) (o n : Int) (m : Nat) : Bool :=
  if o = 0 ∨ o = 22 then (m : Int) == 0
  else if o = 1 ∨ o = 2 ∨ o = 3 ∨ o = 4 ∨ o = 11 then (m : Int) == 2
  else if o = 6 then (m : Int) == ((fld D n).length : Int)
  else if o = 9 ∨ o = 24 then (m : Int) == ((gR R n.toNat).ps.length : Int)
  else if o = 10 then (m : Int) == ((gR R n.toNat).ps.length : Int) - 1
  else if o = 16 ∨ o = 17 then decide (1 ≤ (m : Int)) && decide ((m : Int) ≤ 4)
  else (m : Int) == 1
def laterM (k len : Nat) (j : Int) : Bool := decide ((k : Int) + 1 ≤ j) && decide (j ≤ (len : Int) - 1)
def jmpA (D : List DM) (k len : Nat) (n : Int) (js : List Int) : Bool := ((js.length : Int) == ((gD D (n.toNat - 1)).cs.length : Int)) && js.all (laterM k len)
def jmpM (D : List DM) (k len : Nat) (o n : Int) (js : List Int) : Bool := if o = 21 then jmpA D k len n js else (js.length : Int) == 0
def setM (o : Int) : Bool := (decide (0 ≤ o) && decide (o ≤ 11)) || (o == 18 || o == 19)
def regA (regs : Int) (args : List Int) : Bool := args.all fun r => decide (0 ≤ r) && decide (r ≤ regs - 1)
def regM (regs o d i : Int) (args : List Int) : Bool := regA regs args && ((decide (0 ≤ d) && decide (d ≤ regs - 1)) && ((d == 0 || setM o) && (i == 0 || (o == 6 && (decide (0 < i) && decide (i ≤ regs))))))
def insM (D : List DM) (R : List RM) (k len : Nat) (regs : Int) (x : IM) : Bool := isInsM x.o && (numM D R k len x.o x.n && (argM D R x.o x.n x.args.length && (jmpM D k len x.o x.n x.jumps && regM regs x.o x.d x.i x.args)))
theorem i_isInstr (o : Int) : impl_isInstr [.cell (.int o)] = rB (isInsM o) := by
  refine impl_isInstr_le ?_
  by_cases h0 : 0 ≤ o
  rotate_left
  · exact bifF (decide_eq_false h0) (rB_congr (by simp [isInsM, h0]))
  by_cases h1 : o ≤ 24
  rotate_left
  · exact bifT (decide_eq_true h0) (bifF (decide_eq_false h1) (rB_congr (by simp [isInsM, h1])))
  refine bifT (decide_eq_true h0) (bifT (decide_eq_true h1) ?_)
  by_cases h7 : o = 7
  · exact bifF (nef h7) (rB_congr (by simp [isInsM, h7]))
  refine bifT (net h7) ?_
  by_cases h8 : o = 8
  · exact bifF (nef h8) (rB_congr (by simp [isInsM, h8]))
  refine bifT (net h8) ?_
  by_cases h12 : o = 12
  · exact bifF (nef h12) (rB_congr (by simp [isInsM, h12]))
  refine bifT (net h12) (rB_congr ?_)
  by_cases h13 : o = 13 <;> simp [isInsM, h0, h1, h7, h8, h12, h13]
theorem i_inInts (n : Int) : impl_inInts [.cell (.int n)] = rB (decide (-999 ≤ n) && decide (n ≤ 999)) := by
  refine impl_inInts_le ?_
  by_cases h : -999 ≤ n
  · exact bifT (decide_eq_true h) (rB_congr (by simp [h]))
  · exact bifF (decide_eq_false h) (rB_congr (by simp [h]))
theorem i_isLater (ps lent : List (List AC)) (r regs : Int) (X : List IM) (k : Nat) (n : Int) : impl_isLater [.agg [.sl 1 ps, .sl 1 lent, .int r, .int regs, .sl 6 (codeC X)], .cell (.int (k : Int)), .cell (.int n)] = rB (laterM k X.length n) := by
  refine impl_isLater_le ?_
  rw [codeC_len]
  unfold laterM
  by_cases h : (k : Int) < n
  · refine bifT (decide_eq_true h) (rB_congr ?_)
    rw [decide_eq_true (show (k : Int) + 1 ≤ n by omega), Bool.true_and, decide_eq_decide]
    omega
  · refine bifF (decide_eq_false h) (rB_congr ?_)
    rw [decide_eq_false (show ¬ (k : Int) + 1 ≤ n by omega)]
    rfl
theorem i_setsDst (o : Int) : impl_setsDst [.cell (.int o)] = rB (setM o) := by
  refine impl_setsDst_le ?_
  unfold setM
  have tl : ∀ X : Option AV, X = (bif o == 18 then rB true else rB (o == 19)) → X = rB (false || (o == 18 || o == 19)) := by
    intro X hX
    rw [hX]
    by_cases h : o = 18
    · exact bifT (eqt h) (rB_congr (by simp [h]))
    · exact bifF (eqf h) (rB_congr (by simp [h]))
  by_cases h0 : 0 ≤ o
  · refine bifT (decide_eq_true h0) ?_
    rw [decide_eq_true h0]
    by_cases h1 : o ≤ 11
    · rw [decide_eq_true h1]
      exact bifT rfl rfl
    · rw [decide_eq_false h1]
      exact bifF rfl (tl _ rfl)
  · rw [decide_eq_false h0]
    exact bifF rfl (tl _ rfl)
section
variable {D : List DM} {R : List RM} (hv : CV D R)
include hv
theorem i_validNum (ps lent : List (List AC)) (r regs : Int) (X : List IM) {k : Nat} (hk : k < X.length) {o n : Int} (eo : (gI X k).o = o) (en : (gI X k).n = n) (ho : InsOp o) :
    impl_validNum [.agg [.sl 3 (decsC D), .sl 5 (rousC R)], .agg [.sl 1 ps, .sl 1 lent, .int r, .int regs, .sl 6 (codeC X)], .cell (.int (k : Int))] = rB (numM D R k X.length o n) := by
  have hD := hv.dv.len
  refine impl_validNum_le (atInsI rfl hk (atInsI rfl hk ?_))
  rw [eo, en]
  unfold InsOp at ho
  rcases ho with rfl | rfl | rfl | rfl | rfl | rfl | rfl | rfl | rfl | rfl | rfl | rfl | rfl | rfl | rfl | rfl | rfl | rfl | rfl | rfl | rfl
  · repeat (first | refine bifF rfl ?_ | refine bifT rfl ?_)
    exact callB (i_inInts n) rfl
  · repeat (first | refine bifF rfl ?_ | refine bifT rfl ?_)
    exact rfl
  · repeat (first | refine bifF rfl ?_ | refine bifT rfl ?_)
    exact rfl
  · repeat (first | refine bifF rfl ?_ | refine bifT rfl ?_)
    exact rfl
  · repeat (first | refine bifF rfl ?_ | refine bifT rfl ?_)
    exact rfl
  · repeat (first | refine bifF rfl ?_ | refine bifT rfl ?_)
    exact rfl
  · repeat (first | refine bifF rfl ?_ | refine bifT rfl ?_)
    exact callI (i_typeOfCon hv.dv n) rfl
  · repeat (first | refine bifF rfl ?_ | refine bifT rfl ?_)
    exact callB (i_hasRoutine _ n) rfl
  · repeat (first | refine bifF rfl ?_ | refine bifT rfl ?_)
    refine callB (i_hasRoutine _ n) ?_
    have e : numM D R k X.length 10 n = (decide (0 ≤ n ∧ n < R.length) && !lendsM R n) := rfl
    rw [e]
    by_cases h : 0 ≤ n ∧ n < R.length
    · rw [decide_eq_true h]
      exact bifT rfl (callB (i_lends _ n) rfl)
    · rw [decide_eq_false h]
      exact bifF rfl rfl
  · repeat (first | refine bifF rfl ?_ | refine bifT rfl ?_)
    exact rfl
  · repeat (first | refine bifF rfl ?_ | refine bifT rfl ?_)
    exact rfl
  · repeat (first | refine bifF rfl ?_ | refine bifT rfl ?_)
    exact rfl
  · repeat (first | refine bifF rfl ?_ | refine bifT rfl ?_)
    exact rfl
  · repeat (first | refine bifF rfl ?_ | refine bifT rfl ?_)
    exact rfl
  · repeat (first | refine bifF rfl ?_ | refine bifT rfl ?_)
    exact rfl
  · repeat (first | refine bifF rfl ?_ | refine bifT rfl ?_)
    have e : numM D R k X.length 19 n = (decide (0 ≤ n) && decide (n ≤ 2)) := rfl
    rw [e]
    by_cases h : 0 ≤ n
    · refine bifT (decide_eq_true h) (rB_congr ?_)
      rw [decide_eq_true h, Bool.true_and, decide_eq_decide]
      omega
    · refine bifF (decide_eq_false h) (rB_congr ?_)
      rw [decide_eq_false h]
      rfl
  · repeat (first | refine bifF rfl ?_ | refine bifT rfl ?_)
    exact callB (i_isLater ps lent r regs X k n) rfl
  · repeat (first | refine bifF rfl ?_ | refine bifT rfl ?_)
    exact callB (i_isData (by omega) n) rfl
  · repeat (first | refine bifF rfl ?_ | refine bifT rfl ?_)
    exact callB (i_isLater ps lent r regs X k n) rfl
  · repeat (first | refine bifF rfl ?_ | refine bifT rfl ?_)
    exact rfl
  · repeat (first | refine bifF rfl ?_ | refine bifT rfl ?_)
    exact callB (i_hasRoutine _ n) rfl
theorem i_validArgs (o d n i : Int) (args : List Int) (js : List (List AC)) {k len : Nat} (ho : InsOp o) (hn : numM D R k len o n = true) :
    impl_validArgs [.agg [.sl 3 (decsC D), .sl 5 (rousC R)], .agg [.int o, .int d, .int n, .int i, .sl 1 (intsC args), .sl 1 js]] = rB (argM D R o n args.length) := by
  refine impl_validArgs_le ?_
  rw [intsC_len]
  unfold InsOp at ho
  rcases ho with rfl | rfl | rfl | rfl | rfl | rfl | rfl | rfl | rfl | rfl | rfl | rfl | rfl | rfl | rfl | rfl | rfl | rfl | rfl | rfl | rfl
  · repeat (first | refine bifF rfl ?_ | refine bifT rfl ?_)
    exact rfl
  · repeat (first | refine bifF rfl ?_ | refine bifT rfl ?_)
    exact rfl
  · repeat (first | refine bifF rfl ?_ | refine bifT rfl ?_)
    exact rfl
  · repeat (first | refine bifF rfl ?_ | refine bifT rfl ?_)
    exact rfl
  · repeat (first | refine bifF rfl ?_ | refine bifT rfl ?_)
    exact rfl
  · repeat (first | refine bifF rfl ?_ | refine bifT rfl ?_)
    exact rfl
  · repeat (first | refine bifF rfl ?_ | refine bifT rfl ?_)
    have h : 0 ≤ conT D n := of_decide_eq_true hn
    have h1 : 1 ≤ conT D n := by
      rcases conT_cases (D := D) n with h0 | ⟨j, i, hj, he, _⟩ <;> omega
    refine callS (i_fieldsOfCon hv.dv h1) (rB_congr ?_)
    rw [intsC_len]
    rfl
  · repeat (first | refine bifF rfl ?_ | refine bifT rfl ?_)
    have h : 0 ≤ n ∧ n < R.length := of_decide_eq_true hn
    refine atRouI (k := n.toNat) (by omega) (by omega) (rB_congr ?_)
    rw [intsC_len]
    rfl
  · repeat (first | refine bifF rfl ?_ | refine bifT rfl ?_)
    have h : 0 ≤ n ∧ n < R.length := of_decide_eq_true ((Bool.and_eq_true _ _).mp hn).1
    have h3 := (hv.ps n.toNat (by omega)).1
    refine atRouI (k := n.toNat) (by omega) (by omega) (rB_congr ?_)
    rw [intsC_len, wr (by omega) (by omega)]
    rfl
  · repeat (first | refine bifF rfl ?_ | refine bifT rfl ?_)
    exact rfl
  · repeat (first | refine bifF rfl ?_ | refine bifT rfl ?_)
    exact rfl
  · repeat (first | refine bifF rfl ?_ | refine bifT rfl ?_)
    exact rfl
  · repeat (first | refine bifF rfl ?_ | refine bifT rfl ?_)
    have e : argM D R 16 n args.length = (decide (1 ≤ (args.length : Int)) && decide ((args.length : Int) ≤ 4)) := rfl
    rw [e]
    by_cases h : 1 ≤ (args.length : Int)
    · rw [decide_eq_true h]
      exact bifT rfl rfl
    · rw [decide_eq_false h]
      exact bifF rfl rfl
  · repeat (first | refine bifF rfl ?_ | refine bifT rfl ?_)
    have e : argM D R 17 n args.length = (decide (1 ≤ (args.length : Int)) && decide ((args.length : Int) ≤ 4)) := rfl
    rw [e]
    by_cases h : 1 ≤ (args.length : Int)
    · rw [decide_eq_true h]
      exact bifT rfl rfl
    · rw [decide_eq_false h]
      exact bifF rfl rfl
  · repeat (first | refine bifF rfl ?_ | refine bifT rfl ?_)
    exact rfl
  · repeat (first | refine bifF rfl ?_ | refine bifT rfl ?_)
    exact rfl
  · repeat (first | refine bifF rfl ?_ | refine bifT rfl ?_)
    exact rfl
  · repeat (first | refine bifF rfl ?_ | refine bifT rfl ?_)
    exact rfl
  · repeat (first | refine bifF rfl ?_ | refine bifT rfl ?_)
    exact rfl
  · repeat (first | refine bifF rfl ?_ | refine bifT rfl ?_)
    exact rfl
  · repeat (first | refine bifF rfl ?_ | refine bifT rfl ?_)
    have h : 0 ≤ n ∧ n < R.length := of_decide_eq_true hn
    refine atRouI (k := n.toNat) (by omega) (by omega) (rB_congr ?_)
    rw [intsC_len]
    rfl
end
theorem i_validJumps (D : List DM) (hD : D.length ≤ 4) (rs ps lent : List (List AC)) (r regs : Int) (X : List IM) {k : Nat} (hk : k < X.length) {o n : Int} {js : List Int} (eo : (gI X k).o = o) (en : (gI X k).n = n) (ej : (gI X k).jumps = js) (hj : js.length ≤ maxI) (hn : o = 21 → isDa D n = true) :
    impl_validJumps [.agg [.sl 3 (decsC D), .sl 5 rs], .agg [.sl 1 ps, .sl 1 lent, .int r, .int regs, .sl 6 (codeC X)], .cell (.int (k : Int))] = rB (jmpM D k X.length o n js) := by
  refine impl_validJumps_le (atInsI rfl hk ?_)
  rw [eo, en, ej, intsC_len]
  unfold jmpM jmpA
  by_cases h : o = 21
  rotate_left
  · rw [if_neg h]
    exact bifT (net h) rfl
  rw [if_pos h]
  have hb : (0 < n ∧ n ≤ D.length) ∧ 0 < (gD D (n.toNat - 1)).cs.length := by
    have hd := hn h
    simp only [isDa, Bool.and_eq_true, decide_eq_true_eq] at hd
    exact ⟨⟨hd.1, (isTy_iff.1 hd.2.1).2⟩, hd.2.2⟩
  refine bifF (nef h) (atDecI (k := n.toNat - 1) (by rw [wr (by omega) (by omega)]; omega) (by omega) ?_)
  rw [consC_len]
  by_cases hl : (js.length : Int) = ((gD D (n.toNat - 1)).cs.length : Int)
  rotate_left
  · rw [eqf hl]
    exact bifT (net hl) rfl
  rw [eqt hl]
  refine bifF (nef hl) ?_
  have key : ∀ m j : Nat, j + m = js.length → impl_validJumps_L0 (k : Int) ps lent r regs (codeC X) (intsC js) ((js.length : Nat) : Int) (j : Int) = rB ((js.drop j).all (laterM k X.length)) := by
    intro m
    induction m with
    | zero =>
      intro j hj
      rw [List.drop_eq_nil_of_le (by omega)]
      exact impl_validJumps_L0_le (bifF (decide_eq_false (by omega)) rfl)
    | succ m ih =>
      intro j hj
      have hlt : j < js.length := by omega
      rw [all_drop hlt]
      refine impl_validJumps_L0_le (bifT (decide_eq_true (by omega)) (atNum hlt (callB (i_isLater ps lent r regs X k _) ?_)))
      rcases laterM k X.length js[j] with _ | _
      · exact bifT rfl rfl
      · rw [wrk (by omega)]
        exact bifF rfl (ih (j + 1) (by omega))
  exact key js.length 0 (by omega)
theorem i_validRegs (regs o d n i : Int) (args : List Int) (js : List (List AC)) (ha : args.length ≤ maxI) : impl_validRegs [.cell (.int regs), .agg [.int o, .int d, .int n, .int i, .sl 1 (intsC args), .sl 1 js]] = rB (regM regs o d i args) := by
  have tl : ∀ X : Option AV, X = (bif i == 0 then rB true else (bif o == 6 then (bif decide (i > 0) then rB (decide (i ≤ regs)) else rB false) else rB false)) → X = rB (i == 0 || (o == 6 && (decide (0 < i) && decide (i ≤ regs)))) := by
    intro X hX
    rw [hX]
    by_cases h : i = 0
    · exact bifT (eqt h) (rB_congr (by simp [h]))
    refine bifF (eqf h) ?_
    rw [eqf h]
    by_cases h6 : o = 6
    rotate_left
    · rw [eqf h6]; exact rfl
    rw [eqt h6]
    by_cases hp : 0 < i
    · rw [decide_eq_true hp]; exact bifT rfl (bifT rfl rfl)
    · rw [decide_eq_false hp]; exact bifT rfl (bifF rfl rfl)
  have key : ∀ m k : Nat, k + m = args.length → impl_validRegs_L0 regs o d n i (intsC args) js (intsC args) (((intsC args).length : Nat) : Int) (k : Int) = rB (regA regs (args.drop k) && ((decide (0 ≤ d) && decide (d ≤ regs - 1)) && ((d == 0 || setM o) && (i == 0 || (o == 6 && (decide (0 < i) && decide (i ≤ regs))))))) := by
    intro m
    induction m with
    | zero =>
      intro k hk
      rw [List.drop_eq_nil_of_le (by omega)]
      refine impl_validRegs_L0_le (bifF (decide_eq_false (by rw [intsC_len]; omega)) ?_)
      have e : regA regs [] = true := rfl
      rw [e]
      by_cases h0 : 0 ≤ d
      rotate_left
      · rw [decide_eq_false h0]
        exact bifT (decide_eq_true (by omega)) rfl
      rw [decide_eq_true h0]
      refine bifF (decide_eq_false (by omega)) ?_
      by_cases h1 : d ≤ regs - 1
      rotate_left
      · rw [decide_eq_false h1]
        exact bifT (decide_eq_true (by omega)) rfl
      rw [decide_eq_true h1]
      refine bifF (decide_eq_false (by omega)) ?_
      by_cases hd : d = 0
      · rw [eqt hd]
        exact bifF (nef hd) (tl _ rfl)
      rw [eqf hd]
      refine bifT (net hd) (callB (i_setsDst o) ?_)
      rcases setM o with _ | _
      · exact bifT rfl rfl
      · exact bifF rfl (tl _ rfl)
    | succ m ih =>
      intro k hk
      have hlt : k < args.length := by omega
      unfold regA
      rw [all_drop hlt]
      refine impl_validRegs_L0_le (bifT (decide_eq_true (by rw [intsC_len]; omega)) (atNum hlt ?_))
      by_cases h0 : 0 ≤ args[k]
      rotate_left
      · rw [decide_eq_false h0]
        exact bifT (decide_eq_true (by omega)) rfl
      rw [decide_eq_true h0]
      refine bifF (decide_eq_false (by omega)) ?_
      by_cases h1 : args[k] ≤ regs - 1
      rotate_left
      · rw [decide_eq_false h1]
        exact bifT (decide_eq_true (by omega)) rfl
      rw [decide_eq_true h1, wrk (by omega)]
      exact bifF (decide_eq_false (by omega)) (ih (k + 1) (by omega))
  exact impl_validRegs_le (key args.length 0 (by omega))
theorem i_validInstr {D : List DM} {R : List RM} (hv : CV D R) (ps lent : List (List AC)) (r regs : Int) (X : List IM) {k : Nat} (hk : k < X.length) (hx : IOk (gI X k)) :
    impl_validInstr [.agg [.sl 3 (decsC D), .sl 5 (rousC R)], .agg [.sl 1 ps, .sl 1 lent, .int r, .int regs, .sl 6 (codeC X)], .cell (.int (k : Int))] = rB (insM D R k X.length regs (gI X k)) := by
  refine impl_validInstr_le (atInsI rfl hk (callB (i_isInstr _) ?_))
  unfold insM
  rcases hi : isInsM (gI X k).o with _ | _
  · exact bifF rfl rfl
  have ho := insOp_of hi
  refine bifT rfl (callB (i_validNum hv ps lent r regs X hk rfl rfl ho) ?_)
  rcases hn : numM D R k X.length (gI X k).o (gI X k).n with _ | _
  · exact bifF rfl rfl
  refine bifT rfl (callB (i_validArgs hv _ _ _ _ _ _ ho hn) ?_)
  rcases ha : argM D R (gI X k).o (gI X k).n (gI X k).args.length with _ | _
  · exact bifF rfl rfl
  refine bifT rfl (callB (i_validJumps D hv.dv.len _ ps lent r regs X hk rfl rfl rfl hx.jumps (fun h => by
    rw [h] at hn
    exact hn)) ?_)
  rcases hj : jmpM D k X.length (gI X k).o (gI X k).n (gI X k).jumps with _ | _
  · exact bifF rfl rfl
  exact bifT rfl (callB (i_validRegs regs _ _ _ _ _ _ hx.args) rfl)
end Go.Proofs.YthfihhejbplmfaaGreat
