/- What operations make of variables: impl's side. What a step makes: impl's and spec's side, all but choices. What a step makes: spec's side, all but choices. Steps, the counting ones among them, both sides. Choices, both sides. -/
import Derived.Test.YthfihhejbplmfaaGreatQd
set_option linter.unusedVariables false
set_option linter.unusedSimpArgs false
namespace Go.Proofs.YthfihhejbplmfaaGreat
open Go
/-- Valid signatures, as far as they are needed. -/
structure CV (D : List DM) (R : List RM) : Prop where
  dv : DV D
  rl : R.length ≤ 4
  rok : ∀ x ∈ R, ROk x
  ps : ∀ k, k < R.length → (gR R k).ps.length ≤ 3 ∧ ∀ t ∈ (gR R k).ps, 0 ≤ t ∧ t ≤ D.length
  r : ∀ k, k < R.length → 0 ≤ (gR R k).r ∧ (gR R k).r ≤ D.length
theorem cv_of {D : List DM} {R : List RM} (hR : ∀ x ∈ R, ROk x) (h : nSigsOk D R = true) : CV D R := by
  simp only [nSigsOk, sigsOk, Bool.and_eq_true, decide_eq_true_eq, List.all_eq_true] at h
  obtain ⟨h1, ⟨h2, h3, h4, h5, h6⟩, h7⟩ := h
  refine ⟨dv_of h2, h1, hR, fun k hk => ?_, fun k hk => ?_⟩
  · have := h5 _ (gR_mem hk)
    simp only [sigOk, Bool.and_eq_true, decide_eq_true_eq, List.all_eq_true] at this
    exact ⟨this.1, fun t ht => isTy_iff.1 (this.2.1 t ht)⟩
  · have := h5 _ (gR_mem hk)
    simp only [sigOk, Bool.and_eq_true, decide_eq_true_eq, List.all_eq_true] at this
    exact isTy_iff.1 this.2.2
def pre1 (ps : List Int) : List Int := ps.take (ps.length - 1)
def resM (D : List DM) (R : List RM) (o n : Int) (T : List Int) : Int :=
  if o = 0 then (if (-999 ≤ n ∧ n ≤ 999) ∧ T.length = 0 then 0 else -1)
  else if o = 1 ∨ o = 2 ∨ o = 3 ∨ o = 4 then (if n = 0 ∧ T = [0, 0] then 0 else -1)
  else if o = 5 then (if n = 0 ∧ T = [0] then 0 else -1)
  else if o = 6 then (if conT D n < 0 then -1 else if T = fld D n then conT D n else -1)
  else if o = 9 then (if 0 ≤ n ∧ n < R.length then (if T = (gR R n.toNat).ps then (gR R n.toNat).r else -1) else -1)
  else if o = 10 then (if 0 ≤ n ∧ n < R.length then (if (gR R n.toNat).ps.length = 0 then -1 else if T = pre1 (gR R n.toNat).ps then arrL ((gR R n.toNat).ps.getD ((gR R n.toNat).ps.length - 1) 0) (gR R n.toNat).r D 0 else -1) else -1)
  else if o = 11 then (if n = 0 then (if T.length = 2 ∧ isAr D (T.getD 0 0) = true ∧ T.getD 1 0 = (gD D ((T.getD 0 0).toNat - 1)).f then (gD D ((T.getD 0 0).toNat - 1)).t else -1) else -1)
  else -1
section
variable {D : List DM} {R : List RM} (hv : CV D R)
include hv
theorem fld_len {n : Int} (h : ¬ conT D n < 0) : (fld D n).length ≤ 3 ∧ ∀ t ∈ fld D n, 0 ≤ t ∧ t ≤ D.length := by
  rcases conT_cases (D := D) n with h0 | ⟨j, i, hj, he, hc, hi, hf⟩
  · omega
  rw [hf]
  exact hv.dv.c j hj _ (mem_getD hi [])
theorem resM_long {o n : Int} {T : List Int} (h : 3 < T.length) : resM D R o n T = -1 := by
  unfold resM
  split
  · rw [if_neg (fun h' => by omega)]
  split
  · rw [if_neg (fun h' => by rw [h'.2] at h; simp at h)]
  split
  · rw [if_neg (fun h' => by rw [h'.2] at h; simp at h)]
  split
  · split
    · rfl
    · rename_i hc
      rw [if_neg (fun h' => by have := (fld_len hv hc).1; rw [← h'] at this; omega)]
  split
  · split
    · rename_i hc
      rw [if_neg (fun h' => by have := (hv.ps n.toNat (by omega)).1; rw [← h'] at this; omega)]
    · rfl
  split
  · split
    · rename_i hc
      split
      · rfl
      · rw [if_neg (fun h' => by
          have := (hv.ps n.toNat (by omega)).1
          have h2 : T.length ≤ (gR R n.toNat).ps.length := by rw [h', pre1, List.length_take]; omega
          omega)]
    · rfl
  split
  · split
    · rw [if_neg (fun h' => by omega)]
    · rfl
  · rfl
end
end Go.Proofs.YthfihhejbplmfaaGreat

set_option linter.unusedVariables false
set_option linter.unusedSimpArgs false
namespace Go.Proofs.YthfihhejbplmfaaGreat
open Go
theorem rB_congr {a b : Bool} (h : a = b) : rB a = rB b := by rw [h]
/-- Variables: few, and all of them of types. -/
structure VV (D : List DM) (V : List Int) : Prop where
  len : V.length ≤ 2147483648
  ty : ∀ t ∈ V, 0 ≤ t ∧ t ≤ D.length
theorem tv_ty {D : List DM} {V : List Int} (h : VV D V) (v : Int) : tv V v = -1 ∨ (0 ≤ tv V v ∧ tv V v ≤ D.length) := by
  unfold tv
  split
  · exact .inr (h.ty _ (mem_getD (by omega) _))
  · exact .inl rfl
theorem tv_in {V : List Int} {v : Int} (h : 0 ≤ v ∧ v < V.length) : tv V v = V.getD v.toNat 0 := by unfold tv; rw [if_pos h]
theorem tv_out {V : List Int} {v : Int} (h : ¬ (0 ≤ v ∧ v < V.length)) : tv V v = -1 := by unfold tv; rw [if_neg h]
def intoM (V : List Int) (o i : Int) : Bool := decide (i = 0) || (decide (o = 6) && decide (0 < tv V (i - 1)))
def lendsM (R : List RM) (n : Int) : Bool := decide (0 ≤ n ∧ n < R.length) && decide (0 < (gR R n.toNat).lent.length)
def madeM (D : List DM) (R : List RM) (V : List Int) (o n : Int) (args : List Int) : Int := if o = 10 ∧ lendsM R n = true then -1 else resM D R o n (args.map (tv V))
def tM (D : List DM) (R : List RM) (V : List Int) (o n i : Int) (args : List Int) (kids : List (List AC)) : Int :=
  if intoM V o i = true ∧ kids.length = 0 then madeM D R V o n args else -1
theorem wi {i : Int} (h : inI i) : (-9223372036854775808 ≤ i - 1 ∧ wrapI (i - 1) = i - 1) ∨ (i - 1 < 0 ∧ wrapI (i - 1) = 9223372036854775807) := by
  by_cases h0 : i = -9223372036854775808
  · subst h0; exact .inr ⟨by omega, by decide⟩
  · left; unfold inI at h; exact ⟨by omega, wr (by omega) (by omega)⟩
theorem tv_wi {V : List Int} (hV : V.length ≤ 2147483648) {i : Int} (h : inI i) : tv V (wrapI (i - 1)) = tv V (i - 1) := by
  rcases wi h with ⟨_, e⟩ | ⟨e1, e2⟩
  · rw [e]
  · rw [e2, tv_out (by omega), tv_out (by omega)]
section
variable {D : List DM} {R : List RM}
theorem i_hasRoutine (ds : List (List AC)) (n : Int) : impl_hasRoutine [.agg [.sl 3 ds, .sl 5 (rousC R)], .cell (.int n)] = rB (decide (0 ≤ n ∧ n < R.length)) := by
  refine impl_hasRoutine_le ?_
  rw [rousC_len]
  by_cases h : 0 ≤ n
  · refine bifT (decide_eq_true h) ?_
    simp [h] <;> rfl
  · refine bifF (decide_eq_false h) ?_
    simp [h] <;> rfl
theorem i_lends (ds : List (List AC)) (n : Int) : impl_lends [.agg [.sl 3 ds, .sl 5 (rousC R)], .cell (.int n)] = rB (lendsM R n) := by
  refine impl_lends_le (callB (i_hasRoutine ds n) ?_)
  unfold lendsM
  by_cases h : 0 ≤ n ∧ n < R.length
  · rw [decide_eq_true h]
    refine bifT rfl (atRouI (k := n.toNat) (by omega) (by omega) ?_)
    rw [intsC_len]
    exact rB_congr (by simp)
  · rw [decide_eq_false h]
    exact bifF rfl rfl
end
end Go.Proofs.YthfihhejbplmfaaGreat

set_option linter.unusedVariables false
set_option linter.unusedSimpArgs false
namespace Go.Proofs.YthfihhejbplmfaaGreat
open Go
section
variable {D : List DM} {R : List RM} (hv : CV D R)
include hv
end
end Go.Proofs.YthfihhejbplmfaaGreat

set_option linter.unusedVariables false
set_option linter.unusedSimpArgs false
namespace Go.Proofs.YthfihhejbplmfaaGreat
open Go
theorem s_defines (o : Int) : spec_defines [.cell (.int o)] = rB (decide (0 ≤ o) && decide (o ≤ 11)) := spec_defines_le (callB (s_inRange o 0 11) rfl)
def okT (D : List DM) (t : Int) : Prop := t = -1 ∨ (0 ≤ t ∧ t ≤ D.length)
theorem arrL_ok (f t : Int) : ∀ (D : List DM) (k : Nat), arrL f t D k = -1 ∨ (0 ≤ arrL f t D k ∧ arrL f t D k ≤ ((k + D.length : Nat) : Int))
  | [], _ => .inl rfl
  | d :: ds, k => by
    unfold arrL
    split
    · right; simp only [List.length_cons]; omega
    · have := arrL_ok f t ds (k + 1)
      simp only [List.length_cons]
      omega
section
variable {D : List DM} {R : List RM}
theorem resM_ok (hv : CV D R) (o n : Int) (T : List Int) : okT D (resM D R o n T) := by
  unfold okT resM
  split
  · split <;> omega
  split
  · split <;> omega
  split
  · split <;> omega
  split
  · rcases conT_cases (D := D) n with h0 | ⟨j, i, hj, he, _⟩
    · rw [h0]; simp
    · split
      · omega
      · split <;> omega
  split
  · split
    · have := hv.r n.toNat (by omega)
      split <;> omega
    · omega
  split
  · split
    · split
      · omega
      · split
        · have := arrL_ok ((gR R n.toNat).ps.getD ((gR R n.toNat).ps.length - 1) 0) (gR R n.toNat).r D 0
          rw [Nat.zero_add] at this
          exact this
        · omega
    · omega
  split
  · split
    · split
      · rename_i hc
        have hb : (0 < T.getD 0 0 ∧ T.getD 0 0 ≤ D.length) ∧ (gD D ((T.getD 0 0).toNat - 1)).cs.length = 0 := by
          have hi := hc.2.1
          simp only [isAr, Bool.and_eq_true, decide_eq_true_eq, beq_iff_eq] at hi
          exact ⟨⟨hi.1, (isTy_iff.1 hi.2.1).2⟩, hi.2.2⟩
        have := (hv.dv.arr ((T.getD 0 0).toNat - 1) (by omega) hb.2).2
        omega
      · omega
    · omega
  · omega
theorem resM_op (o n : Int) (T : List Int) : resM D R o n T = -1 ∨ (0 ≤ o ∧ o ≤ 11) := by
  by_cases h : 0 ≤ o ∧ o ≤ 11
  · exact .inr h
  · left
    unfold resM
    rw [if_neg (by omega), if_neg (by omega), if_neg (by omega), if_neg (by omega), if_neg (by omega), if_neg (by omega), if_neg (by omega)]
theorem tM_ok (hv : CV D R) (V : List Int) (o n i : Int) (args : List Int) (kids : List (List AC)) : okT D (tM D R V o n i args kids) := by
  unfold tM madeM
  split
  · split
    · exact .inl rfl
    · exact resM_ok hv _ _ _
  · exact .inl rfl
theorem tM_op (V : List Int) (o n i : Int) (args : List Int) (kids : List (List AC)) : tM D R V o n i args kids = -1 ∨ (0 ≤ o ∧ o ≤ 11) := by
  unfold tM madeM
  split
  · split
    · exact .inl rfl
    · exact resM_op _ _ _
  · exact .inl rfl
theorem madeM_num {V : List Int} {o n : Int} {args : List Int} (hn : n ≠ 0) (hh : ¬ (o = 0 ∨ o = 6 ∨ o = 8 ∨ o = 9 ∨ o = 10)) : madeM D R V o n args = -1 := by
  unfold madeM resM
  simp [show o ≠ 0 by omega, show o ≠ 6 by omega, show o ≠ 9 by omega, show o ≠ 10 by omega, hn]
def cnt1 (D : List DM) (V : List Int) (o : Int) (args : List Int) : Bool := decide (args.length = 1) && (decide (0 < tv V (args.getD 0 0)) && (decide (o = 14 ∨ o = 15) || !isAr D (tv V (args.getD 0 0))))
def cntM (D : List DM) (V : List Int) (o n i : Int) (args : List Int) (kids : List (List AC)) : Bool := decide (n = 0) && (decide (i = 0) && (decide (kids.length = 0) && cnt1 D V o args))
theorem isDa_isAr {t : Int} (h : 0 < t) (h2 : t ≤ D.length) : isDa D t = !isAr D t := by
  unfold isDa isAr isTy
  rw [decide_eq_true h, decide_eq_true h2, decide_eq_true (show 0 ≤ t by omega)]
  rcases Nat.eq_zero_or_pos (gD D (t.toNat - 1)).cs.length with h0 | h0
  · simp [h0]
  · simp [h0, show (gD D (t.toNat - 1)).cs.length ≠ 0 by omega]
end
end Go.Proofs.YthfihhejbplmfaaGreat

set_option linter.unusedVariables false
set_option linter.unusedSimpArgs false
namespace Go.Proofs.YthfihhejbplmfaaGreat
open Go
theorem callBd {ρ : Type} {r : ρ} {x : Option AV} {a0 : List (List AC)} {a1 : List (List AC)} (h : x = some (.v (.agg [.sl 1 a0, .sl 1 a1]))) {K : Fn (Option ρ) (shapesOf [(true, [.sl 1 [], .sl 1 []])])} (h2 : (K : List (List AC) → List (List AC) → Option ρ) a0 a1 = some r) : callR x false [(true, [.sl 1 [], .sl 1 []])] K = some r := by rw [h]; exact h2
def cL (D : List DM) (j : Nat) : List Int := (List.range (gD D j).cs.length).map fun i => ((sumC (D.take j) + i : Nat) : Int)
theorem cL_len (D : List DM) (j : Nat) : (cL D j).length = (gD D j).cs.length := by simp [cL]
theorem cL_get {D : List DM} {j k : Nat} (h : k < (gD D j).cs.length) : (cL D j).getD k 0 = ((sumC (D.take j) + k : Nat) : Int) := by
  simp [cL, List.getD, h]
theorem s_consOf {D : List DM} (hv : DV D) (n : Int) : spec_consOf [.cell (.sl 3 (decsC D)), .cell (.int n)] = rL (if 1 ≤ n ∧ n ≤ D.length then cL D (n.toNat - 1) else []) := by
  have hD := hv.len
  refine spec_consOf_le (callB (s_inRange _ _ _) ?_)
  rw [decsC_len]
  by_cases h : 1 ≤ n ∧ n ≤ D.length
  rotate_left
  · rw [if_neg h]
    refine bifT ?_ rfl
    rw [Bool.not_eq_true', Bool.and_eq_false_iff, decide_eq_false_iff_not, decide_eq_false_iff_not]
    omega
  rw [if_pos h, decide_eq_true h.1, decide_eq_true h.2]
  refine bifF rfl ?_
  have hj : n.toNat - 1 < D.length := by omega
  have w : wrapI (n - 1) = ((n.toNat - 1 : Nat) : Int) := by rw [wr (by omega) (by omega)]; omega
  generalize n.toNat - 1 = j at hj w ⊢
  have hc := hv.cs j hj
  have hs := sumC_le hv.cs j (by omega)
  have key : ∀ m k : Nat, k + m = (gD D j).cs.length → spec_consOf_L0 (decsC D) n (intsC ((cL D j).take k)) (k : Int) = rL (cL D j) := by
    intro m
    induction m with
    | zero =>
      intro k hk
      refine spec_consOf_L0_le (atDecI (k := j) w hj (bifF (decide_eq_false (by rw [consC_len]; omega)) ?_))
      rw [List.take_of_length_le (by rw [cL_len]; omega)]
    | succ m ih =>
      intro k hk
      refine spec_consOf_L0_le (atDecI (k := j) w hj (bifT (decide_eq_true (by rw [consC_len]; omega)) ?_))
      rw [w]
      refine callI (s_firstCon hv (k := j) (by omega)) (appTo (by rw [intsC_len, List.length_take, cL_len]; simp; omega) ?_)
      have hlt : k < (cL D j).length := by rw [cL_len]; omega
      have e := take_app hlt
      have e2 : (cL D j)[k] = ((sumC (D.take j) + k : Nat) : Int) := by
        have := cL_get (D := D) (j := j) (k := k) (by omega)
        rw [← this]
        simp [List.getD, hlt]
      rw [e2] at e
      rw [wr (n := ((sumC (D.take j) : Nat) : Int) + (k : Int)) (by omega) (by omega), ← Int.natCast_add, e, wrk (by unfold maxI; omega)]
      exact ih (k + 1) (by omega)
  exact key (gD D j).cs.length 0 (by omega)
def chk (T : Nat → Int) (t0 : Int) : Nat → Nat → Int
  | 0, _ => t0
  | m + 1, k => if T k = t0 then chk T t0 m (k + 1) else -1
theorem chk_neg (T : Nat → Int) : ∀ m k, chk T (-1) m k = -1
  | 0, _ => rfl
  | m + 1, k => by unfold chk; rw [chk_neg T m (k + 1), ite_self]
theorem chk_ok {D : List DM} {T : Nat → Int} {t0 : Int} (h : okT D t0) : ∀ m k, okT D (chk T t0 m k)
  | 0, _ => h
  | m + 1, k => by
    unfold chk
    split
    · exact chk_ok h m (k + 1)
    · exact .inl rfl
section
variable {D : List DM} {R : List RM}
end
end Go.Proofs.YthfihhejbplmfaaGreat
