/- Signatures of normal forms, numbers of steps, constructors: what impl's and spec's functions compute. -/
import Derived.Test.YtgiehkiicmnchaaQa
set_option linter.unusedVariables false
set_option linter.unusedSimpArgs false
namespace Go.Proofs.Ytgiehkiicmnchaa
open Go
structure RM where
  ps : List Int
  lent : List Int
  r : Int
  steps : List (List AC)
  res : Int
  deriving Inhabited
def rouC (x : RM) : List AC := [.sl 1 (intsC x.ps), .sl 1 (intsC x.lent), .int x.r, .sl 5 x.steps, .int x.res]
def rousC (R : List RM) : List (List AC) := R.map rouC
def sigC (x : RM) : List AC := [.sl 1 (intsC x.ps), .int x.r, .int 0, .int 0, .sl 3 []]
def sigsC (R : List RM) : List (List AC) := R.map sigC
structure ROk (x : RM) : Prop where
  ps : IntsOk x.ps
  lent : IntsOk x.lent
  r : inI x.r
  b : Fit .block [.sl 5 x.steps, .int x.res]
theorem fit_rous : ∀ {rs : List (List AC)}, (∀ d ∈ rs, Fit .routine d) → ∃ R, rs = rousC R ∧ ∀ d ∈ R, ROk d
  | [], _ => ⟨[], rfl, fun c h => by cases h⟩
  | d :: ds, h => by
    obtain ⟨R, rfl, hR⟩ := fit_rous fun x hx => h x (List.mem_cons_of_mem _ hx)
    have h0 := h d List.mem_cons_self
    generalize ht : Ty.routine = t at h0
    cases h0 with
    | routine ps lent r steps x hp hl hr hb =>
      refine ⟨⟨ps, lent, r, steps, x⟩ :: R, rfl, fun x hx => ?_⟩
      rcases List.mem_cons.1 hx with rfl | hx
      · exact ⟨hp, hl, hr, hb⟩
      · exact hR x hx
    | _ => cases ht
theorem rousC_len (R : List RM) : (rousC R).length = R.length := by simp [rousC]
theorem sigsC_len (R : List RM) : (sigsC R).length = R.length := by simp [sigsC]
def gR (R : List RM) (k : Nat) : RM := R.getD k default
theorem gR_mem {R : List RM} {k : Nat} (h : k < R.length) : gR R k ∈ R := mem_getD h _
theorem gR_get {R : List RM} {k : Nat} (h : k < R.length) : R[k] = gR R k := by simp [gR, List.getD, h]
theorem rousC_get {R : List RM} {k : Nat} (h : k < R.length) : (rousC R).getD k [] = [.sl 1 (intsC (gR R k).ps), .sl 1 (intsC (gR R k).lent), .int (gR R k).r, .sl 5 (gR R k).steps, .int (gR R k).res] := by simp [rousC, List.getD, h, gR, rouC]
theorem sigsC_get {R : List RM} {k : Nat} (h : k < R.length) : (sigsC R).getD k [] = [.sl 1 (intsC (gR R k).ps), .int (gR R k).r, .int 0, .int 0, .sl 3 []] := by simp [sigsC, List.getD, h, gR, sigC]
section
variable {ρ : Type} {r : ρ}
theorem atRouI {R : List RM} {i : Int} {k : Nat} (hi : i = (k : Int)) (h : k < R.length) {K : Fn (Option ρ) [.sl 1 [], .sl 1 [], .int 0, .sl 5 [], .int 0]}
    (h2 : (K : List (List AC) → List (List AC) → Int → List (List AC) → Int → Option ρ) (intsC (gR R k).ps) (intsC (gR R k).lent) (gR R k).r (gR R k).steps (gR R k).res = some r) : atR_ (rousC R) i [.sl 1 [], .sl 1 [], .int 0, .sl 5 [], .int 0] K = some r := by
  subst hi
  exact atRoutine (by rw [rousC_len]; exact h) (rousC_get h) h2
theorem atSigI {R : List RM} {i : Int} {k : Nat} (hi : i = (k : Int)) (h : k < R.length) {K : Fn (Option ρ) [.sl 1 [], .int 0, .int 0, .int 0, .sl 3 []]}
    (h2 : (K : List (List AC) → Int → Int → Int → List (List AC) → Option ρ) (intsC (gR R k).ps) (gR R k).r 0 0 [] = some r) : atR_ (sigsC R) i [.sl 1 [], .int 0, .int 0, .int 0, .sl 3 []] K = some r := by
  subst hi
  exact atFunc (by rw [sigsC_len]; exact h) (sigsC_get h) h2
end
def sigOk (D : List DM) (x : RM) : Bool := decide (x.ps.length ≤ 3) && (x.ps.all (isTy D) && isTy D x.r)
def sigsOk (D : List DM) (R : List RM) : Bool := typesOk D && (decide (1 ≤ R.length) && (decide (R.length ≤ 4) && (R.all (sigOk D) && (((gR R 0).ps.length == 0) && ((gR R 0).r == 0)))))
theorem i_validSig (D : List DM) (x : RM) (hx : ROk x) : impl_validSig [.cell (.sl 3 (decsC D)), .cell (.sl 1 (intsC x.ps)), .cell (.int x.r)] = rB (sigOk D x) := by
  refine impl_validSig_le ?_
  rw [intsC_len]
  unfold sigOk
  by_cases h : x.ps.length ≤ 3
  · rw [decide_eq_true h]
    refine bifT (decide_eq_true (by omega)) (callB (i_areTypes D _ hx.ps.len) ?_)
    rcases x.ps.all (isTy D) with _ | _
    · exact bifF rfl rfl
    · exact bifT rfl (callB (i_isType D _) rfl)
  · rw [decide_eq_false h]
    exact bifF (decide_eq_false (by omega)) rfl
theorem first_ok {R : List RM} (h : 0 < R.length) {X : Option AV} (hX : X = rB (((gR R 0).ps.length == 0) && ((gR R 0).r == 0))) : X = rB (((gR R 0).ps.length == 0) && ((gR R 0).r == 0)) := hX
theorem i_validSigs (D : List DM) (R : List RM) (hD : ∀ d ∈ D, DOk d) (hR : ∀ x ∈ R, ROk x) (hl : D.length ≤ maxI) : impl_ValidSigs [.agg [.sl 3 (decsC D), .sl 5 (sigsC R)]] = rB (sigsOk D R) := by
  refine impl_ValidSigs_le (callB (i_validTypes D hD hl) ?_)
  unfold sigsOk
  rcases typesOk D with _ | _
  · exact bifT rfl rfl
  refine bifF rfl ?_
  rw [sigsC_len]
  by_cases h1 : 1 ≤ R.length
  rotate_left
  · rw [decide_eq_false h1]
    exact bifT (decide_eq_true (by omega)) rfl
  rw [decide_eq_true h1]
  refine bifF (decide_eq_false (by omega)) ?_
  by_cases h4 : R.length ≤ 4
  rotate_left
  · rw [decide_eq_false h4]
    exact bifT (decide_eq_true (by omega)) rfl
  rw [decide_eq_true h4]
  refine bifF (decide_eq_false (by omega)) ?_
  have key : ∀ m k : Nat, k + m = R.length → impl_ValidSigs_L0 (decsC D) (sigsC R) (sigsC R) ((R.length : Nat) : Int) (k : Int) = rB ((R.drop k).all (sigOk D) && (((gR R 0).ps.length == 0) && ((gR R 0).r == 0))) := by
    intro m
    induction m with
    | zero =>
      intro k hk
      rw [List.drop_eq_nil_of_le (by omega)]
      refine impl_ValidSigs_L0_le (bifF (decide_eq_false (by omega)) (atSigI (k := 0) rfl (by omega) ?_))
      rw [intsC_len]
      by_cases h0 : (gR R 0).ps.length = 0
      · exact bifT (zr h0) (atSigI (k := 0) rfl (by omega) (by rw [h0]; rfl))
      · refine bifF (nz h0) ?_
        rw [show ((gR R 0).ps.length == 0) = false by simpa using h0]
        rfl
    | succ m ih =>
      intro k hk
      have hlt : k < R.length := by omega
      rw [all_drop hlt, gR_get hlt]
      refine impl_ValidSigs_L0_le (bifT (decide_eq_true (by omega)) (atSigI rfl hlt (callB (i_validSig D _ (hR _ (gR_mem hlt))) ?_)))
      rcases sigOk D (gR R k) with _ | _
      · exact bifT rfl rfl
      · exact bifF rfl (by rw [wrk (by unfold maxI; omega)]; exact ih (k + 1) (by omega))
  exact key R.length 0 (by omega)
theorem s_validSigs (D : List DM) (R : List RM) (hD : ∀ d ∈ D, DOk d) (hR : ∀ x ∈ R, ROk x) (hl : D.length ≤ maxI) : spec_validSigs [.agg [.sl 3 (decsC D), .sl 5 (sigsC R)]] = rB (sigsOk D R) := by
  refine spec_validSigs_le (callB (s_validTypes D hD hl) ?_)
  unfold sigsOk
  rcases typesOk D with _ | _
  · exact bifT rfl rfl
  refine bifF rfl (callB (s_inRange _ _ _) ?_)
  rw [sigsC_len]
  by_cases h1 : 1 ≤ R.length
  rotate_left
  · rw [decide_eq_false h1, decide_eq_false (show ¬ (1 : Int) ≤ ((R.length : Nat) : Int) by omega)]
    exact bifT rfl rfl
  rw [decide_eq_true h1, decide_eq_true (show (1 : Int) ≤ ((R.length : Nat) : Int) by omega)]
  by_cases h4 : R.length ≤ 4
  rotate_left
  · rw [decide_eq_false h4, decide_eq_false (show ¬ ((R.length : Nat) : Int) ≤ 4 by omega)]
    exact bifT rfl rfl
  rw [decide_eq_true h4, decide_eq_true (show ((R.length : Nat) : Int) ≤ 4 by omega)]
  refine bifF rfl ?_
  have key : ∀ m k : Nat, k + m = R.length → spec_validSigs_L0 (decsC D) (sigsC R) (k : Int) = rB ((R.drop k).all (sigOk D) && (((gR R 0).ps.length == 0) && ((gR R 0).r == 0))) := by
    intro m
    induction m with
    | zero =>
      intro k hk
      rw [List.drop_eq_nil_of_le (by omega)]
      refine spec_validSigs_L0_le (bifF (decide_eq_false (by rw [sigsC_len]; omega)) (atSigI (k := 0) rfl (by omega) ?_))
      rw [intsC_len]
      by_cases h0 : (gR R 0).ps.length = 0
      · exact bifT (zr h0) (atSigI (k := 0) rfl (by omega) (by rw [h0]; rfl))
      · refine bifF (nz h0) ?_
        rw [show ((gR R 0).ps.length == 0) = false by simpa using h0]
        rfl
    | succ m ih =>
      intro k hk
      have hlt : k < R.length := by omega
      have hx := hR _ (gR_mem hlt)
      rw [all_drop hlt, gR_get hlt]
      refine spec_validSigs_L0_le (bifT (decide_eq_true (by rw [sigsC_len]; omega)) (atSigI rfl hlt ?_))
      rw [intsC_len]
      unfold sigOk
      by_cases h3 : (gR R k).ps.length ≤ 3
      rotate_left
      · rw [decide_eq_false h3]
        exact bifT (decide_eq_true (by omega)) rfl
      rw [decide_eq_true h3]
      refine bifF (decide_eq_false (by omega)) (callB (s_allTypes D _ hx.ps.len) ?_)
      rcases (gR R k).ps.all (isTy D) with _ | _
      · exact bifT rfl rfl
      refine bifF rfl (callB (s_isTy D _) ?_)
      rcases isTy D (gR R k).r with _ | _
      · exact bifT rfl rfl
      · exact bifF rfl (by rw [wrk (by unfold maxI; omega)]; exact ih (k + 1) (by omega))
  exact key R.length 0 (by omega)
theorem sigs_app {R : List RM} {k : Nat} (h : k < R.length) : sigsC (R.take k) ++ [[.sl 1 (intsC (gR R k).ps), .int (gR R k).r, .int 0, .int 0, .sl 3 []]] = sigsC (R.take (k + 1)) := by
  rw [List.take_succ_eq_append_getElem h, gR_get h]
  simp [sigsC, sigC]
theorem i_sigsOf (ds : List (List AC)) (R : List RM) (h4 : R.length ≤ 4) : impl_sigsOf [.agg [.sl 3 ds, .sl 5 (rousC R)]] = some (.v (.agg [.sl 3 ds, .sl 5 (sigsC R)])) := by
  have key : ∀ m k : Nat, k + m = R.length → impl_sigsOf_L0 [] [] ds (sigsC (R.take k)) (rousC R) (((rousC R).length : Nat) : Int) (k : Int) = some (.v (.agg [.sl 3 ds, .sl 5 (sigsC R)])) := by
    intro m
    induction m with
    | zero => intro k hk; exact impl_sigsOf_L0_le (bifF (decide_eq_false (by rw [rousC_len]; omega)) (by rw [List.take_of_length_le (by omega)]))
    | succ m ih =>
      intro k hk
      have hlt : k < R.length := by omega
      refine impl_sigsOf_L0_le (bifT (decide_eq_true (by rw [rousC_len]; omega)) (atRouI rfl hlt (appTo (by rw [sigsC_len, List.length_take]; simp; omega) ?_)))
      rw [sigs_app hlt, wrk (by unfold maxI; omega)]
      exact ih (k + 1) (by omega)
  exact impl_sigsOf_le (key R.length 0 (by omega))
/-- What is lent, from a last one on. -/
def lentL (ps : List Int) : Int → List Int → Bool
  | _, [] => true
  | last, v :: vs => decide (last < v) && (decide (v < ps.length) && (!(ps.getD v.toNat 0 == 0) && lentL ps v vs))
theorem i_validLent (x : RM) (hx : ROk x) : impl_validLent [.agg [.sl 1 (intsC x.ps), .sl 1 (intsC x.lent), .int x.r, .sl 5 x.steps, .int x.res]] = rB (lentL x.ps (-1) x.lent) := by
  have hl := hx.lent.len
  have key : ∀ m k : Nat, k + m = x.lent.length → ∀ last : Int, -1 ≤ last → impl_validLent_L0 (intsC x.ps) (intsC x.lent) x.r x.steps x.res last (intsC x.lent) (((intsC x.lent).length : Nat) : Int) (k : Int) = rB (lentL x.ps last (x.lent.drop k)) := by
    intro m
    induction m with
    | zero => intro k hk last h0; exact impl_validLent_L0_le (bifF (decide_eq_false (by rw [intsC_len]; omega)) (by rw [List.drop_eq_nil_of_le (by omega)]; rfl))
    | succ m ih =>
      intro k hk last h0
      have hlt : k < x.lent.length := by omega
      rw [List.drop_eq_getElem_cons hlt]
      unfold lentL
      refine impl_validLent_L0_le (bifT (decide_eq_true (by rw [intsC_len]; omega)) (atNum hlt ?_))
      generalize x.lent[k] = v
      by_cases h1 : last < v
      rotate_left
      · rw [decide_eq_false h1]
        exact bifT (decide_eq_true (by omega)) rfl
      rw [decide_eq_true h1]
      refine bifF (decide_eq_false (by omega)) ?_
      by_cases h2 : v < x.ps.length
      rotate_left
      · rw [decide_eq_false h2]
        exact bifT (decide_eq_true (by rw [intsC_len]; omega)) rfl
      rw [decide_eq_true h2]
      refine bifF (decide_eq_false (by rw [intsC_len]; omega)) (atNumI (k := v.toNat) (by omega) (by omega) ?_)
      rcases h3 : (x.ps.getD v.toNat 0 == 0) with _ | _
      · exact bifF rfl (by rw [wrk (by omega)]; exact ih (k + 1) (by omega) v (by omega))
      · exact bifT rfl rfl
  exact impl_validLent_le (key x.lent.length 0 (by omega) (-1) (by omega))
theorem s_validLent (x : RM) (hx : ROk x) : spec_validLent [.cell (.sl 1 (intsC x.ps)), .cell (.sl 1 (intsC x.lent))] = rB (lentL x.ps (-1) x.lent) := by
  have hl := hx.lent.len
  have hp := hx.ps.len
  have hw : wrapI ((((intsC x.ps).length : Nat) : Int) - 1) = x.ps.length - 1 := by
    rw [intsC_len]
    unfold maxI at hp
    exact wr (by omega) (by omega)
  have key : ∀ m k : Nat, k + m = x.lent.length → ∀ last : Int, -1 ≤ last → (k = 0 → last = -1) → (0 < k → last = x.lent.getD (k - 1) 0) → spec_validLent_L0 (intsC x.ps) (intsC x.lent) (k : Int) = rB (lentL x.ps last (x.lent.drop k)) := by
    intro m
    induction m with
    | zero => intro k hk last h0 _ _; exact spec_validLent_L0_le (bifF (decide_eq_false (by rw [intsC_len]; omega)) (by rw [List.drop_eq_nil_of_le (by omega)]; rfl))
    | succ m ih =>
      intro k hk last h0 hk0 hk1
      have hlt : k < x.lent.length := by omega
      have hv : x.lent.getD k 0 = x.lent[k] := by simp [List.getD, hlt]
      have nx := fun (h : -1 ≤ x.lent[k]) => ih (k + 1) (by omega) x.lent[k] h (by omega) (fun _ => by rw [show k + 1 - 1 = k by omega, hv])
      rw [List.drop_eq_getElem_cons hlt]
      unfold lentL
      refine spec_validLent_L0_le (bifT (decide_eq_true (by rw [intsC_len]; omega)) (atNum hlt (callB (s_inRange _ _ _) ?_)))
      rw [hw]
      by_cases h2 : x.lent[k] < x.ps.length
      rotate_left
      · rw [decide_eq_false (show ¬ x.lent[k] ≤ (x.ps.length : Int) - 1 by omega), decide_eq_false h2, Bool.and_false, Bool.false_and, Bool.and_false]
        exact bifT rfl rfl
      by_cases h1 : 0 ≤ x.lent[k]
      rotate_left
      · rw [decide_eq_false h1, decide_eq_false (show ¬ last < x.lent[k] by omega)]
        exact bifT rfl rfl
      rw [decide_eq_true h1, decide_eq_true (show x.lent[k] ≤ (x.ps.length : Int) - 1 by omega), decide_eq_true h2]
      refine bifF rfl (atNum hlt (atNumI (k := x.lent[k].toNat) (by omega) (by omega) ?_))
      rcases h3 : (x.ps.getD x.lent[k].toNat 0 == 0) with _ | _
      rotate_left
      · refine bifT rfl ?_
        rw [Bool.not_true, Bool.false_and, Bool.and_false, Bool.and_false]
      refine bifF rfl ?_
      rw [Bool.not_false, Bool.true_and, Bool.true_and]
      by_cases hz : k = 0
      · refine bifF (decide_eq_false (by omega)) ?_
        rw [hk0 hz, decide_eq_true (show (-1 : Int) < x.lent[k] by omega), wrk (by omega)]
        exact nx (by omega)
      · refine bifT (decide_eq_true (by omega)) (atNum hlt (atNumI (k := k - 1) (by rw [wr (by omega) (by unfold maxI at hl; omega)]; omega) (by omega) ?_))
        rw [← hk1 (by omega)]
        by_cases h4 : last < x.lent[k]
        · rw [decide_eq_true h4]
          exact bifF (decide_eq_false (by omega)) (by rw [wrk (by omega)]; exact nx (by omega))
        · rw [decide_eq_false h4]
          exact bifT (decide_eq_true (by omega)) rfl
  exact spec_validLent_le (key x.lent.length 0 (by omega) (-1) (by omega) (fun _ => rfl) (by omega))
def lentOk (x : RM) : Bool := lentL x.ps (-1) x.lent
def nSigsOk (D : List DM) (R : List RM) : Bool := decide (R.length ≤ 4) && (sigsOk D R && R.all lentOk)
theorem i_nSigs (D : List DM) (R : List RM) (hD : ∀ d ∈ D, DOk d) (hR : ∀ x ∈ R, ROk x) (hl : D.length ≤ maxI) : impl_validRoutineSigs [.agg [.sl 3 (decsC D), .sl 5 (rousC R)]] = rB (nSigsOk D R) := by
  refine impl_validRoutineSigs_le ?_
  rw [rousC_len]
  unfold nSigsOk
  by_cases h4 : R.length ≤ 4
  rotate_left
  · rw [decide_eq_false h4]
    exact bifT (decide_eq_true (by omega)) rfl
  rw [decide_eq_true h4]
  refine bifF (decide_eq_false (by omega)) (callProg (i_sigsOf _ R h4) (callB (i_validSigs D R hD hR hl) ?_))
  rcases sigsOk D R with _ | _
  · exact bifT rfl rfl
  refine bifF rfl ?_
  have key : ∀ m k : Nat, k + m = R.length → impl_validRoutineSigs_L0 (rousC R) ((R.length : Nat) : Int) (k : Int) = rB ((R.drop k).all lentOk) := by
    intro m
    induction m with
    | zero => intro k hk; exact impl_validRoutineSigs_L0_le (bifF (decide_eq_false (by omega)) (by rw [List.drop_eq_nil_of_le (by omega)]; rfl))
    | succ m ih =>
      intro k hk
      have hlt : k < R.length := by omega
      rw [all_drop hlt, gR_get hlt]
      refine impl_validRoutineSigs_L0_le (bifT (decide_eq_true (by omega)) (atRouI rfl hlt (callB (i_validLent _ (hR _ (gR_mem hlt))) ?_)))
      show (bif !lentOk (gR R k) then _ else _) = _
      rcases lentOk (gR R k) with _ | _
      · exact bifT rfl rfl
      · exact bifF rfl (by rw [wrk (by unfold maxI; omega)]; exact ih (k + 1) (by omega))
  exact key R.length 0 (by omega)
end Go.Proofs.Ytgiehkiicmnchaa
