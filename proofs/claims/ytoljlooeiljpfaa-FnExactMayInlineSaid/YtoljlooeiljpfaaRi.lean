/- Valid programs, both sides; nodes with an operation and a number, counted. The laws of CallSites and MentionsOf, over values. -/
import Derived.Test.YtoljlooeiljpfaaRg
set_option linter.unusedVariables false
set_option linter.unusedSimpArgs false
namespace Go.Proofs.Ytoljlooeiljpfaa
open Go
def bodyC (x : PM) : List AC := [.int x.o, .int x.n, .sl 3 x.kids]
/-- What is asked of a program that comes in. -/
structure PIn (D : List DM) (R : List PM) : Prop where
  d : ∀ d ∈ D, DOk d
  r : ∀ x ∈ R, POk x
  dl : D.length ≤ maxI
  rl : R.length ≤ maxI
theorem pin_of {ds fs : List (List AC)} (h : Fit .prog [.sl 3 ds, .sl 5 fs]) : ∃ D R, ds = decsC D ∧ fs = pmsC R ∧ PIn D R := by
  generalize ht : Ty.prog = t at h
  generalize hx : [AC.sl 3 ds, AC.sl 5 fs] = x at h
  cases h with
  | prog ds' fs' hd hf h1 h2 =>
    simp only [List.cons.injEq, AC.sl.injEq, true_and, and_true] at hx
    obtain ⟨rfl, rfl⟩ := hx
    obtain ⟨D, rfl, hD⟩ := fit_decs h1
    obtain ⟨R, rfl, hR⟩ := fit_pms h2
    exact ⟨D, R, rfl, rfl, hD, hR, by simpa [decsC] using hd, by simpa [pmsC] using hf⟩
  | _ => cases ht
/-- Valid: what is known then. -/
structure VP (D : List DM) (R : List PM) : Prop where
  cp : CP D R
  pos : 1 ≤ R.length
  small : ∀ k, k < R.length → cS (bodyC (gP R k)) ≤ 29
  nm : ∀ k, k < R.length → Nm R.length (bodyC (gP R k))
section
variable {D : List DM} {R : List PM}
theorem nodV_neg {x : List AC} : decide (nodV x < 0) = !decide (cS x ≤ 29) := by
  unfold nodV
  split
  · rename_i h; rw [decide_eq_true h, decide_eq_false (by omega)]; rfl
  · rename_i h; rw [decide_eq_false h]; rfl
theorem i_typeOf (hi : PIn D R) (hs : sigsP D R = true) (hv : CP D R) {k : Nat} (hk : k < R.length) {t : Int} (hT : cS (bodyC (gP R k)) ≤ 29 → Tells D R (gP R k).ps [] (bodyC (gP R k)) t) :
    impl_TypeOf [.agg [.sl 3 (decsC D), .sl 5 (pmsC R)], .cell (.sl 1 (intsC (gP R k).ps)), .agg (bodyC (gP R k))] = rI (if cS (bodyC (gP R k)) ≤ 29 then t else -1) := by
  have hx := hi.r _ (gP_mem hk)
  refine impl_TypeOf_le (callB (pi_validSigs D R hi.d hi.r hi.dl) ?_)
  rw [hs]
  refine bifF rfl (callB (i_areTypes D _ hx.ps.len) ?_)
  have ha : (gP R k).ps.all (isTy D) = true := by
    rw [List.all_eq_true]
    exact fun t ht => isTy_iff.2 ((hv.ps k hk).2 t ht)
  rw [ha]
  refine bifF rfl (callI (i_nodesOf hx.b) ?_)
  rw [nodV_neg]
  show (bif !decide (cS (bodyC (gP R k)) ≤ 29) then _ else _) = _
  by_cases h : cS (bodyC (gP R k)) ≤ 29
  · rw [if_pos h, decide_eq_true h]
    exact bifF rfl (callI (hT h).2.1 rfl)
  · rw [if_neg h, decide_eq_false h]
    exact bifT rfl rfl
theorem vp_both (hi : PIn D R) : ∃ b, impl_ValidProgram [.agg [.sl 3 (decsC D), .sl 5 (pmsC R)]] = rB b ∧ spec_validProgram [.agg [.sl 3 (decsC D), .sl 5 (pmsC R)]] = rB b ∧ (b = true → VP D R) := by
  rcases hs : sigsP D R with _ | _
  · refine ⟨false, impl_ValidProgram_le (callB (pi_validSigs D R hi.d hi.r hi.dl) ?_), spec_validProgram_le (callB (ps_validSigs D R hi.d hi.r hi.dl) ?_), (fun h => by cases h)⟩
    · rw [hs]; exact bifT rfl rfl
    · rw [hs]; exact bifT rfl rfl
  have hv := cp_of hi.r hs
  have hR := hv.rl
  have h1 : 1 ≤ R.length := by
    simp only [sigsP, Bool.and_eq_true, decide_eq_true_eq] at hs
    exact hs.2.1
  obtain ⟨T, hT⟩ := pickT (m := R.length) (P := fun k t => cS (bodyC (gP R k)) ≤ 29 → Tells D R (gP R k).ps [] (bodyC (gP R k)) t) (fun k hk => by
    by_cases h : cS (bodyC (gP R k)) ≤ 29
    · have hx := hi.r _ (gP_mem hk)
      obtain ⟨t, ht⟩ := ty_both hv 30 _ _ _ hx.b (by show cS (bodyC (gP R k)) < 30; omega) (by omega) (gP R k).ps [] (fun t ht => by rw [List.append_nil] at ht; exact (hv.ps k hk).2 t ht) (by rw [List.append_nil]; have := (hv.ps k hk).1; omega)
      exact ⟨t, fun _ => ht⟩
    · exact ⟨0, fun h' => absurd h' h⟩)
  let okF : Nat → Bool := fun k => decide (cS (bodyC (gP R k)) ≤ 29) && (T k == (gP R k).r)
  refine ⟨(List.range R.length).all okF, impl_ValidProgram_le (callB (pi_validSigs D R hi.d hi.r hi.dl) ?_), spec_validProgram_le (callB (ps_validSigs D R hi.d hi.r hi.dl) ?_), fun h => ⟨hv, h1, fun k hk => ?_, fun k hk => ?_⟩⟩
  · rw [hs]
    refine bifF rfl ?_
    have key : ∀ m k : Nat, k + m = R.length → impl_ValidProgram_L0 (decsC D) (pmsC R) (pmsC R) (((pmsC R).length : Nat) : Int) (k : Int) = rB (((List.range R.length).drop k).all okF) := by
      intro m
      induction m with
      | zero => intro k hk; exact impl_ValidProgram_L0_le (bifF (decide_eq_false (by rw [pmsC_len]; omega)) (by rw [List.drop_eq_nil_of_le (by simp; omega)]; rfl))
      | succ m ih =>
        intro k hk
        have hlt : k < R.length := by omega
        have hrr := hv.r k hlt
        rw [range_drop hlt]
        refine impl_ValidProgram_L0_le (bifT (decide_eq_true (by rw [pmsC_len]; omega)) (atPmI (k := k) rfl hlt (callI (i_typeOf hi hs hv hlt (hT k hlt)) ?_)))
        show _ = rB ((decide (cS (bodyC (gP R k)) ≤ 29) && (T k == (gP R k).r)) && _)
        by_cases h : cS (bodyC (gP R k)) ≤ 29
        · rw [if_pos h, decide_eq_true h]
          by_cases hq : T k = (gP R k).r
          · rw [eqt hq]
            exact bifF (nef hq) (by rw [wrk (by unfold maxI; omega)]; exact ih (k + 1) (by omega))
          · rw [eqf hq]
            exact bifT (net hq) rfl
        · rw [if_neg h, decide_eq_false h]
          exact bifT (net (by omega)) rfl
    have := key R.length 0 (by omega)
    rw [List.drop_zero] at this
    exact this
  · rw [hs]
    refine bifF rfl ?_
    have key : ∀ m k : Nat, k + m = R.length → spec_validProgram_L0 (decsC D) (pmsC R) (k : Int) = rB (((List.range R.length).drop k).all okF) := by
      intro m
      induction m with
      | zero => intro k hk; exact spec_validProgram_L0_le (bifF (decide_eq_false (by rw [pmsC_len]; omega)) (by rw [List.drop_eq_nil_of_le (by simp; omega)]; rfl))
      | succ m ih =>
        intro k hk
        have hlt : k < R.length := by omega
        have hrr := hv.r k hlt
        have hx := hi.r _ (gP_mem hlt)
        rw [range_drop hlt]
        refine spec_validProgram_L0_le (bifT (decide_eq_true (by rw [pmsC_len]; omega)) (atPmI (k := k) rfl hlt (callI (s_nodesOf hx.b) ?_)))
        rw [nodV_neg]
        show (bif !decide (cS (bodyC (gP R k)) ≤ 29) then _ else _) = rB ((decide (cS (bodyC (gP R k)) ≤ 29) && (T k == (gP R k).r)) && _)
        by_cases h : cS (bodyC (gP R k)) ≤ 29
        · rw [decide_eq_true h]
          have ht := (hT k hlt h).2.2.1
          rw [List.append_nil] at ht
          refine bifF rfl (atPmI (k := k) rfl hlt (atPmI (k := k) rfl hlt (callI ht (atPmI (k := k) rfl hlt ?_))))
          by_cases hq : T k = (gP R k).r
          · rw [eqt hq]
            exact bifF (nef hq) (by rw [wrk (by unfold maxI; omega)]; exact ih (k + 1) (by omega))
          · rw [eqf hq]
            exact bifT (net hq) rfl
        · rw [decide_eq_false h]
          exact bifT rfl rfl
    have := key R.length 0 (by omega)
    rw [List.drop_zero] at this
    exact this
  · rw [List.all_eq_true] at h
    have := h k (by simpa using hk)
    simp only [okF, Bool.and_eq_true, decide_eq_true_eq] at this
    exact this.1
  · rw [List.all_eq_true] at h
    have := h k (by simpa using hk)
    simp only [okF, Bool.and_eq_true, decide_eq_true_eq, beq_iff_eq] at this
    have hr := (hv.r k hk).1
    exact (hT k hk this.1).2.2.2 (by omega)
end
def sumF (T : Nat → Int) : Nat → Nat → Int
  | 0, _ => 0
  | m + 1, k => T k + sumF T m (k + 1)
theorem sumF_bound {kids : List (List AC)} {T : Nat → Int} (h : ∀ k, k < kids.length → 0 ≤ T k ∧ T k ≤ ((1 + cS (kids.getD k []) : Nat) : Int)) : ∀ m k : Nat, k + m = kids.length → 0 ≤ sumF T m k ∧ sumF T m k ≤ (remN kids k : Nat)
  | 0, k, hk => by
    obtain rfl : k = kids.length := by omega
    rw [remN_end]
    exact ⟨Int.le_refl _, Int.le_refl _⟩
  | m + 1, k, hk => by
    have := sumF_bound h m (k + 1) (by omega)
    have h1 := h k (by omega)
    rw [remN_succ (show k < kids.length by omega)]
    unfold sumF
    omega
/-- How many nodes have an operation and a number: impl's count, and that of a function of spec's. -/
theorem i_withL (op num : Int) (kids : List (List AC)) (T : Nat → Int) (hml : kids.length ≤ maxI) (h : ∀ k, k < kids.length → 0 ≤ T k ∧ T k ≤ ((1 + cS (kids.getD k []) : Nat) : Int)) (hb : ∀ k, k < kids.length → ∃ o n ks, kids.getD k [] = [.int o, .int n, .sl 3 ks])
    (hT : ∀ k, k < kids.length → impl_nodesWith [.agg (kids.getD k []), .cell (.int op), .cell (.int num)] = rI (T k)) : ∀ m k : Nat, k + m = kids.length → ∀ c : Int, 0 ≤ c → c + (remN kids k : Nat) ≤ 1000 → impl_nodesWith_L0 op num c kids ((kids.length : Nat) : Int) (k : Int) = rI (c + sumF T m k) := by
  intro m
  induction m with
  | zero =>
    intro k hk c h0 h1
    refine impl_nodesWith_L0_le (bifF (decide_eq_false (by omega)) ?_)
    rw [sumF, Int.add_zero]
  | succ m ih =>
    intro k hk c h0 h1
    have hlt : k < kids.length := by omega
    obtain ⟨o, n, ks, e⟩ := hb k hlt
    have ht := hT k hlt
    have hb1 := h k hlt
    have hr := remN_succ hlt
    have hrl : kids.length - k ≤ remN kids k := by unfold remN; omega
    rw [e] at ht
    refine impl_nodesWith_L0_le (bifT (decide_eq_true (by omega)) (atExpr hlt e (callI ht ?_)))
    rw [wr (by omega) (by omega), wrk (by omega), ih (k + 1) (by omega) _ (by omega) (by omega), sumF, Int.add_assoc]
theorem len_rem (kids : List (List AC)) : kids.length ≤ remN kids 0 := by unfold remN; omega
theorem c_withL (v o n : Int) (kids : List (List AC)) (T : Nat → Int) (hml : kids.length ≤ maxI) (h : ∀ k, k < kids.length → 0 ≤ T k ∧ T k ≤ ((1 + cS (kids.getD k []) : Nat) : Int)) (hb : ∀ k, k < kids.length → ∃ o n ks, kids.getD k [] = [.int o, .int n, .sl 3 ks])
    (hT : ∀ k, k < kids.length → spec_callsIn [.agg (kids.getD k []), .cell (.int v)] = rI (T k)) : ∀ m k : Nat, k + m = kids.length → ∀ c : Int, 0 ≤ c → c + (remN kids k : Nat) ≤ 1000 → spec_callsIn_L0 v o n kids c (k : Int) = rI (c + sumF T m k) := by
  intro m
  induction m with
  | zero =>
    intro k hk c h0 h1
    refine spec_callsIn_L0_le (bifF (decide_eq_false (by omega)) ?_)
    rw [sumF, Int.add_zero]
  | succ m ih =>
    intro k hk c h0 h1
    have hlt : k < kids.length := by omega
    obtain ⟨o, n, ks, e⟩ := hb k hlt
    have ht := hT k hlt
    have hb1 := h k hlt
    have hr := remN_succ hlt
    have hrl : kids.length - k ≤ remN kids k := by unfold remN; omega
    rw [e] at ht
    refine spec_callsIn_L0_le (bifT (decide_eq_true (by omega)) (atExpr hlt e (callI ht ?_)))
    rw [wr (by omega) (by omega), wrk (by omega), ih (k + 1) (by omega) _ (by omega) (by omega), sumF, Int.add_assoc]
theorem c_with : ∀ (s : Nat) (v o n : Int) (kids : List (List AC)), Fit .expr [.int o, .int n, .sl 3 kids] → cS [.int o, .int n, .sl 3 kids] < s → s ≤ 31 →
    ∃ m : Int, (0 ≤ m ∧ m ≤ ((1 + cS [.int o, .int n, .sl 3 kids] : Nat) : Int)) ∧ impl_nodesWith [.agg [.int o, .int n, .sl 3 kids], .cell (.int 9), .cell (.int v)] = rI m ∧ spec_callsIn [.agg [.int o, .int n, .sl 3 kids], .cell (.int v)] = rI m := by
  intro s
  induction s with
  | zero => intro v o n kids _ h; omega
  | succ s ihs =>
    intro v o n kids hf hs hs31
    obtain ⟨_, hn, hml, hk⟩ := fit_ex hf
    have hb : ∀ k, k < kids.length → ∃ o n ks, kids.getD k [] = [.int o, .int n, .sl 3 ks] := fun k hlt => by
      obtain ⟨o', n', ks, e, _⟩ := fit_kid hk hlt
      exact ⟨o', n', ks, e⟩
    obtain ⟨T, hT⟩ := pickT (m := kids.length) (P := fun k t => (0 ≤ t ∧ t ≤ ((1 + cS (kids.getD k []) : Nat) : Int)) ∧ impl_nodesWith [.agg (kids.getD k []), .cell (.int 9), .cell (.int v)] = rI t ∧ spec_callsIn [.agg (kids.getD k []), .cell (.int v)] = rI t) (fun k hlt => by
      obtain ⟨o', n', ks, e, hf'⟩ := fit_kid hk hlt
      have h1 := kid_lt hlt (o := o) (n := n)
      rw [e] at h1
      simp only [e]
      exact ihs v o' n' ks hf' (by omega) (by omega))
    have hbd := fun k hk => (hT k hk).1
    have hsum := sumF_bound hbd kids.length 0 (by omega)
    have hr0 := remN_zero o n kids
    have hlr := len_rem kids
    have li := i_withL 9 v kids T hml hbd hb (fun k hk => (hT k hk).2.1) kids.length 0 (by omega)
    have ls := c_withL v o n kids T hml hbd hb (fun k hk => (hT k hk).2.2) kids.length 0 (by omega)
    by_cases ho : o = 9
    · by_cases hv : n = v
      · refine ⟨1 + sumF T kids.length 0, by omega, impl_nodesWith_le (bifT (eqt ho) (bifT (eqt hv) (li 1 (by omega) (by omega)))), spec_callsIn_le (bifT (eqt ho) (bifT (eqt hv) (ls 1 (by omega) (by omega))))⟩
      · refine ⟨0 + sumF T kids.length 0, by omega, impl_nodesWith_le (bifT (eqt ho) (bifF (eqf hv) (li 0 (by omega) (by omega)))), spec_callsIn_le (bifT (eqt ho) (bifF (eqf hv) (ls 0 (by omega) (by omega))))⟩
    · refine ⟨0 + sumF T kids.length 0, by omega, impl_nodesWith_le (bifF (eqf ho) (li 0 (by omega) (by omega))), spec_callsIn_le (bifF (eqf ho) (ls 0 (by omega) (by omega)))⟩
theorem m_withL (v o n : Int) (kids : List (List AC)) (T : Nat → Int) (hml : kids.length ≤ maxI) (h : ∀ k, k < kids.length → 0 ≤ T k ∧ T k ≤ ((1 + cS (kids.getD k []) : Nat) : Int)) (hb : ∀ k, k < kids.length → ∃ o n ks, kids.getD k [] = [.int o, .int n, .sl 3 ks])
    (hT : ∀ k, k < kids.length → spec_mentionsOf [.agg (kids.getD k []), .cell (.int v)] = rI (T k)) : ∀ m k : Nat, k + m = kids.length → ∀ c : Int, 0 ≤ c → c + (remN kids k : Nat) ≤ 1000 → spec_mentionsOf_L0 v o n kids c (k : Int) = rI (c + sumF T m k) := by
  intro m
  induction m with
  | zero =>
    intro k hk c h0 h1
    refine spec_mentionsOf_L0_le (bifF (decide_eq_false (by omega)) ?_)
    rw [sumF, Int.add_zero]
  | succ m ih =>
    intro k hk c h0 h1
    have hlt : k < kids.length := by omega
    obtain ⟨o, n, ks, e⟩ := hb k hlt
    have ht := hT k hlt
    have hb1 := h k hlt
    have hr := remN_succ hlt
    have hrl : kids.length - k ≤ remN kids k := by unfold remN; omega
    rw [e] at ht
    refine spec_mentionsOf_L0_le (bifT (decide_eq_true (by omega)) (atExpr hlt e (callI ht ?_)))
    rw [wr (by omega) (by omega), wrk (by omega), ih (k + 1) (by omega) _ (by omega) (by omega), sumF, Int.add_assoc]
theorem m_with : ∀ (s : Nat) (v o n : Int) (kids : List (List AC)), Fit .expr [.int o, .int n, .sl 3 kids] → cS [.int o, .int n, .sl 3 kids] < s → s ≤ 31 →
    ∃ m : Int, (0 ≤ m ∧ m ≤ ((1 + cS [.int o, .int n, .sl 3 kids] : Nat) : Int)) ∧ impl_nodesWith [.agg [.int o, .int n, .sl 3 kids], .cell (.int 12), .cell (.int v)] = rI m ∧ spec_mentionsOf [.agg [.int o, .int n, .sl 3 kids], .cell (.int v)] = rI m := by
  intro s
  induction s with
  | zero => intro v o n kids _ h; omega
  | succ s ihs =>
    intro v o n kids hf hs hs31
    obtain ⟨_, hn, hml, hk⟩ := fit_ex hf
    have hb : ∀ k, k < kids.length → ∃ o n ks, kids.getD k [] = [.int o, .int n, .sl 3 ks] := fun k hlt => by
      obtain ⟨o', n', ks, e, _⟩ := fit_kid hk hlt
      exact ⟨o', n', ks, e⟩
    obtain ⟨T, hT⟩ := pickT (m := kids.length) (P := fun k t => (0 ≤ t ∧ t ≤ ((1 + cS (kids.getD k []) : Nat) : Int)) ∧ impl_nodesWith [.agg (kids.getD k []), .cell (.int 12), .cell (.int v)] = rI t ∧ spec_mentionsOf [.agg (kids.getD k []), .cell (.int v)] = rI t) (fun k hlt => by
      obtain ⟨o', n', ks, e, hf'⟩ := fit_kid hk hlt
      have h1 := kid_lt hlt (o := o) (n := n)
      rw [e] at h1
      simp only [e]
      exact ihs v o' n' ks hf' (by omega) (by omega))
    have hbd := fun k hk => (hT k hk).1
    have hsum := sumF_bound hbd kids.length 0 (by omega)
    have hr0 := remN_zero o n kids
    have hlr := len_rem kids
    have li := i_withL 12 v kids T hml hbd hb (fun k hk => (hT k hk).2.1) kids.length 0 (by omega)
    have ls := m_withL v o n kids T hml hbd hb (fun k hk => (hT k hk).2.2) kids.length 0 (by omega)
    by_cases ho : o = 12
    · by_cases hv : n = v
      · refine ⟨1 + sumF T kids.length 0, by omega, impl_nodesWith_le (bifT (eqt ho) (bifT (eqt hv) (li 1 (by omega) (by omega)))), spec_mentionsOf_le (bifT (eqt ho) (bifT (eqt hv) (ls 1 (by omega) (by omega))))⟩
      · refine ⟨0 + sumF T kids.length 0, by omega, impl_nodesWith_le (bifT (eqt ho) (bifF (eqf hv) (li 0 (by omega) (by omega)))), spec_mentionsOf_le (bifT (eqt ho) (bifF (eqf hv) (ls 0 (by omega) (by omega))))⟩
    · refine ⟨0 + sumF T kids.length 0, by omega, impl_nodesWith_le (bifF (eqf ho) (li 0 (by omega) (by omega))), spec_mentionsOf_le (bifF (eqf ho) (ls 0 (by omega) (by omega)))⟩
end Go.Proofs.Ytoljlooeiljpfaa

set_option linter.unusedVariables false
set_option linter.unusedSimpArgs false
namespace Go.Proofs.Ytoljlooeiljpfaa
open Go
theorem pi_hasFuncB {D : List DM} {R : List PM} (n : Int) : impl_hasFunc [.agg [.sl 3 (decsC D), .sl 5 (pmsC R)], .cell (.int n)] = rB (decide (0 ≤ n ∧ n < R.length)) := pi_hasFunc n
theorem s_inFuncs {R : List PM} (hR : R.length ≤ maxI) (n : Int) : spec_inRange [.cell (.int n), .cell (.int 0), .cell (.int (wrapI ((((pmsC R).length : Nat) : Int) - 1)))] = rB (decide (0 ≤ n ∧ n < R.length)) := by
  have hw : wrapI ((((pmsC R).length : Nat) : Int) - 1) = R.length - 1 := by rw [pmsC_len]; unfold maxI at hR; exact wr (by omega) (by omega)
  rw [hw, s_inRange]
  congr 3
  rw [← Bool.decide_and]
  congr 1
  exact propext ⟨fun h => ⟨h.1, by omega⟩, fun h => ⟨h.1, by omega⟩⟩
theorem callSites_ex {ds fs : List (List AC)} (h : Fit .prog [.sl 3 ds, .sl 5 fs]) (n : Int) : ∃ m : Int, impl_CallSites [.agg [.sl 3 ds, .sl 5 fs], .cell (.int n)] = rI m ∧ spec_CallSites [.agg [.sl 3 ds, .sl 5 fs], .cell (.int n)] = rI m := by
  obtain ⟨D, R, rfl, rfl, hi⟩ := pin_of h
  obtain ⟨b, h1, h2, h3⟩ := vp_both hi
  cases b with
  | false => exact ⟨-1, impl_CallSites_le (callB h1 (bifT rfl rfl)), spec_CallSites_le (callB h2 (bifT rfl rfl))⟩
  | true =>
    have hv := h3 rfl
    have hR := hv.cp.rl
    by_cases hf : 0 ≤ n ∧ n < R.length
    rotate_left
    · exact ⟨-1, impl_CallSites_le (callB h1 (bifF rfl (callB (pi_hasFuncB n) (bifT (by rw [decide_eq_false hf]; rfl) rfl)))), spec_CallSites_le (callB h2 (bifF rfl (callB (s_inFuncs hi.rl n) (bifT (by rw [decide_eq_false hf]; rfl) rfl))))⟩
    obtain ⟨T, hT⟩ := pickT (m := R.length) (P := fun k t => (0 ≤ t ∧ t ≤ 30) ∧ impl_nodesWith [.agg (bodyC (gP R k)), .cell (.int 9), .cell (.int n)] = rI t ∧ spec_callsIn [.agg (bodyC (gP R k)), .cell (.int n)] = rI t) (fun k hk => by
      have hs := hv.small k hk
      obtain ⟨m, g1, g2, g3⟩ := c_with 30 n (gP R k).o (gP R k).n (gP R k).kids (hi.r _ (gP_mem hk)).b (by show cS (bodyC (gP R k)) < 30; omega) (by omega)
      have g1' : m ≤ ((1 + cS (bodyC (gP R k)) : Nat) : Int) := g1.2
      exact ⟨m, ⟨g1.1, by omega⟩, g2, g3⟩)
    have ki : ∀ m k : Nat, k + m = R.length → ∀ c : Int, 0 ≤ c → c ≤ 30 * k → impl_CallSites_L0 n c (pmsC R) (((pmsC R).length : Nat) : Int) (k : Int) = rI (c + sumF T m k) := by
      intro m
      induction m with
      | zero =>
        intro k hk c h0 hc
        refine impl_CallSites_L0_le (bifF (decide_eq_false (by rw [pmsC_len]; omega)) ?_)
        rw [sumF, Int.add_zero]
      | succ m ih =>
        intro k hk c h0 hc
        have hlt : k < R.length := by omega
        obtain ⟨g1, g2, g3⟩ := hT k hlt
        refine impl_CallSites_L0_le (bifT (decide_eq_true (by rw [pmsC_len]; omega)) (atPmI (k := k) rfl hlt (callI g2 ?_)))
        rw [wr (by omega) (by omega), wrk (by unfold maxI; omega), ih (k + 1) (by omega) _ (by omega) (by omega), sumF, Int.add_assoc]
    have ks : ∀ m k : Nat, k + m = R.length → ∀ c : Int, 0 ≤ c → c ≤ 30 * k → spec_CallSites_L0 n (decsC D) (pmsC R) c (k : Int) = rI (c + sumF T m k) := by
      intro m
      induction m with
      | zero =>
        intro k hk c h0 hc
        refine spec_CallSites_L0_le (bifF (decide_eq_false (by rw [pmsC_len]; omega)) ?_)
        rw [sumF, Int.add_zero]
      | succ m ih =>
        intro k hk c h0 hc
        have hlt : k < R.length := by omega
        obtain ⟨g1, g2, g3⟩ := hT k hlt
        refine spec_CallSites_L0_le (bifT (decide_eq_true (by rw [pmsC_len]; omega)) (atPmI (k := k) rfl hlt (callI g3 ?_)))
        rw [wr (by omega) (by omega), wrk (by unfold maxI; omega), ih (k + 1) (by omega) _ (by omega) (by omega), sumF, Int.add_assoc]
    exact ⟨0 + sumF T R.length 0, impl_CallSites_le (callB h1 (bifF rfl (callB (pi_hasFuncB n) (bifF (by rw [decide_eq_true hf]; rfl) (ki R.length 0 (by omega) 0 (by omega) (by omega)))))),
      spec_CallSites_le (callB h2 (bifF rfl (callB (s_inFuncs hi.rl n) (bifF (by rw [decide_eq_true hf]; rfl) (ks R.length 0 (by omega) 0 (by omega) (by omega))))))⟩
theorem law_CallSites {ds fs : List (List AC)} (h : Fit .prog [.sl 3 ds, .sl 5 fs]) {n : Int} (hn : inI n) : laws_FnExactCallSites [.agg [.sl 3 ds, .sl 5 fs], .cell (.int n)] = rB true := by
  obtain ⟨z, g, s⟩ := sz_fit h 1048576 (by omega) (by omega)
  rcases s with ⟨c, rfl⟩ | ⟨c, rfl⟩
  rotate_left
  · exact laws_FnExactCallSites_le (callI g (bifT rfl rfl))
  have t := to_fit h (by omega)
  have e := eq_fit h
  obtain ⟨m, h1, h2⟩ := callSites_ex h n
  exact laws_FnExactCallSites_le (callI g (bifF (decide_eq_false (by omega)) (callProg t (callI h2 (callProg t (callI h1 (bifF (nef rfl) (callProg t (callB e (bifF rfl rfl))))))))))
theorem mentionsOf_ex {o n : Int} {kids : List (List AC)} (h : Fit .expr [.int o, .int n, .sl 3 kids]) (v : Int) : ∃ m : Int, impl_MentionsOf [.agg [.int o, .int n, .sl 3 kids], .cell (.int v)] = rI m ∧ spec_MentionsOf [.agg [.int o, .int n, .sl 3 kids], .cell (.int v)] = rI m := by
  have hn := nodV_neg (x := [.int o, .int n, .sl 3 kids])
  by_cases hc : cS [.int o, .int n, .sl 3 kids] ≤ 29
  · rw [decide_eq_true hc] at hn
    obtain ⟨m, _, g2, g3⟩ := m_with 30 v o n kids h (by omega) (by omega)
    exact ⟨m, impl_MentionsOf_le (callI (i_nodesOf h) (bifF hn (callI g2 rfl))), spec_MentionsOf_le (callI (s_nodesOf h) (bifF hn (callI g3 rfl)))⟩
  · rw [decide_eq_false hc] at hn
    exact ⟨-1, impl_MentionsOf_le (callI (i_nodesOf h) (bifT hn rfl)), spec_MentionsOf_le (callI (s_nodesOf h) (bifT hn rfl))⟩
theorem law_MentionsOf {o m : Int} {kids : List (List AC)} (h : Fit .expr [.int o, .int m, .sl 3 kids]) {n : Int} (hn : inI n) : laws_FnExactMentionsOf [.agg [.int o, .int m, .sl 3 kids], .cell (.int n)] = rB true := by
  obtain ⟨z, g, s⟩ := sz_fit h 1048576 (by omega) (by omega)
  rcases s with ⟨c, rfl⟩ | ⟨c, rfl⟩
  rotate_left
  · exact laws_FnExactMentionsOf_le (callI g (bifT rfl rfl))
  have t := to_fit h (by omega)
  have e := eq_fit h
  obtain ⟨m', h1, h2⟩ := mentionsOf_ex h n
  exact laws_FnExactMentionsOf_le (callI g (bifF (decide_eq_false (by omega)) (callExpr t (callI h2 (callExpr t (callI h1 (bifF (nef rfl) (callExpr t (callB e (bifF rfl rfl))))))))))
end Go.Proofs.Ytoljlooeiljpfaa
