/- Valid images: impl's and spec's answers are the same; the law of FnExactValidImage answers true wherever what comes in fits. -/
import Derived.Test.YthfihhejbplmfaaGreatQn
import Derived.Test.YthfihhejbplmfaaGreatDa
set_option linter.unusedVariables false
set_option linter.unusedSimpArgs false
namespace Go.Proofs.YthfihhejbplmfaaGreat
open Go
def lastM (X : List IM) : Bool := (gI X (X.length - 1)).o == 23 || (gI X (X.length - 1)).o == 24
def prQ (D : List DM) (R : List RM) (p : PM) : Bool := decide (1 ≤ p.regs ∧ p.regs ≤ 2000 ∧ (p.ps.length : Int) ≤ p.regs) && (decide (1 ≤ p.code.length ∧ p.code.length ≤ 2000) && ((List.range p.code.length).all (fun k => insM D R k p.code.length p.regs (gI p.code k)) && lastM p.code))
theorem i_leavesFrame (o : Int) : impl_leavesFrame [.cell (.int o)] = rB (o == 23 || o == 24) := by
  refine impl_leavesFrame_le ?_
  by_cases h : o = 23
  · rw [eqt h]; exact bifT rfl rfl
  · rw [eqf h]; exact bifF rfl rfl
theorem i_validProc {D : List DM} {R : List RM} (hv : CV D R) (p : PM) (hp : POk p) : impl_validProc [.agg [.sl 3 (decsC D), .sl 5 (rousC R)], .agg [.sl 1 (intsC p.ps), .sl 1 (intsC p.lent), .int p.r, .int p.regs, .sl 6 (codeC p.code)]] = rB (prQ D R p) := by
  refine impl_validProc_le ?_
  rw [intsC_len, codeC_len]
  unfold prQ
  by_cases h1 : p.regs < 1
  · rw [decide_eq_false (show ¬ (1 ≤ p.regs ∧ p.regs ≤ 2000 ∧ (p.ps.length : Int) ≤ p.regs) by omega)]
    exact bifT (decide_eq_true h1) rfl
  refine bifF (decide_eq_false h1) ?_
  by_cases h2 : p.regs > 2000
  · rw [decide_eq_false (show ¬ (1 ≤ p.regs ∧ p.regs ≤ 2000 ∧ (p.ps.length : Int) ≤ p.regs) by omega)]
    exact bifT (decide_eq_true h2) rfl
  refine bifF (decide_eq_false h2) ?_
  by_cases h3 : p.regs < (p.ps.length : Int)
  · rw [decide_eq_false (show ¬ (1 ≤ p.regs ∧ p.regs ≤ 2000 ∧ (p.ps.length : Int) ≤ p.regs) by omega)]
    exact bifT (decide_eq_true h3) rfl
  refine bifF (decide_eq_false h3) ?_
  rw [decide_eq_true (show 1 ≤ p.regs ∧ p.regs ≤ 2000 ∧ (p.ps.length : Int) ≤ p.regs by omega)]
  by_cases h4 : ((p.code.length : Nat) : Int) < 1
  · rw [decide_eq_false (show ¬ (1 ≤ p.code.length ∧ p.code.length ≤ 2000) by omega)]
    exact bifT (decide_eq_true h4) rfl
  refine bifF (decide_eq_false h4) ?_
  by_cases h5 : ((p.code.length : Nat) : Int) > 2000
  · rw [decide_eq_false (show ¬ (1 ≤ p.code.length ∧ p.code.length ≤ 2000) by omega)]
    exact bifT (decide_eq_true h5) rfl
  refine bifF (decide_eq_false h5) ?_
  rw [decide_eq_true (show 1 ≤ p.code.length ∧ p.code.length ≤ 2000 by omega)]
  have key : ∀ m k : Nat, k + m = p.code.length → impl_validProc_L0 (decsC D) (rousC R) (intsC p.ps) (intsC p.lent) p.r p.regs (codeC p.code) ((p.code.length : Nat) : Int) (k : Int) = rB (((List.range p.code.length).drop k).all (fun k => insM D R k p.code.length p.regs (gI p.code k)) && lastM p.code) := by
    intro m
    induction m with
    | zero =>
      intro k hk
      rw [List.drop_eq_nil_of_le (by rw [List.length_range]; omega)]
      refine impl_validProc_L0_le (bifF (decide_eq_false (by omega)) ?_)
      rw [codeC_len]
      exact atInsI (k := p.code.length - 1) (by rw [wr (by omega) (by omega)]; omega) (by omega) (callB (i_leavesFrame _) rfl)
    | succ m ih =>
      intro k hk
      have hlt : k < p.code.length := by omega
      rw [range_drop hlt]
      refine impl_validProc_L0_le (bifT (decide_eq_true (by omega)) (callB (i_validInstr hv _ _ _ _ p.code hlt (hp.code _ (gI_mem hlt))) ?_))
      rcases insM D R k p.code.length p.regs (gI p.code k) with _ | _
      · exact bifT rfl rfl
      · rw [wrk (by unfold maxI; omega)]
        exact bifF rfl (ih (k + 1) (by omega))
  exact key p.code.length 0 (by omega)
theorem headOk {p : PM} (hp : POk p) : ROk (headR p) := ⟨hp.ps, hp.lent, hp.r, .block [] 0 ⟨by omega, by omega⟩ (Nat.zero_le _) (fun s h => by cases h)⟩
theorem s_validProc {D : List DM} {PS : List PM} (hv : CV D (headsL PS)) (p : PM) (hp : POk p) : spec_validProc [.agg [.sl 3 (decsC D), .sl 5 (procsC PS)], .agg [.sl 1 (intsC p.ps), .sl 1 (intsC p.lent), .int p.r, .int p.regs, .sl 6 (codeC p.code)]] = rB (lentOk (headR p) && prQ D (headsL PS) p) := by
  refine spec_validProc_le (callB (s_validLent (headR p) (headOk hp)) ?_)
  change (bif !(lentOk (headR p)) then rB false else _) = rB (lentOk (headR p) && prQ D (headsL PS) p)
  rcases lentOk (headR p) with _ | _
  · exact bifT rfl rfl
  refine bifF rfl ?_
  rw [intsC_len, codeC_len]
  refine callB (s_inRange _ _ _) ?_
  unfold prQ
  have hmx : max2I 1 ((p.ps.length : Nat) : Int) ≤ p.regs ↔ 1 ≤ p.regs ∧ (p.ps.length : Int) ≤ p.regs := by
    unfold max2I
    split <;> omega
  by_cases h1 : 1 ≤ p.regs ∧ p.regs ≤ 2000 ∧ (p.ps.length : Int) ≤ p.regs
  rotate_left
  · rw [decide_eq_false h1, inR_iff (fun h => h1 ⟨(hmx.1 h.1).1, h.2, (hmx.1 h.1).2⟩)]
    exact bifT rfl rfl
  rw [decide_eq_true h1, decide_eq_true (hmx.2 ⟨h1.1, h1.2.2⟩), decide_eq_true h1.2.1]
  refine bifF rfl (callB (s_inRange _ _ _) ?_)
  by_cases h4 : 1 ≤ p.code.length ∧ p.code.length ≤ 2000
  rotate_left
  · rw [decide_eq_false h4, inR_iff (by omega)]
    exact bifT rfl rfl
  rw [decide_eq_true h4, decide_eq_true (show (1 : Int) ≤ (p.code.length : Int) by omega), decide_eq_true (show (p.code.length : Int) ≤ 2000 by omega)]
  refine bifF rfl ?_
  have key : ∀ m k : Nat, k + m = p.code.length → spec_validProc_L0 (decsC D) (procsC PS) (intsC p.ps) (intsC p.lent) p.r p.regs (codeC p.code) ((p.code.length : Nat) : Int) (k : Int) = rB (((List.range p.code.length).drop k).all (fun k => insM D (headsL PS) k p.code.length p.regs (gI p.code k)) && lastM p.code) := by
    intro m
    induction m with
    | zero =>
      intro k hk
      rw [List.drop_eq_nil_of_le (by rw [List.length_range]; omega)]
      have w : wrapI (((p.code.length : Nat) : Int) - 1) = ((p.code.length - 1 : Nat) : Int) := by rw [wr (by omega) (by omega)]; omega
      refine spec_validProc_L0_le (bifF (decide_eq_false (by omega)) (atInsI (k := p.code.length - 1) w (by omega) ?_))
      unfold lastM
      by_cases h : (gI p.code (p.code.length - 1)).o = 23
      · rw [eqt h]; exact bifT rfl rfl
      · rw [eqf h]; exact bifF rfl (atInsI (k := p.code.length - 1) w (by omega) rfl)
    | succ m ih =>
      intro k hk
      have hlt : k < p.code.length := by omega
      rw [range_drop hlt]
      refine spec_validProc_L0_le (bifT (decide_eq_true (by omega)) (callB (s_validInstr hv p.code _ _ _ _ ⟨h1.1, h1.2.1⟩ hlt h4.2 (hp.code _ (gI_mem hlt))) ?_))
      rcases insM D (headsL PS) k p.code.length p.regs (gI p.code k) with _ | _
      · exact bifT rfl rfl
      · rw [wrk (by unfold maxI; omega)]
        exact bifF rfl (ih (k + 1) (by omega))
  exact key p.code.length 0 (by omega)
theorem heads_app {X : List PM} {k : Nat} (h : k < X.length) : rousC (headsL (X.take k)) ++ [[.sl 1 (intsC (gP X k).ps), .sl 1 (intsC (gP X k).lent), .int (gP X k).r, .sl 5 [], .int 0]] = rousC (headsL (X.take (k + 1))) := by
  rw [List.take_succ_eq_append_getElem h, show gP X k = X[k] by simp [gP, List.getD, h]]
  simp only [rousC, headsL, List.map_append, List.map_cons, List.map_nil]
  rfl
theorem psigs_app {X : List PM} {k : Nat} (h : k < X.length) : sigsC (headsL (X.take k)) ++ [[.sl 1 (intsC (gP X k).ps), .int (gP X k).r, .int 0, .int 0, .sl 3 []]] = sigsC (headsL (X.take (k + 1))) := by
  rw [List.take_succ_eq_append_getElem h, show gP X k = X[k] by simp [gP, List.getD, h]]
  simp only [sigsC, headsL, List.map_append, List.map_cons, List.map_nil]
  rfl
theorem i_headsOf (ds : List (List AC)) (PS : List PM) (h4 : PS.length ≤ 4) : impl_headsOf [.agg [.sl 3 ds, .sl 5 (procsC PS)]] = some (.v (.agg [.sl 3 ds, .sl 5 (rousC (headsL PS))])) := by
  have key : ∀ m k : Nat, k + m = PS.length → impl_headsOf_L0 [] [] ds (rousC (headsL (PS.take k))) (procsC PS) (((procsC PS).length : Nat) : Int) (k : Int) = some (.v (.agg [.sl 3 ds, .sl 5 (rousC (headsL PS))])) := by
    intro m
    induction m with
    | zero =>
      intro k hk
      rw [List.take_of_length_le (by omega)]
      exact impl_headsOf_L0_le (bifF (decide_eq_false (by rw [procsC_len]; omega)) rfl)
    | succ m ih =>
      intro k hk
      have hlt : k < PS.length := by omega
      refine impl_headsOf_L0_le (bifT (decide_eq_true (by rw [procsC_len]; omega)) (atProcI rfl hlt (appTo (by rw [rousC_len, headsL_len, List.length_take]; simp only [List.length_singleton]; omega) ?_)))
      rw [heads_app hlt, wrk (by unfold maxI; omega)]
      exact ih (k + 1) (by omega)
  exact impl_headsOf_le (key PS.length 0 (by omega))
theorem s_sigsOfImage (ds : List (List AC)) (PS : List PM) (h4 : PS.length ≤ 4) : spec_sigsOfImage [.agg [.sl 3 ds, .sl 5 (procsC PS)]] = some (.v (.agg [.sl 3 ds, .sl 5 (sigsC (headsL PS))])) := by
  have key : ∀ m k : Nat, k + m = PS.length → spec_sigsOfImage_L0 ds (procsC PS) [] [] ds (sigsC (headsL (PS.take k))) (k : Int) = some (.v (.agg [.sl 3 ds, .sl 5 (sigsC (headsL PS))])) := by
    intro m
    induction m with
    | zero =>
      intro k hk
      rw [List.take_of_length_le (by omega)]
      exact spec_sigsOfImage_L0_le (bifF (decide_eq_false (by rw [procsC_len]; omega)) rfl)
    | succ m ih =>
      intro k hk
      have hlt : k < PS.length := by omega
      refine spec_sigsOfImage_L0_le (bifT (decide_eq_true (by rw [procsC_len]; omega)) (atProcI rfl hlt (atProcI rfl hlt (appTo (by rw [sigsC_len, headsL_len, List.length_take]; simp only [List.length_singleton]; omega) ?_))))
      rw [psigs_app hlt, wrk (by unfold maxI; omega)]
      exact ih (k + 1) (by omega)
  exact spec_sigsOfImage_le (key PS.length 0 (by omega))
theorem cv_of_sigs {D : List DM} {R : List RM} (hR : ∀ x ∈ R, ROk x) (h1 : R.length ≤ 4) (h : sigsOk D R = true) : CV D R := by
  simp only [sigsOk, Bool.and_eq_true, decide_eq_true_eq, List.all_eq_true] at h
  obtain ⟨h2, h3, h4, h5, h6⟩ := h
  refine ⟨dv_of h2, h1, hR, fun k hk => ?_, fun k hk => ?_⟩
  · have := h5 _ (gR_mem hk)
    simp only [sigOk, Bool.and_eq_true, decide_eq_true_eq, List.all_eq_true] at this
    exact ⟨this.1, fun t ht => isTy_iff.1 (this.2.1 t ht)⟩
  · have := h5 _ (gR_mem hk)
    simp only [sigOk, Bool.and_eq_true, decide_eq_true_eq, List.all_eq_true] at this
    exact isTy_iff.1 this.2.2
theorem fit_image {ds ps : List (List AC)} (h : Fit .image [.sl 3 ds, .sl 5 ps]) : ∃ D PS, ds = decsC D ∧ ps = procsC PS ∧ (∀ d ∈ D, DOk d) ∧ (∀ x ∈ PS, POk x) ∧ D.length ≤ maxI ∧ PS.length ≤ maxI := by
  cases h with
  | image ds procs hd hp h1 h2 =>
    obtain ⟨D, rfl, hD⟩ := fit_decs h1
    obtain ⟨R, rfl, hR⟩ := fit_procs h2
    exact ⟨D, R, rfl, rfl, hD, hR, by rw [decsC_len] at hd; exact hd, by rw [procsC_len] at hp; exact hp⟩
theorem validImage_lo {ds ps : List (List AC)} (h : Fit .image [.sl 3 ds, .sl 5 ps]) : ∃ b, impl_ValidImage [.agg [.sl 3 ds, .sl 5 ps]] = rB b ∧ spec_validImage [.agg [.sl 3 ds, .sl 5 ps]] = rB b := by
  obtain ⟨D, PS, rfl, rfl, hD, hP, hl, _⟩ := fit_image h
  by_cases h4 : PS.length ≤ 4
  rotate_left
  · exact ⟨false, impl_ValidImage_le (bifT (decide_eq_true (by rw [procsC_len]; omega)) rfl), spec_validImage_le (bifT (decide_eq_true (by rw [procsC_len]; omega)) rfl)⟩
  have l4 : decide ((((procsC PS).length : Nat) : Int) > 4) = false := decide_eq_false (by rw [procsC_len]; omega)
  have hR : ∀ x ∈ headsL PS, ROk x := fun x hx => by
    obtain ⟨p, hp, rfl⟩ := List.mem_map.1 hx
    exact headOk (hP p hp)
  have a0 := i_headsOf (decsC D) PS h4
  have b0 := s_sigsOfImage (decsC D) PS h4
  have a1 := i_nSigs D (headsL PS) hD hR hl
  have b1 := s_validSigs D (headsL PS) hD hR hl
  have en : nSigsOk D (headsL PS) = (sigsOk D (headsL PS) && (headsL PS).all lentOk) := by
    unfold nSigsOk
    rw [headsL_len, decide_eq_true h4]
    rfl
  rcases hs : sigsOk D (headsL PS) with _ | _
  · rw [en, hs] at a1
    rw [hs] at b1
    exact ⟨false, impl_ValidImage_le (bifF l4 (callProg a0 (callB a1 (bifT rfl rfl)))), spec_validImage_le (bifF l4 (callProg b0 (callB b1 (bifT rfl rfl))))⟩
  have hv := cv_of_sigs hR (by rw [headsL_len]; exact h4) hs
  rw [hs] at b1
  have sk : ∀ m k : Nat, k + m = PS.length → spec_validImage_L0 (decsC D) (procsC PS) (k : Int) = rB ((PS.drop k).all fun p => lentOk (headR p) && prQ D (headsL PS) p) := by
    intro m
    induction m with
    | zero =>
      intro k hk
      rw [List.drop_eq_nil_of_le (by omega)]
      exact spec_validImage_L0_le (bifF (decide_eq_false (by rw [procsC_len]; omega)) rfl)
    | succ m ih =>
      intro k hk
      have hlt : k < PS.length := by omega
      rw [all_drop hlt, show PS[k] = gP PS k by simp [gP, List.getD, hlt]]
      refine spec_validImage_L0_le (bifT (decide_eq_true (by rw [procsC_len]; omega)) (atProcI rfl hlt (callB (s_validProc hv (gP PS k) (hP _ (gP_mem hlt))) ?_)))
      rcases (lentOk (headR (gP PS k)) && prQ D (headsL PS) (gP PS k)) with _ | _
      · exact bifT rfl rfl
      · rw [wrk (by unfold maxI; omega)]
        exact bifF rfl (ih (k + 1) (by omega))
  have s1 : spec_validImage [.agg [.sl 3 (decsC D), .sl 5 (procsC PS)]] = rB (PS.all fun p => lentOk (headR p) && prQ D (headsL PS) p) := spec_validImage_le (bifF l4 (callProg b0 (callB b1 (bifF rfl (sk PS.length 0 (by omega))))))
  refine ⟨_, ?_, s1⟩
  rcases hq : (headsL PS).all lentOk with _ | _
  · rw [en, hs, hq] at a1
    have e : (PS.all fun p => lentOk (headR p) && prQ D (headsL PS) p) = false := by
      rw [headsL, List.all_map, List.all_eq_false] at hq
      obtain ⟨p, hp, hn⟩ := hq
      rw [List.all_eq_false]
      refine ⟨p, hp, fun hc => hn ?_⟩
      rw [Bool.and_eq_true] at hc
      exact hc.1
    rw [e]
    exact impl_ValidImage_le (bifF l4 (callProg a0 (callB a1 (bifT rfl rfl))))
  · rw [en, hs, hq] at a1
    have hlk : ∀ k, k < PS.length → lentOk (headR (gP PS k)) = true := fun k hk => by
      rw [headsL, List.all_map, List.all_eq_true] at hq
      exact hq _ (gP_mem hk)
    have ik : ∀ m k : Nat, k + m = PS.length → impl_ValidImage_L0 (decsC D) (rousC (headsL PS)) (procsC PS) (((procsC PS).length : Nat) : Int) (k : Int) = rB ((PS.drop k).all fun p => lentOk (headR p) && prQ D (headsL PS) p) := by
      intro m
      induction m with
      | zero =>
        intro k hk
        rw [List.drop_eq_nil_of_le (by omega)]
        exact impl_ValidImage_L0_le (bifF (decide_eq_false (by rw [procsC_len]; omega)) rfl)
      | succ m ih =>
        intro k hk
        have hlt : k < PS.length := by omega
        rw [all_drop hlt, show PS[k] = gP PS k by simp [gP, List.getD, hlt], hlk k hlt]
        refine impl_ValidImage_L0_le (bifT (decide_eq_true (by rw [procsC_len]; omega)) (atProcI rfl hlt (callB (i_validProc hv (gP PS k) (hP _ (gP_mem hlt))) ?_)))
        rcases prQ D (headsL PS) (gP PS k) with _ | _
        · exact bifT rfl rfl
        · rw [wrk (by unfold maxI; omega)]
          exact bifF rfl (ih (k + 1) (by omega))
    exact impl_ValidImage_le (bifF l4 (callProg a0 (callB a1 (bifF rfl (ik PS.length 0 (by omega))))))
end Go.Proofs.YthfihhejbplmfaaGreat
