/- Types of blocks, valid normal forms, plain ones: both sides agree. -/
import Derived.Test.YtbdngmeoohjnoaaGreatQj
set_option linter.unusedVariables false
set_option linter.unusedSimpArgs false
namespace Go.Proofs.YtbdngmeoohjnoaaGreat
open Go
theorem fit_step_all {x : List AC} (h : Fit .step x) : ∃ (o n i : Int) (args : List Int) (kids : List (List AC)), x = [.int o, .int n, .int i, .sl 1 (intsC args), .sl 2 kids] ∧ inI i ∧ IntsOk args ∧ kids.length ≤ maxI ∧ ∀ b ∈ kids, Fit .block b := by
  cases h with
  | step o n i args kids ho hn hi ha hl h => exact ⟨o, n, i, args, kids, rfl, hi, ha, hl, h⟩
theorem fit_block_all {ss : List (List AC)} {r : Int} (h : Fit .block [.sl 5 ss, .int r]) : inI r ∧ ss.length ≤ maxI ∧ ∀ s ∈ ss, Fit .step s := by
  cases h with
  | block steps r hr hl h => exact ⟨hr, hl, h⟩
theorem rsN_mem : ∀ {rs : List (List AC)} {x : List AC}, x ∈ rs → cN x ≤ rsN rs
  | [], _, h => by cases h
  | r :: rs, x, h => by
    rw [rsN_cons]
    rcases List.mem_cons.1 h with rfl | h
    · omega
    · have := rsN_mem h
      omega
section
variable {D : List DM} {R : List RM}
def BlkP (D : List DM) (R : List RM) (b : List AC) : Prop := ∀ G M : List Int, (∀ t ∈ G ++ M, 0 ≤ t ∧ t ≤ D.length) → (G ++ M).length + 4 * cN b ≤ 2147483648 → ∀ ss r, b = [.sl 5 ss, .int r] →
  ∃ t, impl_typeOfBlock [.agg [.sl 3 (decsC D), .sl 5 (rousC R)], .agg [.sl 1 (intsC G), .sl 1 (intsC M)], .agg [.sl 5 ss, .int r]] = rI t ∧ spec_blockType [.agg [.sl 3 (decsC D), .sl 5 (rousC R)], .cell (.sl 1 (intsC (G ++ M))), .agg [.sl 5 ss, .int r]] = rI t ∧ okT D t
theorem blk_fit (hv : CV D R) : ∀ {t : Ty} {x : List AC}, Fit t x → (match t with
    | .block => BlkP D R x
    | .step => ∀ o n i a kids, x = [.int o, .int n, .int i, .sl 1 a, .sl 2 kids] → ∀ b ∈ kids, BlkP D R b
    | _ => True) := by
  intro t x h
  induction h with
  | block steps r hr hl h ih =>
    intro G M hty hlen ss rr e
    cases e
    rw [cN_block] at hlen
    have key : ∀ (m k : Nat) (M' : List Int), k + m = steps.length → (∀ t ∈ G ++ M', 0 ≤ t ∧ t ≤ D.length) → (G ++ M').length ≤ (G ++ M).length + k →
        ∃ t, impl_typeOfBlock_L0 (decsC D) (rousC R) steps r (intsC G) (intsC M') steps ((steps.length : Nat) : Int) (k : Int) = rI t ∧ spec_blockType_L0 (decsC D) (rousC R) steps r (intsC (G ++ M')) (k : Int) = rI t ∧ okT D t := by
      intro m
      induction m with
      | zero =>
        intro k M' hk ht hl'
        have hV : VV D (G ++ M') := ⟨by omega, ht⟩
        have hVl := hV.len
        rw [List.length_append] at hVl
        refine ⟨tv (G ++ M') r, ?_, ?_, tv_ty hV r⟩
        · exact impl_typeOfBlock_L0_le (bifF (decide_eq_false (by omega)) (callI (i_typeOfVar G M' (by omega) (by omega) hr) rfl))
        · refine spec_blockType_L0_le (bifF (decide_eq_false (by omega)) (callB (s_inRange _ _ _) ?_))
          have hVl2 := hV.len
          rw [intsC_len, wr (by omega) (by omega)]
          by_cases hq : 0 ≤ r ∧ r < (G ++ M').length
          · rw [decide_eq_true hq.1, decide_eq_true (show r ≤ ((G ++ M').length : Int) - 1 by omega), tv_in hq]
            exact bifF rfl (atNumI (k := r.toNat) (by omega) (by omega) rfl)
          · rw [tv_out hq]
            refine bifT ?_ rfl
            rw [Bool.not_eq_true', Bool.and_eq_false_iff, decide_eq_false_iff_not, decide_eq_false_iff_not]
            omega
      | succ m ihm =>
        intro k M' hk ht hl'
        have hV : VV D (G ++ M') := ⟨by omega, ht⟩
        have hVl := hV.len
        rw [List.length_append] at hVl
        have hlt : k < steps.length := by omega
        obtain ⟨o, n, i, args, kids, e, hi, ha, hkl, hkb⟩ := fit_step_all (h _ (mem_getD hlt []))
        have hkids : ∀ b ∈ kids, BlkP D R b := ih _ (mem_getD hlt []) _ _ _ _ _ e
        have hN : rsN kids ≤ rsN steps := by
          have h1 := rsN_mem (mem_getD hlt [])
          rw [e, cN_step] at h1
          exact h1
        have w1 : wrapI ((k : Int) + 1) = ((k + 1 : Nat) : Int) := wrk (by omega)
        by_cases hc : 14 ≤ o ∧ o ≤ 17
        · have h1 := i_validCounting hv G M' args hV ha kids o n i hc
          have h2 := s_stepCnt hv (G ++ M') args hV ha kids o n i hi hc
          rcases hcn : cntM D (G ++ M') o n i args kids with _ | _
          · rw [hcn] at h1 h2
            refine ⟨-1, ?_, ?_, .inl rfl⟩
            · refine impl_typeOfBlock_L0_le (bifT (decide_eq_true (by omega)) (atStep hlt e (callB (i_isCounting o) ?_)))
              rw [decide_eq_true hc]
              exact bifT rfl (callB h1 (bifT rfl rfl))
            · exact spec_blockType_L0_le (bifT (decide_eq_true (by omega)) (atStep hlt e (callI h2 (bifT rfl rfl))))
          · rw [hcn] at h1 h2
            obtain ⟨t, g1, g2, g3⟩ := ihm (k + 1) M' (by omega) ht (by omega)
            refine ⟨t, ?_, ?_, g3⟩
            · refine impl_typeOfBlock_L0_le (bifT (decide_eq_true (by omega)) (atStep hlt e (callB (i_isCounting o) ?_)))
              rw [decide_eq_true hc, w1]
              exact bifT rfl (callB h1 (bifF rfl g1))
            · refine spec_blockType_L0_le (bifT (decide_eq_true (by omega)) (atStep hlt e (callI h2 (bifF rfl (atStep hlt e (callB (s_defines o) ?_))))))
              rw [decide_eq_false (show ¬ o ≤ 11 by omega), w1]
              exact bifF (by simp) g2
        · have hs : ∃ t, impl_typeOfStep [.agg [.sl 3 (decsC D), .sl 5 (rousC R)], .agg [.sl 1 (intsC G), .sl 1 (intsC M')], .agg [.int o, .int n, .int i, .sl 1 (intsC args), .sl 2 kids]] = rI t ∧ spec_stepType [.agg [.sl 3 (decsC D), .sl 5 (rousC R)], .cell (.sl 1 (intsC (G ++ M'))), .agg [.int o, .int n, .int i, .sl 1 (intsC args), .sl 2 kids]] = rI t ∧ okT D t ∧ (t = -1 ∨ (0 ≤ o ∧ o ≤ 11)) := by
            by_cases hch : o = 7 ∨ o = 8
            · obtain ⟨t, g1, g2, g3⟩ := choice_ex hv G M' args hV ha kids hkl (fun j hj => fit_Block (hkb _ (mem_getD hj []))) o n i hi hch (fun j hj fs hf hft ss r e => by
                have hmem := mem_getD hj []
                have hcN := rsN_mem hmem
                refine hkids _ hmem G (M' ++ fs) (fun t hq => ?_) ?_ ss r e
                · rw [← List.append_assoc] at hq
                  rcases List.mem_append.1 hq with hq | hq
                  · exact ht t hq
                  · exact hft t hq
                · rw [← List.append_assoc, List.length_append]
                  omega)
              exact ⟨t, g1, g2, g3, .inr (by omega)⟩
            · exact ⟨_, i_typeOfStep hv G M' args kids o n i hV.len ha hi (fun h => hch (.inl h)) (fun h => hch (.inr h)), s_stepType hv (G ++ M') args hV.len ha kids o n i hi (fun h => hch (.inl h)) (fun h => hch (.inr h)) hc, tM_ok hv _ _ _ _ _ _, tM_op _ _ _ _ _ _⟩
          obtain ⟨t, g1, g2, g3, g4⟩ := hs
          by_cases hneg : t < 0
          · refine ⟨-1, ?_, ?_, .inl rfl⟩
            · refine impl_typeOfBlock_L0_le (bifT (decide_eq_true (by omega)) (atStep hlt e (callB (i_isCounting o) ?_)))
              rw [decide_eq_false hc]
              exact bifF rfl (callI g1 (bifT (decide_eq_true hneg) rfl))
            · exact spec_blockType_L0_le (bifT (decide_eq_true (by omega)) (atStep hlt e (callI g2 (bifT (decide_eq_true hneg) rfl))))
          · have ho : 0 ≤ o ∧ o ≤ 11 := by omega
            have htt : 0 ≤ t ∧ t ≤ D.length := by unfold okT at g3; omega
            obtain ⟨u, q1, q2, q3⟩ := ihm (k + 1) (M' ++ [t]) (by omega) (fun x hx => by
              rw [← List.append_assoc] at hx
              rcases List.mem_append.1 hx with hx | hx
              · exact ht x hx
              · rw [List.mem_singleton.1 hx]
                exact htt) (by rw [← List.append_assoc, List.length_append]; simp only [List.length_singleton]; omega)
            refine ⟨u, ?_, ?_, q3⟩
            · refine impl_typeOfBlock_L0_le (bifT (decide_eq_true (by omega)) (atStep hlt e (callB (i_isCounting o) ?_)))
              rw [decide_eq_false hc, w1]
              exact bifF rfl (callI g1 (bifF (decide_eq_false hneg) (callBd (i_bind G M' [t] (by simp only [List.length_singleton]; omega)) q1)))
            · refine spec_blockType_L0_le (bifT (decide_eq_true (by omega)) (atStep hlt e (callI g2 (bifF (decide_eq_false hneg) (atStep hlt e (callB (s_defines o) ?_))))))
              rw [decide_eq_true ho.1, decide_eq_true ho.2, w1]
              refine bifT rfl (appTo (by rw [intsC_len]; simp only [List.length_singleton]; have := hV.len; omega) ?_)
              rw [show intsC (G ++ M') ++ [[.int t]] = intsC (G ++ (M' ++ [t])) by simp [intsC]]
              exact q2
    obtain ⟨t, h1, h2, h3⟩ := key steps.length 0 M (by omega) hty (by omega)
    refine ⟨t, impl_typeOfBlock_le h1, spec_blockType_le (callS (s_copyInts (G ++ M) (by omega)) h2), h3⟩
  | step o n i args kids ho hn hi ha hl h ih =>
    intro o' n' i' a' k' e b hb
    cases e
    exact ih b hb
  | _ => trivial
def PlP (b : List AC) : Prop := ∀ ss r, b = [.sl 5 ss, .int r] → ∃ p, impl_isPlainBlock [.agg [.sl 5 ss, .int r]] = rB p ∧ spec_plainSteps [.agg [.sl 5 ss, .int r]] = rB p
theorem plain_fit : ∀ {t : Ty} {x : List AC}, Fit t x → (match t with
    | .block => PlP x
    | .step => ∀ o n i a kids, x = [.int o, .int n, .int i, .sl 1 a, .sl 2 kids] → ∀ b ∈ kids, PlP b
    | _ => True) := by
  intro t x h
  induction h with
  | block steps r hr hl h ih =>
    intro ss rr e
    cases e
    have key : ∀ m k : Nat, k + m = steps.length → ∃ p, impl_isPlainBlock_L0 steps ((steps.length : Nat) : Int) (k : Int) = rB p ∧ spec_plainSteps_L0 steps r (k : Int) = rB p := by
      intro m
      induction m with
      | zero =>
        intro k hk
        exact ⟨true, impl_isPlainBlock_L0_le (bifF (decide_eq_false (by omega)) rfl), spec_plainSteps_L0_le (bifF (decide_eq_false (by omega)) rfl)⟩
      | succ m ihm =>
        intro k hk
        have hlt : k < steps.length := by omega
        obtain ⟨o, n, i, args, kids, e, hi, ha, hkl, hkb⟩ := fit_step_all (h _ (mem_getD hlt []))
        have hkids : ∀ b ∈ kids, PlP b := ih _ (mem_getD hlt []) _ _ _ _ _ e
        have w1 : wrapI ((k : Int) + 1) = ((k + 1 : Nat) : Int) := wrk (by omega)
        by_cases hc : 14 ≤ o ∧ o ≤ 17
        · refine ⟨false, impl_isPlainBlock_L0_le (bifT (decide_eq_true (by omega)) (atStep hlt e (callB (i_isCounting o) ?_))), spec_plainSteps_L0_le (bifT (decide_eq_true (by omega)) (atStep hlt e (callB (s_isCounting o) ?_)))⟩
          · rw [decide_eq_true hc]; exact bifT rfl rfl
          · rw [decide_eq_true hc]; exact bifT rfl rfl
        by_cases h0 : i = 0
        rotate_left
        · refine ⟨false, impl_isPlainBlock_L0_le (bifT (decide_eq_true (by omega)) (atStep hlt e (callB (i_isCounting o) ?_))), spec_plainSteps_L0_le (bifT (decide_eq_true (by omega)) (atStep hlt e (callB (s_isCounting o) ?_)))⟩
          · rw [decide_eq_false hc]; exact bifF rfl (bifT (net h0) rfl)
          · rw [decide_eq_false hc]; exact bifF rfl (atStep hlt e (bifT (net h0) rfl))
        obtain ⟨p0, z1, z2⟩ := ihm (k + 1) (by omega)
        have key2 : ∀ m2 j : Nat, j + m2 = kids.length → ∃ p, impl_isPlainBlock_L2 steps ((steps.length : Nat) : Int) (k : Int) kids ((kids.length : Nat) : Int) (j : Int) = rB p ∧ spec_plainSteps_L2 steps r (k : Int) (j : Int) = rB p := by
          intro m2
          induction m2 with
          | zero =>
            intro j hj
            refine ⟨p0, impl_isPlainBlock_L2_le (bifF (decide_eq_false (by omega)) ?_), spec_plainSteps_L2_le (atStep hlt e (bifF (decide_eq_false (by omega)) ?_))⟩
            · rw [w1]; exact z1
            · rw [w1]; exact z2
          | succ m2 ih2 =>
            intro j hj
            have hltj : j < kids.length := by omega
            obtain ⟨ss, rr, eb⟩ := fit_Block (hkb _ (mem_getD hltj []))
            obtain ⟨p, y1, y2⟩ := hkids _ (mem_getD hltj []) ss rr eb
            cases p with
            | false => exact ⟨false, impl_isPlainBlock_L2_le (bifT (decide_eq_true (by omega)) (atBlock hltj eb (callB y1 (bifT rfl rfl)))), spec_plainSteps_L2_le (atStep hlt e (bifT (decide_eq_true (by omega)) (atStep hlt e (atBlock hltj eb (callB y2 (bifT rfl rfl))))))⟩
            | true =>
              obtain ⟨q, x1, x2⟩ := ih2 (j + 1) (by omega)
              have w2 : wrapI ((j : Int) + 1) = ((j + 1 : Nat) : Int) := wrk (by omega)
              refine ⟨q, impl_isPlainBlock_L2_le (bifT (decide_eq_true (by omega)) (atBlock hltj eb (callB y1 (bifF rfl ?_)))), spec_plainSteps_L2_le (atStep hlt e (bifT (decide_eq_true (by omega)) (atStep hlt e (atBlock hltj eb (callB y2 (bifF rfl ?_))))))⟩
              · rw [w2]; exact x1
              · rw [w2]; exact x2
        obtain ⟨p, x1, x2⟩ := key2 kids.length 0 (by omega)
        refine ⟨p, impl_isPlainBlock_L0_le (bifT (decide_eq_true (by omega)) (atStep hlt e (callB (i_isCounting o) ?_))), spec_plainSteps_L0_le (bifT (decide_eq_true (by omega)) (atStep hlt e (callB (s_isCounting o) ?_)))⟩
        · rw [decide_eq_false hc]; exact bifF rfl (bifF (nef h0) x1)
        · rw [decide_eq_false hc]; exact bifF rfl (atStep hlt e (bifF (nef h0) x2))
    obtain ⟨p, h1, h2⟩ := key steps.length 0 (by omega)
    exact ⟨p, impl_isPlainBlock_le h1, spec_plainSteps_le h2⟩
  | step o n i args kids ho hn hi ha hl h ih =>
    intro o' n' i' a' k' e b hb
    cases e
    exact ih b hb
  | _ => trivial
end
theorem fit_normal {ds rs : List (List AC)} (h : Fit .normal [.sl 3 ds, .sl 5 rs]) : ∃ D R, ds = decsC D ∧ rs = rousC R ∧ (∀ d ∈ D, DOk d) ∧ (∀ x ∈ R, ROk x) ∧ D.length ≤ maxI ∧ R.length ≤ maxI := by
  cases h with
  | normal ds rs hd hr h1 h2 =>
    obtain ⟨D, rfl, hD⟩ := fit_decs h1
    obtain ⟨R, rfl, hR⟩ := fit_rous h2
    exact ⟨D, R, rfl, rfl, hD, hR, by rw [decsC_len] at hd; exact hd, by rw [rousC_len] at hr; exact hr⟩
theorem blockType_ex {ds rs : List (List AC)} (h : Fit .normal [.sl 3 ds, .sl 5 rs]) {G : List Int} (hG : G.length ≤ 1048576) {ss : List (List AC)} {r : Int} (hb : Fit .block [.sl 5 ss, .int r]) :
    ∃ t, impl_BlockType [.agg [.sl 3 ds, .sl 5 rs], .cell (.sl 1 (intsC G)), .agg [.sl 5 ss, .int r]] = rI t ∧ spec_BlockType [.agg [.sl 3 ds, .sl 5 rs], .cell (.sl 1 (intsC G)), .agg [.sl 5 ss, .int r]] = rI t := by
  obtain ⟨D, R, rfl, rfl, hD, hR, hl, _⟩ := fit_normal h
  have a1 := i_nSigs D R hD hR hl
  have a2 := s_nSigs D R hD hR hl
  rcases hn : nSigsOk D R with _ | _
  · rw [hn] at a1 a2
    exact ⟨-1, impl_BlockType_le (callB a1 (bifT rfl rfl)), spec_BlockType_le (callB a2 (bifT rfl rfl))⟩
  rw [hn] at a1 a2
  have hv := cv_of hR hn
  have b1 := i_areTypes D G (by unfold maxI; omega)
  have b2 := s_allTypes D G (by unfold maxI; omega)
  rcases ht : G.all (isTy D) with _ | _
  · rw [ht] at b1 b2
    exact ⟨-1, impl_BlockType_le (callB a1 (bifF rfl (callB b1 (bifT rfl rfl)))), spec_BlockType_le (callB a2 (bifF rfl (callB b2 (bifT rfl rfl))))⟩
  rw [ht] at b1 b2
  have c1 := i_stepsOf hb
  have c2 := s_stepsOf hb
  by_cases hs : stepsM [.sl 5 ss, .int r] < 0
  · exact ⟨-1, impl_BlockType_le (callB a1 (bifF rfl (callB b1 (bifF rfl (callI c1 (bifT (decide_eq_true hs) rfl)))))), spec_BlockType_le (callB a2 (bifF rfl (callB b2 (bifF rfl (callI c2 (bifT (decide_eq_true hs) rfl))))))⟩
  have h6 : cN [.sl 5 ss, .int r] ≤ 600 := by
    unfold stepsM at hs
    split at hs
    · assumption
    · omega
  obtain ⟨t, d1, d2, _⟩ := blk_fit hv hb G [] (by
    rw [List.append_nil]
    intro t hq
    exact isTy_iff.1 (List.all_eq_true.1 ht t hq)) (by rw [List.append_nil]; omega) ss r rfl
  rw [List.append_nil] at d2
  exact ⟨t, impl_BlockType_le (callB a1 (bifF rfl (callB b1 (bifF rfl (callI c1 (bifF (decide_eq_false hs) (callI d1 rfl))))))), spec_BlockType_le (callB a2 (bifF rfl (callB b2 (bifF rfl (callI c2 (bifF (decide_eq_false hs) (callI d2 rfl)))))))⟩
theorem validNormal_ex {ds rs : List (List AC)} (h : Fit .normal [.sl 3 ds, .sl 5 rs]) : ∃ b, impl_ValidNormal [.agg [.sl 3 ds, .sl 5 rs]] = rB b ∧ spec_validNormal [.agg [.sl 3 ds, .sl 5 rs]] = rB b := by
  obtain ⟨D, R, rfl, rfl, hD, hR, hl, _⟩ := fit_normal h
  have a1 := i_nSigs D R hD hR hl
  have a2 := s_nSigs D R hD hR hl
  rcases hn : nSigsOk D R with _ | _
  · rw [hn] at a1 a2
    exact ⟨false, impl_ValidNormal_le (callB a1 (bifT rfl rfl)), spec_validNormal_le (callB a2 (bifT rfl rfl))⟩
  rw [hn] at a1 a2
  have hv := cv_of hR hn
  have h4 := hv.rl
  have key : ∀ m k : Nat, k + m = R.length → ∃ b, impl_ValidNormal_L0 (decsC D) (rousC R) (rousC R) (((rousC R).length : Nat) : Int) (k : Int) = rB b ∧ spec_validNormal_L0 (decsC D) (rousC R) (k : Int) = rB b := by
    intro m
    induction m with
    | zero =>
      intro k hk
      exact ⟨true, impl_ValidNormal_L0_le (bifF (decide_eq_false (by rw [rousC_len]; omega)) rfl), spec_validNormal_L0_le (bifF (decide_eq_false (by rw [rousC_len]; omega)) rfl)⟩
    | succ m ih =>
      intro k hk
      have hlt : k < R.length := by omega
      have hb := (hR _ (gR_mem hlt)).b
      have hp := hv.ps k hlt
      have c1 := i_stepsOf hb
      have c2 := s_stepsOf hb
      have l1 : decide ((k : Int) < (((rousC R).length : Nat) : Int)) = true := decide_eq_true (by rw [rousC_len]; omega)
      by_cases hs : stepsM [.sl 5 (gR R k).steps, .int (gR R k).res] < 0
      · exact ⟨false, impl_ValidNormal_L0_le (bifT l1 (atRouI rfl hlt (callI c1 (bifT (decide_eq_true hs) rfl)))), spec_validNormal_L0_le (bifT l1 (atRouI rfl hlt (callI c2 (bifT (decide_eq_true hs) rfl))))⟩
      have h6 : cN [.sl 5 (gR R k).steps, .int (gR R k).res] ≤ 600 := by
        unfold stepsM at hs
        split at hs
        · assumption
        · omega
      obtain ⟨t, d1, d2, _⟩ := blk_fit hv hb (gR R k).ps [] (by rw [List.append_nil]; exact hp.2) (by rw [List.append_nil]; omega) _ _ rfl
      rw [List.append_nil] at d2
      by_cases hq : t = (gR R k).r
      · obtain ⟨b, g1, g2⟩ := ih (k + 1) (by omega)
        have w1 : wrapI ((k : Int) + 1) = ((k + 1 : Nat) : Int) := wrk (by unfold maxI; omega)
        refine ⟨b, impl_ValidNormal_L0_le (bifT l1 (atRouI rfl hlt (callI c1 (bifF (decide_eq_false hs) (callI d1 (bifF (nef hq) ?_)))))), spec_validNormal_L0_le (bifT l1 (atRouI rfl hlt (callI c2 (bifF (decide_eq_false hs) (callI d2 (bifF (nef hq) ?_))))))⟩
        · rw [w1]; exact g1
        · rw [w1]; exact g2
      · exact ⟨false, impl_ValidNormal_L0_le (bifT l1 (atRouI rfl hlt (callI c1 (bifF (decide_eq_false hs) (callI d1 (bifT (net hq) rfl)))))), spec_validNormal_L0_le (bifT l1 (atRouI rfl hlt (callI c2 (bifF (decide_eq_false hs) (callI d2 (bifT (net hq) rfl))))))⟩
  obtain ⟨b, h1, h2⟩ := key R.length 0 (by omega)
  exact ⟨b, impl_ValidNormal_le (callB a1 (bifF rfl h1)), spec_validNormal_le (callB a2 (bifF rfl h2))⟩
theorem isPlain_ex {ds rs : List (List AC)} (h : Fit .normal [.sl 3 ds, .sl 5 rs]) : ∃ b, impl_IsPlain [.agg [.sl 3 ds, .sl 5 rs]] = rB b ∧ spec_IsPlain [.agg [.sl 3 ds, .sl 5 rs]] = rB b := by
  obtain ⟨b0, v1, v2⟩ := validNormal_ex h
  cases b0 with
  | false => exact ⟨false, impl_IsPlain_le (callB v1 (bifT rfl rfl)), spec_IsPlain_le (callB (spec_isPlain_le (callB v2 (bifT rfl rfl))) rfl)⟩
  | true =>
  obtain ⟨D, R, rfl, rfl, hD, hR, hl, hr⟩ := fit_normal h
  have key : ∀ m k : Nat, k + m = R.length → ∃ b, impl_IsPlain_L0 (rousC R) (((rousC R).length : Nat) : Int) (k : Int) = rB b ∧ spec_isPlain_L0 (decsC D) (rousC R) (k : Int) = rB b := by
    intro m
    induction m with
    | zero =>
      intro k hk
      exact ⟨true, impl_IsPlain_L0_le (bifF (decide_eq_false (by rw [rousC_len]; omega)) rfl), spec_isPlain_L0_le (bifF (decide_eq_false (by rw [rousC_len]; omega)) rfl)⟩
    | succ m ih =>
      intro k hk
      have hlt : k < R.length := by omega
      have l1 : decide ((k : Int) < (((rousC R).length : Nat) : Int)) = true := decide_eq_true (by rw [rousC_len]; omega)
      obtain ⟨p, y1, y2⟩ := plain_fit (hR _ (gR_mem hlt)).b _ _ rfl
      cases p with
      | false => exact ⟨false, impl_IsPlain_L0_le (bifT l1 (atRouI rfl hlt (callB y1 (bifT rfl rfl)))), spec_isPlain_L0_le (bifT l1 (atRouI rfl hlt (callB y2 (bifT rfl rfl))))⟩
      | true =>
        obtain ⟨b, g1, g2⟩ := ih (k + 1) (by omega)
        have w1 : wrapI ((k : Int) + 1) = ((k + 1 : Nat) : Int) := wrk (by omega)
        refine ⟨b, impl_IsPlain_L0_le (bifT l1 (atRouI rfl hlt (callB y1 (bifF rfl ?_)))), spec_isPlain_L0_le (bifT l1 (atRouI rfl hlt (callB y2 (bifF rfl ?_))))⟩
        · rw [w1]; exact g1
        · rw [w1]; exact g2
  obtain ⟨b, h1, h2⟩ := key R.length 0 (by omega)
  exact ⟨b, impl_IsPlain_le (callB v1 (bifF rfl h1)), spec_IsPlain_le (callB (spec_isPlain_le (callB v2 (bifF rfl h2))) rfl)⟩
end Go.Proofs.YtbdngmeoohjnoaaGreat
