/- Instructions, procedures, images: spec's functions of validity, and that impl's agree with them. -/
import Derived.Test.YthfihhejbplmfaaGreatQm
set_option linter.unusedVariables false
set_option linter.unusedSimpArgs false
namespace Go.Proofs.YthfihhejbplmfaaGreat
open Go
def setS (o : Int) : Bool := decide (0 ≤ o ∧ o ≤ 11 ∧ o ≠ 7 ∧ o ≠ 8) || (o == 18 || o == 19)
theorem s_sets (o : Int) : spec_sets [.cell (.int o)] = rB (setS o) := by
  refine spec_sets_le (callB (s_defines o) ?_)
  unfold setS
  have tl : ∀ X : Option AV, X = (bif o == 18 then rB true else rB (o == 19)) → X = rB (false || (o == 18 || o == 19)) := by
    intro X hX
    rw [hX]
    by_cases h : o = 18
    · exact bifT (eqt h) (rB_congr (by simp [h]))
    · exact bifF (eqf h) (rB_congr (by simp [h]))
  by_cases hd : 0 ≤ o ∧ o ≤ 11
  rotate_left
  · rw [decide_eq_false (show ¬ (0 ≤ o ∧ o ≤ 11 ∧ o ≠ 7 ∧ o ≠ 8) by omega)]
    refine bifF ?_ (tl _ rfl)
    rw [Bool.and_eq_false_iff, decide_eq_false_iff_not, decide_eq_false_iff_not]
    omega
  refine bifT (by simp [hd.1, hd.2]) ?_
  by_cases h7 : o = 7
  · rw [decide_eq_false (show ¬ (0 ≤ o ∧ o ≤ 11 ∧ o ≠ 7 ∧ o ≠ 8) by omega)]
    exact bifF (nef h7) (tl _ rfl)
  by_cases h8 : o = 8
  · rw [decide_eq_false (show ¬ (0 ≤ o ∧ o ≤ 11 ∧ o ≠ 7 ∧ o ≠ 8) by omega)]
    exact bifT (net h7) (bifF (nef h8) (tl _ rfl))
  rw [decide_eq_true (show 0 ≤ o ∧ o ≤ 11 ∧ o ≠ 7 ∧ o ≠ 8 by omega)]
  exact bifT (net h7) (bifT (net h8) rfl)
theorem inR_iff {a b n : Int} (h : ¬ (a ≤ n ∧ n ≤ b)) : (decide (a ≤ n) && decide (n ≤ b)) = false := by
  rw [Bool.and_eq_false_iff, decide_eq_false_iff_not, decide_eq_false_iff_not]
  omega
theorem s_procWith (ds : List (List AC)) (PS : List PM) (h4 : PS.length ≤ 4) (hp : ∀ k, k < PS.length → (gP PS k).ps.length ≤ 3) (n m t : Int) (hm : 0 ≤ m ∧ m ≤ 9223372036854775807) (ht : t = 0 ∨ t = 1) : spec_procWith [.agg [.sl 3 ds, .sl 5 (procsC PS)], .cell (.int n), .cell (.int m), .cell (.int t)] = rB (decide (0 ≤ n ∧ n < PS.length) && (((gP PS n.toNat).ps.length : Int) == m + t)) := by
  refine spec_procWith_le (callB (s_inRange _ _ _) ?_)
  rw [procsC_len, wr (n := (PS.length : Int) - 1) (by omega) (by omega)]
  by_cases h : 0 ≤ n ∧ n < PS.length
  · rw [decide_eq_true h]
    refine bifT (by rw [decide_eq_true h.1, decide_eq_true (show n ≤ (PS.length : Int) - 1 by omega)]; rfl) (atProcI (k := n.toNat) (by omega) (by omega) (rB_congr ?_))
    have h3 := hp n.toNat (by omega)
    rw [intsC_len]
    by_cases ho : m + t ≤ 9223372036854775807
    · rw [wr (by omega) (by omega)]
      rfl
    · have e : m + t = 9223372036854775808 := by omega
      rw [e, eqf (by have : wrapI 9223372036854775808 = -9223372036854775808 := by decide
                     omega), eqf (by omega)]
      rfl
  · rw [decide_eq_false h]
    exact bifF (inR_iff (by omega)) rfl
theorem s_validJumps (js : List Int) (hj : js.length ≤ maxI) (many k len : Nat) (hk : k ≤ 2000) (hl : len ≤ 2000) : spec_validJumps [.cell (.sl 1 (intsC js)), .cell (.int (many : Int)), .cell (.int (k : Int)), .cell (.int (len : Int))] = rB (((js.length : Int) == (many : Int)) && js.all (laterM k len)) := by
  refine spec_validJumps_le ?_
  rw [intsC_len]
  by_cases h : (js.length : Int) = (many : Int)
  rotate_left
  · rw [eqf h]
    exact bifT (net h) rfl
  rw [eqt h]
  refine bifF (nef h) ?_
  have w1 : wrapI ((k : Int) + 1) = (k : Int) + 1 := wr (by omega) (by omega)
  have w2 : wrapI ((len : Int) - 1) = (len : Int) - 1 := wr (by omega) (by omega)
  have key : ∀ m j : Nat, j + m = js.length → spec_validJumps_L0 (intsC js) (many : Int) (k : Int) (len : Int) (j : Int) = rB ((js.drop j).all (laterM k len)) := by
    intro m
    induction m with
    | zero =>
      intro j hj
      rw [List.drop_eq_nil_of_le (by omega)]
      exact spec_validJumps_L0_le (bifF (decide_eq_false (by omega)) rfl)
    | succ m ih =>
      intro j hj
      have hlt : j < js.length := by omega
      rw [all_drop hlt]
      refine spec_validJumps_L0_le (bifT (decide_eq_true (by omega)) (atNum hlt ?_))
      rw [w1, w2]
      refine callB (s_inRange _ _ _) ?_
      change (bif !(laterM k len js[j]) then rB false else _) = rB (laterM k len js[j] && _)
      rcases laterM k len js[j] with _ | _
      · exact bifT rfl rfl
      · rw [wrk (by omega)]
        exact bifF rfl (ih (j + 1) (by omega))
  exact key js.length 0 (by omega)
def opS (D : List DM) (R : List RM) (k len : Nat) (o n : Int) (m : Nat) (i regs : Int) (js : List Int) : Bool := (numM D R k len o n && argM D R o n m) && ((if o = 6 then decide (0 ≤ i) && decide (i ≤ regs) else true) && (if o = 21 then jmpA D k len n js else true))
theorem fin2c {X : Option AV} {a b : Bool} (hX : X = rB b) : (bif a then X else rB false : Option AV) = rB ((b && a) && (true && true)) := by
  rw [hX]
  cases a <;> cases b <;> rfl
theorem beq_swap (a b : Int) : (a == b + 0) = (b == a) := by
  by_cases h : a = b
  · simp [h]
  · rw [eqf (by omega), eqf (fun e => h e.symm)]
section
variable {D : List DM} {PS : List PM}
set_option maxHeartbeats 2000000 in
theorem s_J10 (hv : CV D (headsL PS)) (X : List IM) (ps lent : List (List AC)) (r regs : Int) {k : Nat} (hk : k < X.length) (hX : X.length ≤ 2000) (o d n i : Int) (args js : List Int) (ha : args.length ≤ maxI) (hj : js.length ≤ maxI) (ho : InsOp o) :
    spec_validInstr_J10 (k : Int) (decsC D) (procsC PS) ps lent r regs (codeC X) o d n i (intsC args) (intsC js) ((args.length : Nat) : Int) = rB (opS D (headsL PS) k X.length o n args.length i regs js) := by
  have h4 : PS.length ≤ 4 := by have := hv.rl; rw [headsL_len] at this; exact this
  have hD := hv.dv.len
  have w1 : wrapI ((k : Int) + 1) = (k : Int) + 1 := wr (by omega) (by omega)
  have w2 : wrapI ((X.length : Int) - 1) = (X.length : Int) - 1 := wr (by omega) (by omega)
  have hp : ∀ k, k < PS.length → (gP PS k).ps.length ≤ 3 := fun k hk => by
    have := (hv.ps k (by rw [headsL_len]; exact hk)).1
    rw [gR_head hk] at this
    exact this
  have hmx : (args.length : Int) ≤ 9223372036854775807 := by unfold maxI at ha; omega
  refine spec_validInstr_J10_le ?_
  unfold InsOp at ho
  rcases ho with rfl | rfl | rfl | rfl | rfl | rfl | rfl | rfl | rfl | rfl | rfl | rfl | rfl | rfl | rfl | rfl | rfl | rfl | rfl | rfl | rfl
  · repeat (first | refine bifF rfl ?_ | refine bifT rfl ?_ | refine spec_validInstr_J18_le ?_ | refine spec_validInstr_J24_le ?_ | refine spec_validInstr_J29_le ?_ | refine spec_validInstr_J34_le ?_)
    exact fin2c (callB (s_inRange n (-999) 999) rfl)
  · repeat (first | refine bifF rfl ?_ | refine bifT rfl ?_ | refine spec_validInstr_J18_le ?_ | refine spec_validInstr_J24_le ?_ | refine spec_validInstr_J29_le ?_ | refine spec_validInstr_J34_le ?_)
    exact fin2c rfl
  · repeat (first | refine bifF rfl ?_ | refine bifT rfl ?_ | refine spec_validInstr_J18_le ?_ | refine spec_validInstr_J24_le ?_ | refine spec_validInstr_J29_le ?_ | refine spec_validInstr_J34_le ?_)
    exact fin2c rfl
  · repeat (first | refine bifF rfl ?_ | refine bifT rfl ?_ | refine spec_validInstr_J18_le ?_ | refine spec_validInstr_J24_le ?_ | refine spec_validInstr_J29_le ?_ | refine spec_validInstr_J34_le ?_)
    exact fin2c rfl
  · repeat (first | refine bifF rfl ?_ | refine bifT rfl ?_ | refine spec_validInstr_J18_le ?_ | refine spec_validInstr_J24_le ?_ | refine spec_validInstr_J29_le ?_ | refine spec_validInstr_J34_le ?_)
    exact fin2c rfl
  · repeat (first | refine bifF rfl ?_ | refine bifT rfl ?_ | refine spec_validInstr_J18_le ?_ | refine spec_validInstr_J24_le ?_ | refine spec_validInstr_J29_le ?_ | refine spec_validInstr_J34_le ?_)
    exact fin2c rfl
  · repeat (first | refine bifF rfl ?_ | refine bifT rfl ?_ | refine spec_validInstr_J18_le ?_ | refine spec_validInstr_J24_le ?_ | refine spec_validInstr_J29_le ?_ | refine spec_validInstr_J34_le ?_)
    have e : opS D (headsL PS) k X.length 6 n args.length i regs js = ((decide (0 ≤ conT D n) && ((args.length : Int) == ((fld D n).length : Int))) && ((decide (0 ≤ i) && decide (i ≤ regs)) && true)) := rfl
    rw [e]
    refine callI (s_conType hv.dv n) ?_
    by_cases hq : conT D n < 0
    · rw [decide_eq_false (show ¬ 0 ≤ conT D n by omega)]
      exact bifF (decide_eq_false (by omega)) rfl
    have h1 : 1 ≤ conT D n := by
      rcases conT_cases (D := D) n with h0 | ⟨j, i, hj, he, _⟩ <;> omega
    have hf := s_conFields hv.dv n
    rw [if_neg (by omega)] at hf
    rw [decide_eq_true (show 0 ≤ conT D n by omega)]
    refine bifT (decide_eq_true (by omega)) (callS hf ?_)
    rw [intsC_len]
    rcases ((args.length : Int) == ((fld D n).length : Int)) with _ | _
    · exact bifF rfl rfl
    · exact bifT rfl (callB (s_inRange i 0 regs) (rB_congr (by simp)))
  · repeat (first | refine bifF rfl ?_ | refine bifT rfl ?_ | refine spec_validInstr_J18_le ?_ | refine spec_validInstr_J24_le ?_ | refine spec_validInstr_J29_le ?_ | refine spec_validInstr_J34_le ?_)
    have e : opS D (headsL PS) k X.length 9 n args.length i regs js = ((decide (0 ≤ n ∧ n < (headsL PS).length) && ((args.length : Int) == ((gR (headsL PS) n.toNat).ps.length : Int))) && (true && true)) := rfl
    rw [e, headsL_len]
    refine callB (s_procWith _ PS h4 hp n _ 0 ⟨by omega, hmx⟩ (.inl rfl)) (rB_congr ?_)
    by_cases h : 0 ≤ n ∧ n < PS.length
    · rw [decide_eq_true h, gR_head (by omega), beq_swap]
      simp [headR]
    · rw [decide_eq_false h]
      rfl
  · repeat (first | refine bifF rfl ?_ | refine bifT rfl ?_ | refine spec_validInstr_J18_le ?_ | refine spec_validInstr_J24_le ?_ | refine spec_validInstr_J29_le ?_ | refine spec_validInstr_J34_le ?_)
    have e : opS D (headsL PS) k X.length 10 n args.length i regs js = (((decide (0 ≤ n ∧ n < (headsL PS).length) && !lendsM (headsL PS) n) && ((args.length : Int) == ((gR (headsL PS) n.toNat).ps.length : Int) - 1)) && (true && true)) := rfl
    rw [e]
    unfold lendsM
    rw [headsL_len]
    refine callB (s_procWith _ PS h4 hp n _ 1 ⟨by omega, hmx⟩ (.inr rfl)) ?_
    by_cases h : 0 ≤ n ∧ n < PS.length
    rotate_left
    · rw [decide_eq_false h]
      exact bifF rfl rfl
    rw [decide_eq_true h, gR_head (by omega)]
    have hc : (((gP PS n.toNat).ps.length : Int) == (args.length : Int) + 1) = ((args.length : Int) == (((headR (gP PS n.toNat)).ps.length : Nat) : Int) - 1) := by
      show _ = ((args.length : Int) == ((gP PS n.toNat).ps.length : Int) - 1)
      by_cases hq : ((gP PS n.toNat).ps.length : Int) = (args.length : Int) + 1
      · rw [eqt hq, eqt (by omega)]
      · rw [eqf hq, eqf (by omega)]
    rw [hc]
    rcases ((args.length : Int) == (((headR (gP PS n.toNat)).ps.length : Nat) : Int) - 1) with _ | _
    · exact bifF rfl (rB_congr (by simp))
    · refine bifT rfl (atProcI (k := n.toNat) (by omega) (by omega) (rB_congr ?_))
      rw [intsC_len]
      show _ = (((true && !(true && decide (0 < (gP PS n.toNat).lent.length))) && true) && (true && true))
      by_cases hl : (gP PS n.toNat).lent.length = 0
      · simp [hl]
      · rw [nz hl, decide_eq_true (by omega)]
        rfl
  · repeat (first | refine bifF rfl ?_ | refine bifT rfl ?_ | refine spec_validInstr_J18_le ?_ | refine spec_validInstr_J24_le ?_ | refine spec_validInstr_J29_le ?_ | refine spec_validInstr_J34_le ?_)
    exact fin2c rfl
  · repeat (first | refine bifF rfl ?_ | refine bifT rfl ?_ | refine spec_validInstr_J18_le ?_ | refine spec_validInstr_J24_le ?_ | refine spec_validInstr_J29_le ?_ | refine spec_validInstr_J34_le ?_)
    exact fin2c rfl
  · repeat (first | refine bifF rfl ?_ | refine bifT rfl ?_ | refine spec_validInstr_J18_le ?_ | refine spec_validInstr_J24_le ?_ | refine spec_validInstr_J29_le ?_ | refine spec_validInstr_J34_le ?_)
    exact fin2c rfl
  · repeat (first | refine bifF rfl ?_ | refine bifT rfl ?_ | refine spec_validInstr_J18_le ?_ | refine spec_validInstr_J24_le ?_ | refine spec_validInstr_J29_le ?_ | refine spec_validInstr_J34_le ?_)
    exact callB (s_inRange _ 1 4) (fin2c rfl)
  · repeat (first | refine bifF rfl ?_ | refine bifT rfl ?_ | refine spec_validInstr_J18_le ?_ | refine spec_validInstr_J24_le ?_ | refine spec_validInstr_J29_le ?_ | refine spec_validInstr_J34_le ?_)
    exact callB (s_inRange _ 1 4) (fin2c rfl)
  · repeat (first | refine bifF rfl ?_ | refine bifT rfl ?_ | refine spec_validInstr_J18_le ?_ | refine spec_validInstr_J24_le ?_ | refine spec_validInstr_J29_le ?_ | refine spec_validInstr_J34_le ?_)
    exact fin2c rfl
  · repeat (first | refine bifF rfl ?_ | refine bifT rfl ?_ | refine spec_validInstr_J18_le ?_ | refine spec_validInstr_J24_le ?_ | refine spec_validInstr_J29_le ?_ | refine spec_validInstr_J34_le ?_)
    exact fin2c (callB (s_inRange n 0 2) rfl)
  · repeat (first | refine bifF rfl ?_ | refine bifT rfl ?_ | refine spec_validInstr_J18_le ?_ | refine spec_validInstr_J24_le ?_ | refine spec_validInstr_J29_le ?_ | refine spec_validInstr_J34_le ?_)
    have e : opS D (headsL PS) k X.length 20 n args.length i regs js = (((decide ((k : Int) + 1 ≤ n) && decide (n ≤ (X.length : Int) - 1)) && ((args.length : Int) == 1)) && (true && true)) := rfl
    rw [e, codeC_len, w1, w2]
    exact fin2c (callB (s_inRange n _ _) rfl)
  · repeat (first | refine bifF rfl ?_ | refine bifT rfl ?_ | refine spec_validInstr_J18_le ?_ | refine spec_validInstr_J24_le ?_ | refine spec_validInstr_J29_le ?_ | refine spec_validInstr_J34_le ?_)
    have e : opS D (headsL PS) k X.length 21 n args.length i regs js = ((isDa D n && ((args.length : Int) == 1)) && (true && jmpA D k X.length n js)) := rfl
    rw [e]
    refine callS (s_consOf hv.dv n) ?_
    rw [intsC_len, codeC_len]
    rcases hd : isDa D n with _ | _
    · have h0 : (if 1 ≤ n ∧ n ≤ D.length then cL D (n.toNat - 1) else []).length = 0 := by
        by_cases hr : 1 ≤ n ∧ n ≤ D.length
        · rw [if_pos hr, cL_len]
          unfold isDa isTy at hd
          rw [decide_eq_true (show 0 < n by omega), decide_eq_true (show 0 ≤ n by omega), decide_eq_true hr.2] at hd
          simpa using hd
        · rw [if_neg hr]; rfl
      rw [h0]
      rcases ((args.length : Int) == 1) with _ | _
      · exact bifF rfl rfl
      · exact bifT rfl (bifF rfl rfl)
    have hb : (0 < n ∧ n ≤ D.length) ∧ 0 < (gD D (n.toNat - 1)).cs.length := by
      simp only [isDa, Bool.and_eq_true, decide_eq_true_eq] at hd
      exact ⟨⟨hd.1, (isTy_iff.1 hd.2.1).2⟩, hd.2.2⟩
    rw [if_pos (show 1 ≤ n ∧ n ≤ D.length by omega), cL_len]
    rcases ((args.length : Int) == 1) with _ | _
    · exact bifF rfl rfl
    · exact bifT rfl (bifT (decide_eq_true (by omega)) (callB (s_validJumps js hj _ k X.length (by omega) hX) rfl))
  · repeat (first | refine bifF rfl ?_ | refine bifT rfl ?_ | refine spec_validInstr_J18_le ?_ | refine spec_validInstr_J24_le ?_ | refine spec_validInstr_J29_le ?_ | refine spec_validInstr_J34_le ?_)
    have e : opS D (headsL PS) k X.length 22 n args.length i regs js = (((decide ((k : Int) + 1 ≤ n) && decide (n ≤ (X.length : Int) - 1)) && ((args.length : Int) == 0)) && (true && true)) := rfl
    rw [e, codeC_len, w1, w2]
    exact fin2c (callB (s_inRange n _ _) rfl)
  · repeat (first | refine bifF rfl ?_ | refine bifT rfl ?_ | refine spec_validInstr_J18_le ?_ | refine spec_validInstr_J24_le ?_ | refine spec_validInstr_J29_le ?_ | refine spec_validInstr_J34_le ?_)
    exact fin2c rfl
  · repeat (first | refine bifF rfl ?_ | refine bifT rfl ?_ | refine spec_validInstr_J18_le ?_ | refine spec_validInstr_J24_le ?_ | refine spec_validInstr_J29_le ?_ | refine spec_validInstr_J34_le ?_)
    have e : opS D (headsL PS) k X.length 24 n args.length i regs js = ((decide (0 ≤ n ∧ n < (headsL PS).length) && ((args.length : Int) == ((gR (headsL PS) n.toNat).ps.length : Int))) && (true && true)) := rfl
    rw [e, headsL_len]
    refine callB (s_procWith _ PS h4 hp n _ 0 ⟨by omega, hmx⟩ (.inl rfl)) (rB_congr ?_)
    by_cases h : 0 ≤ n ∧ n < PS.length
    · rw [decide_eq_true h, gR_head (by omega), beq_swap]
      simp [headR]
    · rw [decide_eq_false h]
      rfl
theorem s_J10_bad (X : List (List AC)) (k : Int) (ds pr ps lent : List (List AC)) (r regs o d n i m : Int) (args js : List (List AC)) (h : isInsM o = false) : spec_validInstr_J10 k ds pr ps lent r regs X o d n i args js m = rB false := by
  have hn := of_decide_eq_false h
  have h0 : o ≠ 0 := by omega
  have h1 : o ≠ 1 := by omega
  have h2 : o ≠ 2 := by omega
  have h3 : o ≠ 3 := by omega
  have h4 : o ≠ 4 := by omega
  have h5 : o ≠ 5 := by omega
  have h6 : o ≠ 6 := by omega
  have h9 : o ≠ 9 := by omega
  have h10 : o ≠ 10 := by omega
  have h11 : o ≠ 11 := by omega
  have h14 : o ≠ 14 := by omega
  have h15 : o ≠ 15 := by omega
  have h16 : o ≠ 16 := by omega
  have h17 : o ≠ 17 := by omega
  have h18 : o ≠ 18 := by omega
  have h19 : o ≠ 19 := by omega
  have h20 : o ≠ 20 := by omega
  have h21 : o ≠ 21 := by omega
  have h22 : o ≠ 22 := by omega
  have h23 : o ≠ 23 := by omega
  have h24 : o ≠ 24 := by omega
  refine spec_validInstr_J10_le ?_
  repeat (first | refine bifF (eqf (by assumption)) ?_ | refine spec_validInstr_J18_le ?_ | refine spec_validInstr_J24_le ?_ | refine spec_validInstr_J29_le ?_ | refine spec_validInstr_J34_le ?_)
  rfl
def jS (D : List DM) (R : List RM) (k len : Nat) (regs : Int) (x : IM) : Bool := isInsM x.o && opS D R k len x.o x.n x.args.length x.i regs x.jumps
def tS (D : List DM) (R : List RM) (k len : Nat) (regs : Int) (x : IM) : Bool := (decide (0 ≤ x.d) && decide (x.d ≤ regs - 1)) && ((x.d == 0 || setS x.o) && ((x.i == 0 || x.o == 6) && ((x.o == 21 || (x.jumps.length : Int) == 0) && jS D R k len regs x)))
theorem idA (N A L G B i0 Q X : Bool) : (true && (N && (A && (L && (G && (B && (Q && (i0 || (false && X)))))))) : Bool) = (G && (B && (Q && ((i0 || false) && ((false || L) && (true && ((N && A) && (true && true)))))))) := by
  cases N <;> cases A <;> cases L <;> cases G <;> cases B <;> cases i0 <;> cases Q <;> rfl
theorem idJ (N A L G B i0 Q X J : Bool) : (true && (N && (A && (J && (G && (B && (Q && (i0 || (false && X)))))))) : Bool) = (G && (B && (Q && ((i0 || false) && ((true || L) && (true && ((N && A) && (true && J)))))))) := by
  cases N <;> cases A <;> cases J <;> cases G <;> cases B <;> cases i0 <;> cases Q <;> rfl
theorem idC (N A L G B i0 Q C : Bool) : (true && (N && (A && (L && (G && (B && (Q && C)))))) : Bool) = (G && (B && (Q && ((i0 || true) && ((false || L) && (true && ((N && A) && (C && true)))))))) := by
  cases N <;> cases A <;> cases L <;> cases G <;> cases B <;> cases i0 <;> cases Q <;> cases C <;> rfl
theorem insM_eq (D : List DM) (R : List RM) (k len : Nat) (regs : Int) (hr : 0 ≤ regs) (x : IM) : insM D R k len regs x = (regA regs x.args && tS D R k len regs x) := by
  obtain ⟨o, d, n, i, args, js⟩ := x
  show (isInsM o && (numM D R k len o n && (argM D R o n args.length && (jmpM D k len o n js && regM regs o d i args)))) = (regA regs args && ((decide (0 ≤ d) && decide (d ≤ regs - 1)) && ((d == 0 || setS o) && ((i == 0 || o == 6) && ((o == 21 || (js.length : Int) == 0) && (isInsM o && opS D R k len o n args.length i regs js))))))
  rcases hi : isInsM o with _ | _
  · simp
  have ho := insOp_of hi
  unfold InsOp at ho
  clear hi
  unfold regM
  rcases ho with rfl | rfl | rfl | rfl | rfl | rfl | rfl | rfl | rfl | rfl | rfl | rfl | rfl | rfl | rfl | rfl | rfl | rfl | rfl | rfl | rfl
  · exact idA _ _ _ _ _ _ _ _
  · exact idA _ _ _ _ _ _ _ _
  · exact idA _ _ _ _ _ _ _ _
  · exact idA _ _ _ _ _ _ _ _
  · exact idA _ _ _ _ _ _ _ _
  · exact idA _ _ _ _ _ _ _ _
  · have hc : (i == 0 || ((6 : Int) == 6 && (decide (0 < i) && decide (i ≤ regs)))) = (decide (0 ≤ i) && decide (i ≤ regs)) := by
      by_cases h0 : i = 0
      · subst h0
        simp [hr]
      · rw [eqf h0]
        by_cases hp : 0 < i
        · rw [decide_eq_true hp, decide_eq_true (show 0 ≤ i by omega)]; rfl
        · rw [decide_eq_false hp, decide_eq_false (show ¬ 0 ≤ i by omega)]; rfl
    rw [hc]
    exact idC _ _ _ _ _ _ _ _
  · exact idA _ _ _ _ _ _ _ _
  · exact idA _ _ _ _ _ _ _ _
  · exact idA _ _ _ _ _ _ _ _
  · exact idA _ _ _ _ _ _ _ _
  · exact idA _ _ _ _ _ _ _ _
  · exact idA _ _ _ _ _ _ _ _
  · exact idA _ _ _ _ _ _ _ _
  · exact idA _ _ _ _ _ _ _ _
  · exact idA _ _ _ _ _ _ _ _
  · exact idA _ _ _ _ _ _ _ _
  · exact idJ _ _ _ _ _ _ _ _ _
  · exact idA _ _ _ _ _ _ _ _
  · exact idA _ _ _ _ _ _ _ _
  · exact idA _ _ _ _ _ _ _ _
theorem s_validInstr (hv : CV D (headsL PS)) (X : List IM) (ps lent : List (List AC)) (r regs : Int) (hr : 1 ≤ regs ∧ regs ≤ 2000) {k : Nat} (hk : k < X.length) (hX : X.length ≤ 2000) (hx : IOk (gI X k)) :
    spec_validInstr [.agg [.sl 3 (decsC D), .sl 5 (procsC PS)], .agg [.sl 1 ps, .sl 1 lent, .int r, .int regs, .sl 6 (codeC X)], .cell (.int (k : Int))] = rB (insM D (headsL PS) k X.length regs (gI X k)) := by
  rw [insM_eq _ _ _ _ _ (by omega)]
  refine spec_validInstr_le (atInsI rfl hk ?_)
  have ha := hx.args
  have hj := hx.jumps
  unfold tS jS
  generalize (gI X k).o = o
  generalize (gI X k).d = d
  generalize (gI X k).n = n
  generalize (gI X k).i = i
  generalize (gI X k).args = args at ha ⊢
  generalize (gI X k).jumps = js at hj ⊢
  have hJ : spec_validInstr_J10 (k : Int) (decsC D) (procsC PS) ps lent r regs (codeC X) o d n i (intsC args) (intsC js) ((args.length : Nat) : Int) = rB (isInsM o && opS D (headsL PS) k X.length o n args.length i regs js) := by
    rcases hi : isInsM o with _ | _
    · exact s_J10_bad _ _ _ _ _ _ _ _ _ _ _ _ _ _ _ hi
    · exact s_J10 hv X ps lent r regs hk hX o d n i args js ha hj (insOp_of hi)
  generalize (isInsM o && opS D (headsL PS) k X.length o n args.length i regs js) = J at hJ ⊢
  have t3 : ∀ Y : Option AV, Y = (bif o != 21 then (bif decide (((js.length : Nat) : Int) > 0) then rB false else spec_validInstr_J10 (k : Int) (decsC D) (procsC PS) ps lent r regs (codeC X) o d n i (intsC args) (intsC js) ((args.length : Nat) : Int)) else spec_validInstr_J10 (k : Int) (decsC D) (procsC PS) ps lent r regs (codeC X) o d n i (intsC args) (intsC js) ((args.length : Nat) : Int)) → Y = rB ((o == 21 || (js.length : Int) == 0) && J) := by
    intro Y hY
    rw [hY]
    by_cases h21 : o = 21
    · rw [eqt h21]
      exact bifF (nef h21) hJ
    rw [eqf h21]
    refine bifT (net h21) ?_
    by_cases h0 : js.length = 0
    · rw [zr h0]
      exact bifF (decide_eq_false (by omega)) hJ
    · rw [nz h0]
      exact bifT (decide_eq_true (by omega)) rfl
  have t2 : ∀ Y : Option AV, Y = (bif i != 0 then (bif o != 6 then rB false else (bif o != 21 then (bif decide (((js.length : Nat) : Int) > 0) then rB false else spec_validInstr_J10 (k : Int) (decsC D) (procsC PS) ps lent r regs (codeC X) o d n i (intsC args) (intsC js) ((args.length : Nat) : Int)) else spec_validInstr_J10 (k : Int) (decsC D) (procsC PS) ps lent r regs (codeC X) o d n i (intsC args) (intsC js) ((args.length : Nat) : Int))) else (bif o != 21 then (bif decide (((js.length : Nat) : Int) > 0) then rB false else spec_validInstr_J10 (k : Int) (decsC D) (procsC PS) ps lent r regs (codeC X) o d n i (intsC args) (intsC js) ((args.length : Nat) : Int)) else spec_validInstr_J10 (k : Int) (decsC D) (procsC PS) ps lent r regs (codeC X) o d n i (intsC args) (intsC js) ((args.length : Nat) : Int))) → Y = rB ((i == 0 || o == 6) && ((o == 21 || (js.length : Int) == 0) && J)) := by
    intro Y hY
    rw [hY]
    by_cases h0 : i = 0
    · rw [eqt h0]
      exact bifF (nef h0) (t3 _ rfl)
    rw [eqf h0]
    refine bifT (net h0) ?_
    by_cases h6 : o = 6
    · rw [eqt h6]
      exact bifF (nef h6) (t3 _ rfl)
    · rw [eqf h6]
      exact bifT (net h6) rfl
  have w2 : wrapI (regs - 1) = regs - 1 := wr (by omega) (by omega)
  have key : ∀ m j : Nat, j + m = args.length → spec_validInstr_L0 (k : Int) (decsC D) (procsC PS) ps lent r regs (codeC X) o d n i (intsC args) (intsC js) (((intsC args).length : Nat) : Int) (j : Int) = rB (regA regs (args.drop j) && ((decide (0 ≤ d) && decide (d ≤ regs - 1)) && ((d == 0 || setS o) && ((i == 0 || o == 6) && ((o == 21 || (js.length : Int) == 0) && J))))) := by
    intro m
    induction m with
    | zero =>
      intro j hj
      rw [List.drop_eq_nil_of_le (by omega)]
      refine spec_validInstr_L0_le (bifF (decide_eq_false (by rw [intsC_len]; omega)) ?_)
      rw [w2, intsC_len, intsC_len]
      refine callB (s_inRange _ _ _) ?_
      have e : regA regs [] = true := rfl
      rw [e]
      by_cases hd : 0 ≤ d ∧ d ≤ regs - 1
      rotate_left
      · rw [inR_iff hd]
        exact bifT rfl rfl
      rw [decide_eq_true hd.1, decide_eq_true hd.2]
      refine bifF rfl ?_
      by_cases hd0 : d = 0
      · rw [eqt hd0]
        exact bifF (nef hd0) (t2 _ rfl)
      rw [eqf hd0]
      refine bifT (net hd0) (callB (s_sets o) ?_)
      rcases setS o with _ | _
      · exact bifT rfl rfl
      · exact bifF rfl (t2 _ rfl)
    | succ m ih =>
      intro j hj
      have hlt : j < args.length := by omega
      unfold regA
      rw [all_drop hlt]
      refine spec_validInstr_L0_le (bifT (decide_eq_true (by rw [intsC_len]; omega)) (atNum hlt ?_))
      rw [w2]
      refine callB (s_inRange _ _ _) ?_
      by_cases hd : 0 ≤ args[j] ∧ args[j] ≤ regs - 1
      rotate_left
      · rw [inR_iff hd]
        exact bifT rfl rfl
      rw [decide_eq_true hd.1, decide_eq_true hd.2, wrk (by omega)]
      exact bifF rfl (ih (j + 1) (by omega))
  exact key args.length 0 (by omega)
end
end Go.Proofs.YthfihhejbplmfaaGreat
