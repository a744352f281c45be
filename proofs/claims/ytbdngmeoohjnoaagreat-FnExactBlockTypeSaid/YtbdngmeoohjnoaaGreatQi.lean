/- Choices, both sides. -/
import Derived.Test.YtbdngmeoohjnoaaGreatQh
set_option linter.unusedVariables false
set_option linter.unusedSimpArgs false
namespace Go.Proofs.YtbdngmeoohjnoaaGreat
open Go
theorem callBd {ρ : Type} {r : ρ} {x : Option AV} {a0 : List (List AC)} {a1 : List (List AC)} (h : x = some (.v (.agg [.sl 1 a0, .sl 1 a1]))) {K : Fn (Option ρ) (shapesOf [(true, [.sl 1 [], .sl 1 []])])} (h2 : (K : List (List AC) → List (List AC) → Option ρ) a0 a1 = some r) : callR x false [(true, [.sl 1 [], .sl 1 []])] K = some r := by rw [h]; exact h2
theorem s_typedE (V args : List Int) (hV : V.length ≤ 2147483648) (t : Int) : ∃ b, spec_typed [.cell (.sl 1 (intsC V)), .cell (.sl 1 (intsC args)), .cell (.sl 1 [[.int t]])] = rB b := by
  by_cases h : args.length = 1
  rotate_left
  · exact ⟨false, spec_typed_le (bifT (net (by rw [intsC_len]; simp; omega)) rfl)⟩
  have hw : wrapI ((((intsC V).length : Nat) : Int) - 1) = V.length - 1 := by
    rw [intsC_len]
    exact wr (by omega) (by omega)
  have pre : ∀ r, (bif !(decide (0 ≤ args.getD 0 0) && decide (args.getD 0 0 ≤ (V.length : Int) - 1)) then some (.v (.cell (.bool false))) else
      (atR_ (intsC args) 0 [.int 0] fun n10 => atR_ (intsC V) n10 [.int 0] fun n11 => atR_ [[.int t]] 0 [.int 0] fun n12 =>
      bif (n11 != n12) then some (.v (.cell (.bool false))) else spec_typed_L0 (intsC V) (intsC args) [[.int t]] (wrapI (0 + 1)) : Option AV)) = some r → spec_typed [.cell (.sl 1 (intsC V)), .cell (.sl 1 (intsC args)), .cell (.sl 1 [[.int t]])] = some r := by
    intro r hr
    refine spec_typed_le (bifF (nef (by rw [intsC_len]; simp; omega)) (spec_typed_L0_le (bifT (decide_eq_true (by rw [intsC_len]; omega)) (atNumI (k := 0) rfl (by omega) (callB (s_inRange _ _ _) ?_)))))
    rw [hw]
    exact hr
  by_cases hr : 0 ≤ args.getD 0 0 ∧ args.getD 0 0 < V.length
  rotate_left
  · refine ⟨false, pre _ (bifT ?_ rfl)⟩
    rw [Bool.not_eq_true', Bool.and_eq_false_iff, decide_eq_false_iff_not, decide_eq_false_iff_not]
    omega
  have hcond : (!(decide (0 ≤ args.getD 0 0) && decide (args.getD 0 0 ≤ (V.length : Int) - 1))) = false := by
    rw [decide_eq_true hr.1, decide_eq_true (show args.getD 0 0 ≤ (V.length : Int) - 1 by omega)]; rfl
  by_cases he : V.getD (args.getD 0 0).toNat 0 = t
  · refine ⟨true, pre _ (bifF hcond (atNumI (k := 0) rfl (by omega) (atNumI (k := (args.getD 0 0).toNat) (by omega) (by omega) (atNumI (xs := [t]) (k := 0) rfl (by simp) (bifF (nef he) (spec_typed_L0_le (bifF (decide_eq_false ?_) rfl)))))))⟩
    rw [intsC_len, h]
    decide
  · exact ⟨false, pre _ (bifF hcond (atNumI (k := 0) rfl (by omega) (atNumI (k := (args.getD 0 0).toNat) (by omega) (by omega) (atNumI (xs := [t]) (k := 0) rfl (by simp) (bifT (net he) rfl)))))⟩
def cL (D : List DM) (j : Nat) : List Int := (List.range (gD D j).cs.length).map fun i => ((sumC (D.take j) + i : Nat) : Int)
theorem cL_len (D : List DM) (j : Nat) : (cL D j).length = (gD D j).cs.length := by simp [cL]
theorem cL_get {D : List DM} {j k : Nat} (h : k < (gD D j).cs.length) : (cL D j).getD k 0 = ((sumC (D.take j) + k : Nat) : Int) := by
  simp [cL, List.getD, h]
theorem s_consOf {D : List DM} (hv : DV D) (n : Int) : spec_consOf [.cell (.sl 3 (decsC D)), .cell (.int n)] = rL (if 1 ≤ n ∧ n ≤ D.length then cL D (n.toNat - 1) else []) := by
  have hD := hv.len
  refine spec_consOf_le (callB (s_inRange _ _ _) ?_)
  rw [decsC_len]
  by_cases h : 1 ≤ n ∧ n ≤ D.length
  rotate_left
  · rw [if_neg h]
    refine bifT ?_ rfl
    rw [Bool.not_eq_true', Bool.and_eq_false_iff, decide_eq_false_iff_not, decide_eq_false_iff_not]
    omega
  rw [if_pos h, decide_eq_true h.1, decide_eq_true h.2]
  refine bifF rfl ?_
  have hj : n.toNat - 1 < D.length := by omega
  have w : wrapI (n - 1) = ((n.toNat - 1 : Nat) : Int) := by rw [wr (by omega) (by omega)]; omega
  generalize n.toNat - 1 = j at hj w ⊢
  have hc := hv.cs j hj
  have hs := sumC_le hv.cs j (by omega)
  have key : ∀ m k : Nat, k + m = (gD D j).cs.length → spec_consOf_L0 (decsC D) n (intsC ((cL D j).take k)) (k : Int) = rL (cL D j) := by
    intro m
    induction m with
    | zero =>
      intro k hk
      refine spec_consOf_L0_le (atDecI (k := j) w hj (bifF (decide_eq_false (by rw [consC_len]; omega)) ?_))
      rw [List.take_of_length_le (by rw [cL_len]; omega)]
    | succ m ih =>
      intro k hk
      refine spec_consOf_L0_le (atDecI (k := j) w hj (bifT (decide_eq_true (by rw [consC_len]; omega)) ?_))
      rw [w]
      refine callI (s_firstCon hv (k := j) (by omega)) (appTo (by rw [intsC_len, List.length_take, cL_len]; simp; omega) ?_)
      have hlt : k < (cL D j).length := by rw [cL_len]; omega
      have e := take_app hlt
      have e2 : (cL D j)[k] = ((sumC (D.take j) + k : Nat) : Int) := by
        have := cL_get (D := D) (j := j) (k := k) (by omega)
        rw [← this]
        simp [List.getD, hlt]
      rw [e2] at e
      rw [wr (n := ((sumC (D.take j) : Nat) : Int) + (k : Int)) (by omega) (by omega), ← Int.natCast_add, e, wrk (by unfold maxI; omega)]
      exact ih (k + 1) (by omega)
  exact key (gD D j).cs.length 0 (by omega)
def chk (T : Nat → Int) (t0 : Int) : Nat → Nat → Int
  | 0, _ => t0
  | m + 1, k => if T k = t0 then chk T t0 m (k + 1) else -1
theorem chk_neg (T : Nat → Int) : ∀ m k, chk T (-1) m k = -1
  | 0, _ => rfl
  | m + 1, k => by unfold chk; rw [chk_neg T m (k + 1), ite_self]
theorem chk_ok {D : List DM} {T : Nat → Int} {t0 : Int} (h : okT D t0) : ∀ m k, okT D (chk T t0 m k)
  | 0, _ => h
  | m + 1, k => by
    unfold chk
    split
    · exact chk_ok h m (k + 1)
    · exact .inl rfl
section
variable {D : List DM} {R : List RM}
theorem i_choiceL (G M : List Int) (hM : M.length ≤ 2147483648) (o n i : Int) (args kids : List (List AC)) (fs : List (List Int)) (T : Nat → Int) (hl : fs.length = kids.length) (hm : kids.length ≤ maxI) (h3 : ∀ k, k < kids.length → (fs.getD k []).length ≤ 3)
    (hb : ∀ k, k < kids.length → ∃ ss r, kids.getD k [] = [.sl 5 ss, .int r])
    (hT : ∀ k, k < kids.length → ∀ ss r, kids.getD k [] = [.sl 5 ss, .int r] → impl_typeOfBlock [.agg [.sl 3 (decsC D), .sl 5 (rousC R)], .agg [.sl 1 (intsC G), .sl 1 (intsC (M ++ fs.getD k []))], .agg [.sl 5 ss, .int r]] = rI (T k)) (t0 : Int) :
    ∀ m k : Nat, k + m = kids.length → impl_typeOfChoice_L0 (decsC D) (rousC R) (intsC G) (intsC M) o n i args kids (consC fs) t0 (k : Int) = rI (chk T t0 m k) := by
  intro m
  induction m with
  | zero =>
    intro k hk
    exact impl_typeOfChoice_L0_le (bifF (decide_eq_false (by rw [consC_len]; omega)) rfl)
  | succ m ih =>
    intro k hk
    have hlt : k < kids.length := by omega
    obtain ⟨ss, r, e⟩ := hb k hlt
    refine impl_typeOfChoice_L0_le (bifT (decide_eq_true (by rw [consC_len]; omega)) (atConI (k := k) rfl (by omega) (callBd (i_bind G M _ (by have := h3 k hlt; omega)) (atBlock hlt e (callI (hT k hlt _ _ e) ?_)))))
    unfold chk
    by_cases hq : T k = t0
    · rw [if_pos hq, wrk (by omega)]
      exact bifF (nef hq) (ih (k + 1) (by omega))
    · rw [if_neg hq]
      exact bifT (net hq) rfl
theorem s_kidStep (hv : CV D R) (V : List Int) (hV : V.length ≤ 2147483648) (o n i : Int) (args kids l18 : List (List AC)) (cs : List Int) (fs : List (List Int)) (T : Nat → Int) (h3 : ∀ k, k < kids.length → (fs.getD k []).length ≤ 3)
    (ho : (o = 8 ∧ l18 = intsC cs ∧ cs.length = kids.length ∧ ∀ k, k < kids.length → 1 ≤ conT D (cs.getD k 0) ∧ fld D (cs.getD k 0) = fs.getD k []) ∨ (o = 7 ∧ ∀ k, k < kids.length → fs.getD k [] = []))
    (hT : ∀ k, k < kids.length → ∀ ss r, kids.getD k [] = [.sl 5 ss, .int r] → spec_blockType [.agg [.sl 3 (decsC D), .sl 5 (rousC R)], .cell (.sl 1 (intsC (V ++ fs.getD k []))), .agg [.sl 5 ss, .int r]] = rI (T k))
    {N prev : Int} {k : Nat} (hk : k < kids.length) (hN : N = kids.length) {ss : List (List AC)} {rr : Int} (e : kids.getD k [] = [.sl 5 ss, .int rr]) {r : AV}
    (h : (bif decide (T k < 0) then rI (-1) else bif decide ((k : Int) > 0) then (bif T k != prev then rI (-1) else spec_kidsType_L0 (intsC V) (decsC D) (rousC R) o n i args kids l18 N (T k) (wrapI ((k : Int) + 1))) else spec_kidsType_L0 (intsC V) (decsC D) (rousC R) o n i args kids l18 N (T k) (wrapI ((k : Int) + 1))) = some r) :
    spec_kidsType_L0 (intsC V) (decsC D) (rousC R) o n i args kids l18 N prev (k : Int) = some r := by
  refine spec_kidsType_L0_le (bifT (decide_eq_true (by omega)) ?_)
  rcases ho with ⟨rfl, rfl, hcl, hcs⟩ | ⟨rfl, hf⟩
  · obtain ⟨h1, h2⟩ := hcs k hk
    have hf := s_conFields hv.dv (cs.getD k 0)
    rw [if_neg (by omega), h2] at hf
    exact bifT rfl (atNumI (k := k) rfl (by omega) (callS hf (callS (s_extend V _ (by have := h3 k hk; omega)) (atBlock hk e (callI (hT k hk _ _ e) h)))))
  · have := hT k hk _ _ e
    rw [hf k hk, List.append_nil] at this
    exact bifF rfl (atBlock hk e (callI this h))
theorem s_kidL (hv : CV D R) (V : List Int) (hV : V.length ≤ 2147483648) (o n i : Int) (args kids l18 : List (List AC)) (cs : List Int) (fs : List (List Int)) (T : Nat → Int) (hm : kids.length ≤ maxI) (h3 : ∀ k, k < kids.length → (fs.getD k []).length ≤ 3)
    (hb : ∀ k, k < kids.length → ∃ ss r, kids.getD k [] = [.sl 5 ss, .int r])
    (ho : (o = 8 ∧ l18 = intsC cs ∧ cs.length = kids.length ∧ ∀ k, k < kids.length → 1 ≤ conT D (cs.getD k 0) ∧ fld D (cs.getD k 0) = fs.getD k []) ∨ (o = 7 ∧ ∀ k, k < kids.length → fs.getD k [] = []))
    (hT : ∀ k, k < kids.length → ∀ ss r, kids.getD k [] = [.sl 5 ss, .int r] → spec_blockType [.agg [.sl 3 (decsC D), .sl 5 (rousC R)], .cell (.sl 1 (intsC (V ++ fs.getD k []))), .agg [.sl 5 ss, .int r]] = rI (T k)) (t0 : Int) (ht0 : 0 ≤ t0) {N : Int} (hN : N = kids.length) :
    ∀ m k : Nat, 1 ≤ k → k + m = kids.length → spec_kidsType_L0 (intsC V) (decsC D) (rousC R) o n i args kids l18 N t0 (k : Int) = rI (chk T t0 m k) := by
  intro m
  induction m with
  | zero =>
    intro k h1 hk
    exact spec_kidsType_L0_le (bifF (decide_eq_false (by omega)) rfl)
  | succ m ih =>
    intro k h1 hk
    have hlt : k < kids.length := by omega
    obtain ⟨ss, r, e⟩ := hb k hlt
    refine s_kidStep hv V hV o n i args kids l18 cs fs T h3 ho hT hlt hN e ?_
    unfold chk
    by_cases hq : T k = t0
    · rw [if_pos hq, wrk (by omega)]
      refine bifF (decide_eq_false (by omega)) (bifT (decide_eq_true (by omega)) (bifF (nef hq) ?_))
      rw [hq]
      exact ih (k + 1) (by omega) (by omega)
    · rw [if_neg hq]
      by_cases h0 : T k < 0
      · exact bifT (decide_eq_true h0) rfl
      · exact bifF (decide_eq_false h0) (bifT (decide_eq_true (by omega)) (bifT (net hq) rfl))
end
end Go.Proofs.YtbdngmeoohjnoaaGreat
