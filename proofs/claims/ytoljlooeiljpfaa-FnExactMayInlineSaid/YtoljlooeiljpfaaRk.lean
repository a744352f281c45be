/- Ascending lists of indices, as sets. Sets of functions, as ascending lists; what is named, what is reached. What functions reach: both sides end at the least closed set; the law of MayInline. -/
import Derived.Test.YtoljlooeiljpfaaPa
import Derived.Test.YtoljlooeiljpfaaLf
import Derived.Test.YtoljlooeiljpfaaRi
set_option linter.unusedVariables false
set_option linter.unusedSimpArgs false
namespace Go.Proofs.Ytoljlooeiljpfaa
open Go
def insL : List Int → Int → List Int
  | [], x => [x]
  | y :: ys, x => if y ≥ x then (if y > x then x :: y :: ys else y :: ys) else y :: insL ys x
theorem insL_len (x : Int) : ∀ l : List Int, (insL l x).length ≤ l.length + 1
  | [] => by simp [insL]
  | y :: ys => by
    have := insL_len x ys
    unfold insL
    split
    · split <;> simp
    · simp; omega
def ascR (S : Nat → Bool) (a m : Nat) : List Int := ((List.range' a m).filter S).map fun i : Nat => (i : Int)
theorem ascR_ge {S : Nat → Bool} {a m : Nat} : ∀ y ∈ ascR S a m, (a : Int) ≤ y := by
  intro y hy
  unfold ascR at hy
  obtain ⟨i, hi, rfl⟩ := List.mem_map.1 hy
  have := List.mem_range'_1.1 (List.mem_filter.1 hi).1
  omega
theorem insL_first {x : Int} : ∀ {l : List Int}, (∀ y ∈ l, x < y) → insL l x = x :: l
  | [], _ => rfl
  | y :: ys, h => by
    have := h y List.mem_cons_self
    unfold insL
    rw [if_pos (by omega), if_pos (by omega)]
theorem ascR_succ (S : Nat → Bool) (a m : Nat) : ascR S a (m + 1) = if S a then (a : Int) :: ascR S (a + 1) m else ascR S (a + 1) m := by
  unfold ascR
  rw [List.range'_succ, List.filter_cons]
  split <;> rfl
theorem ascR_cong {S S' : Nat → Bool} : ∀ {m a : Nat}, (∀ i, a ≤ i → i < a + m → S i = S' i) → ascR S a m = ascR S' a m
  | 0, _, _ => rfl
  | m + 1, a, h => by
    rw [ascR_succ, ascR_succ, h a (by omega) (by omega), ascR_cong (m := m) (a := a + 1) fun i h1 h2 => h i (by omega) (by omega)]
theorem insL_asc (S : Nat → Bool) (j : Nat) : ∀ (m a : Nat), a ≤ j → j < a + m → insL (ascR S a m) (j : Int) = ascR (fun i => S i || i == j) a m
  | 0, a, h1, h2 => by omega
  | m + 1, a, h1, h2 => by
    rw [ascR_succ, ascR_succ]
    by_cases hj : a = j
    · subst hj
      have e : ascR (fun i => S i || i == a) (a + 1) m = ascR S (a + 1) m := ascR_cong fun i g1 g2 => by
        have : (i == a) = false := by simp; omega
        rw [this, Bool.or_false]
      rw [beq_self_eq_true, Bool.or_true, if_pos rfl, e]
      split
      · unfold insL
        rw [if_pos (by omega), if_neg (by omega)]
      · exact insL_first fun y hy => by have := ascR_ge y hy; omega
    · have e : (a == j) = false := by simp [hj]
      rw [e, Bool.or_false]
      have ih := insL_asc S j m (a + 1) (by omega) (by omega)
      split
      · conv => lhs; unfold insL
        rw [if_neg (by omega), ih]
      · exact ih
theorem asc_mem (S : Nat → Bool) {n k : Nat} (hk : k < n) : (ascR S 0 n).contains (k : Int) = S k := by
  rw [Bool.eq_iff_iff, List.contains_iff_mem]
  unfold ascR
  rw [List.mem_map]
  constructor
  · rintro ⟨i, hi, e⟩
    have : i = k := by omega
    subst this
    exact (List.mem_filter.1 hi).2
  · intro h
    exact ⟨k, List.mem_filter.2 ⟨List.mem_range'_1.2 ⟨by omega, by omega⟩, h⟩, rfl⟩
theorem intsC_snoc (xs : List Int) (x : Int) : intsC xs ++ [[AC.int x]] = intsC (xs ++ [x]) := by simp [intsC]
theorem s_isInL (xs : List Int) (n : Int) (hx : xs.length ≤ 1048576) : spec_isIn [.cell (.sl 1 (intsC xs)), .cell (.int n)] = some (.v (.cell (.bool (xs.contains n)))) := by
  have key : ∀ m k : Nat, k + m = xs.length → spec_isIn_L0 (intsC xs) n (k : Int) = some (.v (.cell (.bool ((xs.drop k).contains n)))) := by
    intro m
    induction m with
    | zero =>
      intro k hk
      rw [List.drop_eq_nil_of_le (by omega)]
      exact spec_isIn_L0_le (bifF (decide_eq_false (by rw [intsC_len]; omega)) rfl)
    | succ m ih =>
      intro k hk
      have hlt : k < xs.length := by omega
      have hnext := ih (k + 1) (by omega)
      rw [← wrk (by unfold maxI; omega)] at hnext
      rw [List.drop_eq_getElem_cons hlt, List.contains_cons]
      refine spec_isIn_L0_le (bifT (decide_eq_true (by rw [intsC_len]; omega)) (atNum hlt ?_))
      rcases e : (xs[k] == n) with _ | _
      · rw [show (n == xs[k]) = false by rw [beq_eq_false_iff_ne] at e ⊢; exact fun h => e h.symm, Bool.false_or]
        exact bifF rfl hnext
      · rw [show (n == xs[k]) = true by rw [beq_iff_eq] at e ⊢; exact e.symm, Bool.true_or]
        exact bifT rfl rfl
  exact spec_isIn_le (key xs.length 0 (by omega))
theorem s_insertL (xs : List Int) (n : Int) (hx : xs.length ≤ 1048576) : spec_insert [.cell (.sl 1 (intsC xs)), .cell (.int n)] = some (.v (.cell (.sl 1 (intsC (insL xs n))))) := by
  have rest : ∀ m k : Nat, k + m = xs.length → ∀ acc : List Int, acc.length ≤ k + 1 → spec_insert_L0 (intsC xs) n (intsC acc) true (k : Int) = some (.v (.cell (.sl 1 (intsC (acc ++ xs.drop k))))) := by
    intro m
    induction m with
    | zero =>
      intro k hk acc ha
      rw [List.drop_eq_nil_of_le (by omega), List.append_nil]
      exact spec_insert_L0_le (bifF (decide_eq_false (by rw [intsC_len]; omega)) (bifF rfl rfl))
    | succ m ih =>
      intro k hk acc ha
      have hlt : k < xs.length := by omega
      have hnext := ih (k + 1) (by omega) (acc ++ [xs[k]]) (by simp; omega)
      rw [← wrk (by unfold maxI; omega), List.append_assoc, List.singleton_append, ← List.drop_eq_getElem_cons hlt] at hnext
      refine spec_insert_L0_le (bifT (decide_eq_true (by rw [intsC_len]; omega)) (bifF rfl (atNum hlt (appTo (by rw [intsC_len]; simp; omega) ?_))))
      rw [intsC_snoc]
      exact hnext
  have key : ∀ m k : Nat, k + m = xs.length → ∀ acc : List Int, acc.length ≤ k → spec_insert_L0 (intsC xs) n (intsC acc) false (k : Int) = some (.v (.cell (.sl 1 (intsC (acc ++ insL (xs.drop k) n))))) := by
    intro m
    induction m with
    | zero =>
      intro k hk acc ha
      rw [List.drop_eq_nil_of_le (by omega)]
      refine spec_insert_L0_le (bifF (decide_eq_false (by rw [intsC_len]; omega)) (bifT rfl (appTo (by rw [intsC_len]; simp; omega) ?_)))
      rw [intsC_snoc]
      rfl
    | succ m ih =>
      intro k hk acc ha
      have hlt : k < xs.length := by omega
      rw [List.drop_eq_getElem_cons hlt]
      refine spec_insert_L0_le (bifT (decide_eq_true (by rw [intsC_len]; omega)) (bifT rfl (atNum hlt ?_)))
      unfold insL
      by_cases h1 : xs[k] ≥ n
      · rw [if_pos h1]
        refine bifT (decide_eq_true h1) (atNum hlt ?_)
        by_cases h2 : xs[k] > n
        · rw [if_pos h2]
          have hnext := rest m (k + 1) (by omega) (acc ++ [n] ++ [xs[k]]) (by simp; omega)
          rw [← wrk (by unfold maxI; omega), List.append_assoc, List.append_assoc] at hnext
          refine bifT (decide_eq_true h2) (appTo (by rw [intsC_len]; simp; omega) (atNum hlt ?_))
          rw [intsC_snoc]
          refine appTo (by rw [intsC_len]; simp; omega) ?_
          rw [intsC_snoc, List.append_assoc]
          exact hnext
        · rw [if_neg h2]
          have hnext := rest m (k + 1) (by omega) (acc ++ [xs[k]]) (by simp; omega)
          rw [← wrk (by unfold maxI; omega), List.append_assoc] at hnext
          refine bifF (decide_eq_false h2) (atNum hlt (appTo (by rw [intsC_len]; simp; omega) ?_))
          rw [intsC_snoc]
          exact hnext
      · rw [if_neg h1]
        have hnext := ih (k + 1) (by omega) (acc ++ [xs[k]]) (by simp; omega)
        rw [← wrk (by unfold maxI; omega), List.append_assoc] at hnext
        refine bifF (decide_eq_false h1) (atNum hlt (appTo (by rw [intsC_len]; simp; omega) ?_))
        rw [intsC_snoc]
        exact hnext
  exact spec_insert_le (key xs.length 0 (by omega) [] (by simp))
end Go.Proofs.Ytoljlooeiljpfaa

set_option linter.unusedVariables false
set_option linter.unusedSimpArgs false
namespace Go.Proofs.Ytoljlooeiljpfaa
open Go
/-- A list without a number; a number, put into a list. -/
def wB (n : Int) (ys : List Int) : List Int := ys.filter fun y => !(y == n)
def wF (n : Int) : List Int → List Int
  | [] => [n]
  | y :: ys => if y ≥ n then n :: wB n (y :: ys) else y :: wF n ys
theorem wB_all {n : Int} {ys : List Int} (h : ∀ y ∈ ys, n < y) : wB n ys = ys := by
  unfold wB
  rw [List.filter_eq_self]
  intro y hy
  have := h y hy
  simp
  omega
theorem wB_cons (n y : Int) (ys : List Int) : wB n (y :: ys) = if y = n then wB n ys else y :: wB n ys := by
  unfold wB
  rw [List.filter_cons]
  by_cases h : y = n <;> simp [h]
theorem wF_asc (S : Nat → Bool) (j : Nat) : ∀ (m a : Nat), wF (j : Int) (ascR S a m) = insL (ascR S a m) (j : Int)
  | 0, a => rfl
  | m + 1, a => by
    rw [ascR_succ]
    split
    · unfold wF insL
      have hr : wB (j : Int) (ascR S (a + 1) m) = ascR S (a + 1) m ∨ (a : Int) < j := by
        by_cases h : (a : Int) < j
        · exact .inr h
        · exact .inl (wB_all fun y hy => by have := ascR_ge y hy; omega)
      by_cases h : (a : Int) ≥ (j : Int)
      · rw [if_pos h, if_pos h, wB_cons, hr.resolve_right (by omega)]
        by_cases h2 : (a : Int) = (j : Int)
        · rw [if_pos h2, if_neg (by omega), h2]
        · rw [if_neg h2, if_pos (by omega)]
      · rw [if_neg h, if_neg h, wF_asc S j m (a + 1)]
    · exact wF_asc S j m (a + 1)
theorem i_withIntL (xs : List Int) (n : Int) (hx : xs.length ≤ 1048576) : impl_withInt [.cell (.sl 1 (intsC xs)), .cell (.int n)] = rL (wF n xs) := by
  have rest : ∀ m k : Nat, k + m = xs.length → ∀ acc : List Int, acc.length ≤ k + 1 → impl_withInt_L0 n (intsC acc) true (intsC xs) ((xs.length : Nat) : Int) (k : Int) = rL (acc ++ wB n (xs.drop k)) := by
    intro m
    induction m with
    | zero =>
      intro k hk acc ha
      rw [List.drop_eq_nil_of_le (by omega)]
      refine impl_withInt_L0_le (bifF (decide_eq_false (by omega)) (bifF rfl ?_))
      rw [show wB n [] = [] from rfl, List.append_nil]
    | succ m ih =>
      intro k hk acc ha
      have hlt : k < xs.length := by omega
      have w : wrapI ((k : Int) + 1) = ((k + 1 : Nat) : Int) := wrk (by unfold maxI; omega)
      rw [List.drop_eq_getElem_cons hlt, wB_cons]
      refine impl_withInt_L0_le (bifT (decide_eq_true (by omega)) (atNum hlt ?_))
      rw [w]
      have app : ∀ r, impl_withInt_L0 n (intsC (acc ++ [xs[k]])) true (intsC xs) ((xs.length : Nat) : Int) ((k + 1 : Nat) : Int) = some r → appR (intsC acc) [[.int xs[k]]] (fun l12 => impl_withInt_L0 n l12 true (intsC xs) ((xs.length : Nat) : Int) ((k + 1 : Nat) : Int)) = some r := fun r h => appTo (by rw [intsC_len]; simp; omega) (by rw [intsC_snoc]; exact h)
      by_cases h2 : xs[k] = n
      · rw [if_pos h2]
        refine bifT (decide_eq_true (by omega)) (bifF rfl (bifF (nef h2) ?_))
        exact ih (k + 1) (by omega) acc (by omega)
      · rw [if_neg h2]
        have nx := ih (k + 1) (by omega) (acc ++ [xs[k]]) (by simp; omega)
        rw [List.append_assoc] at nx
        by_cases h : xs[k] ≥ n
        · exact bifT (decide_eq_true h) (bifF rfl (bifT (net h2) (app _ (by rw [nx]; rfl))))
        · exact bifF (decide_eq_false h) (bifT (net h2) (app _ (by rw [nx]; rfl)))
  have key : ∀ m k : Nat, k + m = xs.length → ∀ acc : List Int, acc.length ≤ k → impl_withInt_L0 n (intsC acc) false (intsC xs) ((xs.length : Nat) : Int) (k : Int) = rL (acc ++ wF n (xs.drop k)) := by
    intro m
    induction m with
    | zero =>
      intro k hk acc ha
      rw [List.drop_eq_nil_of_le (by omega)]
      refine impl_withInt_L0_le (bifF (decide_eq_false (by omega)) (bifT rfl (appTo (by rw [intsC_len]; simp; omega) ?_)))
      rw [intsC_snoc]
      rfl
    | succ m ih =>
      intro k hk acc ha
      have hlt : k < xs.length := by omega
      have w : wrapI ((k : Int) + 1) = ((k + 1 : Nat) : Int) := wrk (by unfold maxI; omega)
      rw [List.drop_eq_getElem_cons hlt]
      refine impl_withInt_L0_le (bifT (decide_eq_true (by omega)) (atNum hlt ?_))
      rw [w]
      unfold wF
      by_cases h : xs[k] ≥ n
      · rw [if_pos h, wB_cons]
        refine bifT (decide_eq_true h) (bifT rfl (appTo (by rw [intsC_len]; simp; omega) ?_))
        rw [intsC_snoc]
        by_cases h2 : xs[k] = n
        · rw [if_pos h2]
          refine bifF (nef h2) ?_
          rw [rest m (k + 1) (by omega) (acc ++ [n]) (by simp; omega), List.append_assoc]
          rfl
        · rw [if_neg h2]
          refine bifT (net h2) (appTo (by rw [intsC_len]; simp; omega) ?_)
          rw [intsC_snoc, rest m (k + 1) (by omega) (acc ++ [n] ++ [xs[k]]) (by simp; omega), List.append_assoc, List.append_assoc]
          rfl
      · rw [if_neg h]
        refine bifF (decide_eq_false h) (bifT (net (by omega)) (appTo (by rw [intsC_len]; simp; omega) ?_))
        rw [intsC_snoc, ih (k + 1) (by omega) (acc ++ [xs[k]]) (by simp; omega), List.append_assoc]
        rfl
  have := key xs.length 0 (by omega) [] (by simp)
  refine impl_withInt_le ?_
  rw [intsC_len]
  exact this
theorem i_hasIntL (xs : List Int) (n : Int) (hx : xs.length ≤ 1048576) : impl_hasInt [.cell (.sl 1 (intsC xs)), .cell (.int n)] = rB (xs.contains n) := by
  have key : ∀ m k : Nat, k + m = xs.length → impl_hasInt_L0 n (intsC xs) ((xs.length : Nat) : Int) (k : Int) = rB ((xs.drop k).contains n) := by
    intro m
    induction m with
    | zero =>
      intro k hk
      rw [List.drop_eq_nil_of_le (by omega)]
      exact impl_hasInt_L0_le (bifF (decide_eq_false (by omega)) rfl)
    | succ m ih =>
      intro k hk
      have hlt : k < xs.length := by omega
      have hnext := ih (k + 1) (by omega)
      rw [← wrk (by unfold maxI; omega)] at hnext
      rw [List.drop_eq_getElem_cons hlt, List.contains_cons]
      refine impl_hasInt_L0_le (bifT (decide_eq_true (by omega)) (atNum hlt ?_))
      rcases e : (xs[k] == n) with _ | _
      · rw [show (n == xs[k]) = false by rw [beq_eq_false_iff_ne] at e ⊢; exact fun h => e h.symm, Bool.false_or]
        exact bifF rfl hnext
      · rw [show (n == xs[k]) = true by rw [beq_iff_eq] at e ⊢; exact e.symm, Bool.true_or]
        exact bifT rfl rfl
  refine impl_hasInt_le ?_
  rw [intsC_len]
  exact key xs.length 0 (by omega)
/-! Sets of numbers below m. -/
theorem ascR_len (S : Nat → Bool) (a m : Nat) : (ascR S a m).length ≤ m := by
  unfold ascR
  rw [List.length_map]
  have := List.length_filter_le S (List.range' a m)
  simpa using this
def orS (A B : Nat → Bool) : Nat → Bool := fun i => A i || B i
def oneS (j : Nat) : Nat → Bool := fun i => i == j
theorem i_ins {m j : Nat} (hj : j < m) (hm : m ≤ 1000) (A : Nat → Bool) : impl_withInt [.cell (.sl 1 (intsC (ascR A 0 m))), .cell (.int (j : Int))] = rL (ascR (orS A (oneS j)) 0 m) := by
  have hl := ascR_len A 0 m
  rw [i_withIntL _ _ (by omega), wF_asc, insL_asc A j m 0 (by omega) (by omega)]
  rfl
theorem s_ins {m j : Nat} (hj : j < m) (hm : m ≤ 1000) (A : Nat → Bool) : spec_insert [.cell (.sl 1 (intsC (ascR A 0 m))), .cell (.int (j : Int))] = rL (ascR (orS A (oneS j)) 0 m) := by
  have hl := ascR_len A 0 m
  rw [s_insertL _ _ (by omega), insL_asc A j m 0 (by omega) (by omega)]
  rfl
/-- What an expression names. -/
theorem named_both {m : Nat} (hm : m ≤ 1000) : ∀ (s : Nat) (o n : Int) (kids : List (List AC)), Fit .expr [.int o, .int n, .sl 3 kids] → Nm m [.int o, .int n, .sl 3 kids] → cS [.int o, .int n, .sl 3 kids] < s → s ≤ 31 →
    ∃ C : Nat → Bool, ∀ A : Nat → Bool, impl_withNamed [.cell (.sl 1 (intsC (ascR A 0 m))), .agg [.int o, .int n, .sl 3 kids]] = rL (ascR (orS A C) 0 m) ∧ spec_calleesIn [.agg [.int o, .int n, .sl 3 kids], .cell (.sl 1 (intsC (ascR A 0 m)))] = rL (ascR (orS A C) 0 m) := by
  intro s
  induction s with
  | zero => intro o n kids _ _ h; omega
  | succ s ihs =>
    intro o n kids hf hn hs hs31
    obtain ⟨_, _, hml, hk⟩ := fit_ex hf
    have hn' : (o = 9 ∨ o = 10 → 0 ≤ n ∧ n < m) ∧ ∀ k, k < kids.length → Nm m (kids.getD k []) := by
      generalize hx : [AC.int o, AC.int n, AC.sl 3 kids] = x at hn
      cases hn with
      | node o' n' kids' h1 h2 =>
        simp only [List.cons.injEq, AC.int.injEq, AC.sl.injEq, true_and, and_true] at hx
        obtain ⟨rfl, rfl, rfl⟩ := hx
        exact ⟨h1, h2⟩
    have hcs := cS_ex o n kids
    have kidC : ∀ k, k < kids.length → ∃ C : Nat → Bool, ∀ A : Nat → Bool, impl_withNamed [.cell (.sl 1 (intsC (ascR A 0 m))), .agg (kids.getD k [])] = rL (ascR (orS A C) 0 m) ∧ spec_calleesIn [.agg (kids.getD k []), .cell (.sl 1 (intsC (ascR A 0 m)))] = rL (ascR (orS A C) 0 m) := fun k hlt => by
      obtain ⟨o', n', ks, e, hf'⟩ := fit_kid hk hlt
      have h1 := kid_lt hlt (o := o) (n := n)
      have h2 := hn'.2 k hlt
      rw [e] at h1 h2 ⊢
      exact ihs o' n' ks hf' h2 (by omega) (by omega)
    have rest : ∀ j k : Nat, k + j = kids.length → ∃ C : Nat → Bool, ∀ A : Nat → Bool, impl_withNamed_L0 (intsC (ascR A 0 m)) kids ((kids.length : Nat) : Int) (k : Int) = rL (ascR (orS A C) 0 m) ∧ spec_calleesIn_L0 (intsC (ascR A 0 m)) o n kids (k : Int) = rL (ascR (orS A C) 0 m) := by
      intro j
      induction j with
      | zero =>
        intro k hkj
        refine ⟨fun _ => false, fun A => ?_⟩
        rw [show orS A (fun _ => false) = A by funext i; simp [orS]]
        exact ⟨impl_withNamed_L0_le (bifF (decide_eq_false (by omega)) rfl), spec_calleesIn_L0_le (bifF (decide_eq_false (by omega)) rfl)⟩
      | succ j ih =>
        intro k hkj
        have hlt : k < kids.length := by omega
        obtain ⟨C1, h1⟩ := kidC k hlt
        obtain ⟨C2, h2⟩ := ih (k + 1) (by omega)
        obtain ⟨o', n', ks, e, _⟩ := fit_kid hk hlt
        refine ⟨orS C1 C2, fun A => ?_⟩
        rw [show orS A (orS C1 C2) = orS (orS A C1) C2 by funext i; simp [orS, Bool.or_assoc]]
        have g1 := h1 A
        have g2 := h2 (orS A C1)
        rw [e] at g1
        refine ⟨impl_withNamed_L0_le (bifT (decide_eq_true (by omega)) (atExpr hlt e (callS g1.1 ?_))), spec_calleesIn_L0_le (bifT (decide_eq_true (by omega)) (atExpr hlt e (callS g1.2 ?_)))⟩
        · rw [wrk (by omega)]; exact g2.1
        · rw [wrk (by omega)]; exact g2.2
    obtain ⟨C, hC⟩ := rest kids.length 0 (by omega)
    by_cases h : o = 9 ∨ o = 10
    · have hr := hn'.1 h
      obtain ⟨j, rfl⟩ : ∃ j : Nat, n = (j : Int) := ⟨n.toNat, by omega⟩
      refine ⟨orS (oneS j) C, fun A => ?_⟩
      rw [show orS A (orS (oneS j) C) = orS (orS A (oneS j)) C by funext i; simp [orS, Bool.or_assoc]]
      have g := hC (orS A (oneS j))
      have gi := i_ins (show j < m by omega) hm A
      have gs := s_ins (show j < m by omega) hm A
      rcases h with rfl | rfl
      · exact ⟨impl_withNamed_le (bifT rfl (callS gi g.1)), spec_calleesIn_le (bifT rfl (callS gs g.2))⟩
      · exact ⟨impl_withNamed_le (bifF rfl (bifT rfl (callS gi g.1))), spec_calleesIn_le (bifF rfl (bifT rfl (callS gs g.2)))⟩
    · refine ⟨C, fun A => ?_⟩
      have g := hC A
      have h9 : o ≠ 9 := fun h' => h (.inl h')
      have h10 : o ≠ 10 := fun h' => h (.inr h')
      exact ⟨impl_withNamed_le (bifF (eqf h9) (bifF (eqf h10) g.1)), spec_calleesIn_le (bifF (eqf h9) (bifF (eqf h10) g.2))⟩
end Go.Proofs.Ytoljlooeiljpfaa

set_option linter.unusedVariables false
set_option linter.unusedSimpArgs false
namespace Go.Proofs.Ytoljlooeiljpfaa
open Go
section
variable (C : Nat → Nat → Bool) (m : Nat)
def stI (A : Nat → Bool) : Nat → Bool := fun x => A x || (List.range m).any fun i => A i && C i x
def itI (f : Nat) : Nat → Nat → Bool
  | 0 => oneS f
  | r + 1 => stI C m (itI f r)
def gF : Nat → Nat → (Nat → Bool) → Nat → Bool
  | _, 0, O => O
  | i, j + 1, O => gF (i + 1) j (if O i then orS O (C i) else O)
def itS (f : Nat) : Nat → Nat → Bool
  | 0 => oneS f
  | r + 1 => gF C 0 m (itS f r)
inductive Rch (f : Nat) : Nat → Prop
  | refl : Rch f f
  | step {i x : Nat} (h : Rch f i) (hi : i < m) (hx : x < m) (hc : C i x = true) : Rch f x
def Cl (A : Nat → Bool) : Prop := ∀ i, i < m → A i = true → ∀ x, x < m → C i x = true → A x = true
variable {C m}
theorem stI_iff {A : Nat → Bool} {x : Nat} : stI C m A x = true ↔ A x = true ∨ ∃ i, i < m ∧ A i = true ∧ C i x = true := by
  unfold stI
  simp only [Bool.or_eq_true, List.any_eq_true, List.mem_range, Bool.and_eq_true]
theorem rch_least {f : Nat} {A : Nat → Bool} (hC : Cl C m A) (hf : A f = true) {x : Nat} (h : Rch C m f x) : A x = true := by
  induction h with
  | refl => exact hf
  | step _ hi hx hc ih => exact hC _ hi ih _ hx hc
theorem itI_sound {f : Nat} : ∀ (r x : Nat), x < m → itI C m f r x = true → Rch C m f x
  | 0, x, _, h => by
    simp only [itI, oneS, beq_iff_eq] at h
    subst h
    exact .refl
  | r + 1, x, hx, h => by
    rcases stI_iff.1 h with h | ⟨i, hi, h1, h2⟩
    · exact itI_sound r x hx h
    · exact .step (itI_sound r i hi h1) hi hx h2
theorem itI_self (f : Nat) : ∀ r, itI C m f r f = true
  | 0 => by simp [itI, oneS]
  | r + 1 => stI_iff.2 (.inl (itI_self f r))
theorem countP_le_of {p q : Nat → Bool} {l : List Nat} (h : ∀ x ∈ l, p x = true → q x = true) {y : Nat} (hy : y ∈ l) (h1 : p y = false) (h2 : q y = true) : l.countP p + 1 ≤ l.countP q := by
  induction l with
  | nil => cases hy
  | cons a l ih =>
    have hm : l.countP p ≤ l.countP q := List.countP_mono_left fun x hx => h x (List.mem_cons_of_mem _ hx)
    rcases List.mem_cons.1 hy with rfl | hy
    · rw [List.countP_cons_of_neg (by simp [h1]), List.countP_cons_of_pos h2]
      omega
    · have := ih (fun x hx => h x (List.mem_cons_of_mem _ hx)) hy
      rcases hp : p a with _ | _
      · rw [List.countP_cons_of_neg (by simp [hp])]
        rcases hq : q a with _ | _
        · rw [List.countP_cons_of_neg (by simp [hq])]; exact this
        · rw [List.countP_cons_of_pos hq]; omega
      · rw [List.countP_cons_of_pos hp, List.countP_cons_of_pos (h a List.mem_cons_self hp)]
        omega
theorem itI_grows {f : Nat} (hf : f < m) : ∀ r, Cl C m (itI C m f r) ∨ r + 1 ≤ (List.range m).countP (itI C m f r)
  | 0 => .inr (by
    have : 0 < (List.range m).countP (itI C m f 0) := List.countP_pos_iff.2 ⟨f, List.mem_range.2 hf, itI_self f 0⟩
    omega)
  | r + 1 => by
    by_cases hc : Cl C m (itI C m f r)
    · left
      intro i hi h x hx hcx
      have back : ∀ y, y < m → itI C m f (r + 1) y = true → itI C m f r y = true := fun y hy h => by
        rcases stI_iff.1 h with h | ⟨k, hk, h1, h2⟩
        · exact h
        · exact hc k hk h1 y hy h2
      exact stI_iff.2 (.inl (hc i hi (back i hi h) x hx hcx))
    · right
      have hle := (itI_grows hf r).resolve_left hc
      obtain ⟨i, hi⟩ := Classical.not_forall.1 hc
      have h1 : i < m := Classical.byContradiction fun h => hi fun h' => absurd h' h
      have h2 : itI C m f r i = true := Classical.byContradiction fun h => hi fun _ h' => absurd h' h
      obtain ⟨x, hx⟩ := Classical.not_forall.1 fun h => hi fun _ _ => h
      have h3 : x < m := Classical.byContradiction fun h => hx fun h' => absurd h' h
      have h4 : C i x = true := Classical.byContradiction fun h => hx fun _ h' => absurd h' h
      have h5 : ¬ itI C m f r x = true := fun h => hx fun _ _ => h
      have := countP_le_of (l := List.range m) (p := itI C m f r) (q := itI C m f (r + 1)) (fun z _ h => stI_iff.2 (.inl h)) (List.mem_range.2 h3) (by simpa using h5) (stI_iff.2 (.inr ⟨i, h1, h2, h4⟩))
      omega
theorem itI_closed {f : Nat} (hf : f < m) : Cl C m (itI C m f m) := by
  rcases itI_grows (C := C) hf m with h | h
  · exact h
  · have := List.countP_le_length (p := itI C m f m) (l := List.range m)
    rw [List.length_range] at this
    omega
theorem gF_sub : ∀ (j i : Nat) (O : Nat → Bool) (x : Nat), O x = true → gF C i j O x = true
  | 0, _, _, _, h => h
  | j + 1, i, O, x, h => by
    refine gF_sub j (i + 1) _ x ?_
    split
    · simp [orS, h]
    · exact h
theorem gF_has : ∀ (j i : Nat) (O : Nat → Bool) (k x : Nat), i ≤ k → k < i + j → O k = true → C k x = true → gF C i j O x = true
  | 0, i, O, k, x, h1, h2, _, _ => by omega
  | j + 1, i, O, k, x, h1, h2, hk, hx => by
    unfold gF
    by_cases e : k = i
    · subst e
      rw [if_pos hk]
      exact gF_sub j _ _ x (by simp [orS, hx])
    · refine gF_has j (i + 1) _ k x (by omega) (by omega) ?_ hx
      split
      · simp [orS, hk]
      · exact hk
theorem gF_sound {f : Nat} : ∀ (j i : Nat) (O : Nat → Bool), i + j = m → (∀ x, x < m → O x = true → Rch C m f x) → ∀ x, x < m → gF C i j O x = true → Rch C m f x
  | 0, _, _, _, h, x, hx, hg => h x hx hg
  | j + 1, i, O, hij, h, x, hx, hg => by
    refine gF_sound j (i + 1) _ (by omega) (fun y hy ho => ?_) x hx hg
    split at ho
    · rename_i hi
      simp only [orS, Bool.or_eq_true] at ho
      rcases ho with ho | ho
      · exact h y hy ho
      · exact .step (h i (by omega) hi) (by omega) hy ho
    · exact h y hy ho
theorem itS_sound {f : Nat} : ∀ (r x : Nat), x < m → itS C m f r x = true → Rch C m f x
  | 0, x, _, h => by
    simp only [itS, oneS, beq_iff_eq] at h
    subst h
    exact .refl
  | r + 1, x, hx, h => gF_sound m 0 _ (by omega) (fun y hy => itS_sound r y hy) x hx h
theorem itS_sup {f : Nat} : ∀ (r x : Nat), itI C m f r x = true → itS C m f r x = true
  | 0, x, h => h
  | r + 1, x, h => by
    rcases stI_iff.1 h with h | ⟨i, hi, h1, h2⟩
    · exact gF_sub m 0 _ x (itS_sup r x h)
    · exact gF_has m 0 _ i x (by omega) (by omega) (itS_sup r i h1) h2
/-- Both rounds end alike. -/
theorem it_eq {f : Nat} (hf : f < m) : ascR (itS C m f m) 0 m = ascR (itI C m f m) 0 m := ascR_cong fun x _ hx => by
  rw [Bool.eq_iff_iff]
  exact ⟨fun h => rch_least (itI_closed hf) (itI_self f m) (itS_sound m x (by omega) h), itS_sup m x⟩
end
theorem rL_cong {a b : List Int} (h : a = b) : rL a = rL b := by rw [h]
theorem asc_none (m : Nat) : ascR (fun _ => false) 0 m = [] := by
  unfold ascR
  rw [List.filter_eq_nil_iff.2 (by simp)]
  rfl
theorem asc_one {m j : Nat} (hj : j < m) : ascR (oneS j) 0 m = [(j : Int)] := by
  have := insL_asc (fun _ => false) j m 0 (by omega) (by omega)
  rw [asc_none] at this
  exact this.symm.trans rfl |>.symm ▸ this.symm
theorem asc_in {S : Nat → Bool} {m : Nat} {y : Int} (h : y ∈ ascR S 0 m) : ∃ j : Nat, y = (j : Int) ∧ j < m ∧ S j = true := by
  unfold ascR at h
  obtain ⟨i, hi, rfl⟩ := List.mem_map.1 h
  obtain ⟨h1, h2⟩ := List.mem_filter.1 hi
  exact ⟨i, rfl, by have := List.mem_range'_1.1 h1; omega, h2⟩
theorem pickC {m : Nat} {P : Nat → (Nat → Bool) → Prop} (h : ∀ k, k < m → ∃ t, P k t) : ∃ T : Nat → Nat → Bool, ∀ k, k < m → P k (T k) :=
  ⟨fun k => open Classical in if hk : k < m then (h k hk).choose else fun _ => false, fun k hk => by
    simp only [dif_pos hk]
    exact (h k hk).choose_spec⟩
def foldS (C : Nat → Nat → Bool) : List Int → (Nat → Bool) → Nat → Bool
  | [], O => O
  | f :: fs, O => foldS C fs (orS O (C f.toNat))
theorem foldS_iff {C : Nat → Nat → Bool} {x : Nat} : ∀ {xs : List Int} {O : Nat → Bool}, foldS C xs O x = true ↔ O x = true ∨ ∃ f ∈ xs, C f.toNat x = true
  | [], O => by simp [foldS]
  | f :: fs, O => by
    rw [foldS, foldS_iff]
    simp only [orS, Bool.or_eq_true, List.mem_cons, or_assoc]
    constructor
    · rintro (h | h | ⟨g, hg, h⟩)
      · exact .inl h
      · exact .inr ⟨f, .inl rfl, h⟩
      · exact .inr ⟨g, .inr hg, h⟩
    · rintro (h | ⟨g, rfl | hg, h⟩)
      · exact .inl h
      · exact .inr (.inl h)
      · exact .inr (.inr ⟨g, hg, h⟩)
def insA : List Int → (Nat → Bool) → Nat → Bool
  | [], O => O
  | f :: fs, O => insA fs (orS O (oneS f.toNat))
theorem insA_iff {x : Nat} : ∀ {xs : List Int} {O : Nat → Bool}, insA xs O x = true ↔ O x = true ∨ ∃ f ∈ xs, x = f.toNat
  | [], O => by simp [insA]
  | f :: fs, O => by
    rw [insA, insA_iff]
    simp only [orS, oneS, Bool.or_eq_true, List.mem_cons, or_assoc, beq_iff_eq]
    constructor
    · rintro (h | h | ⟨g, hg, h⟩)
      · exact .inl h
      · exact .inr ⟨f, .inl rfl, h⟩
      · exact .inr ⟨g, .inr hg, h⟩
    · rintro (h | ⟨g, rfl | hg, h⟩)
      · exact .inl h
      · exact .inr (.inl h)
      · exact .inr (.inr ⟨g, hg, h⟩)
section
variable {D : List DM} {R : List PM}
/-- What the functions of a valid program name. -/
def Names (R : List PM) (C : Nat → Nat → Bool) : Prop := ∀ k, k < R.length → ∀ A : Nat → Bool, impl_withNamed [.cell (.sl 1 (intsC (ascR A 0 R.length))), .agg (bodyC (gP R k))] = rL (ascR (orS A (C k)) 0 R.length) ∧ spec_calleesIn [.agg (bodyC (gP R k)), .cell (.sl 1 (intsC (ascR A 0 R.length)))] = rL (ascR (orS A (C k)) 0 R.length)
theorem names_of (hi : PIn D R) (hv : VP D R) : ∃ C, Names R C := by
  have hR := hv.cp.rl
  exact pickC fun k hk => by
    have hs := hv.small k hk
    exact named_both (by omega) 30 _ _ _ (hi.r _ (gP_mem hk)).b (hv.nm k hk) (by show cS (bodyC (gP R k)) < 30; omega) (by omega)
theorem orS_none (C : Nat → Bool) : orS (fun _ => false) C = C := by funext i; simp [orS]
variable {C : Nat → Nat → Bool} (hN : Names R C) (h4 : R.length ≤ 4)
include hN h4
omit h4 in
theorem i_callees {k : Nat} (hk : k < R.length) : impl_withNamed [.cell (.sl 1 []), .agg (bodyC (gP R k))] = rL (ascR (C k) 0 R.length) := by
  have := (hN k hk (fun _ => false)).1
  rw [asc_none, orS_none] at this
  exact this
omit h4 in
theorem s_callees {k : Nat} (hk : k < R.length) : spec_calleesIn [.agg (bodyC (gP R k)), .cell (.sl 1 [])] = rL (ascR (C k) 0 R.length) := by
  have := (hN k hk (fun _ => false)).2
  rw [asc_none, orS_none] at this
  exact this
theorem i_round (ds : List (List AC)) (A : Nat → Bool) : impl_withCallees [.agg [.sl 3 ds, .sl 5 (pmsC R)], .cell (.sl 1 (intsC (ascR A 0 R.length)))] = rL (ascR (stI C R.length A) 0 R.length) := by
  have hl := ascR_len A 0 R.length
  generalize hxs : ascR A 0 R.length = xs at hl
  have hx : ∀ y ∈ xs, ∃ j : Nat, y = (j : Int) ∧ j < R.length ∧ A j = true := fun y hy => asc_in (by rw [hxs]; exact hy)
  have key : ∀ j k : Nat, k + j = xs.length → ∀ O : Nat → Bool, impl_withCallees_L0 ds (pmsC R) (intsC (ascR O 0 R.length)) (intsC xs) ((xs.length : Nat) : Int) (k : Int) = rL (ascR (foldS C (xs.drop k) O) 0 R.length) := by
    intro j
    induction j with
    | zero =>
      intro k hk O
      rw [List.drop_eq_nil_of_le (by omega)]
      exact impl_withCallees_L0_le (bifF (decide_eq_false (by omega)) rfl)
    | succ j ih =>
      intro k hk O
      have hlt : k < xs.length := by omega
      obtain ⟨i, e, hi, _⟩ := hx _ (List.getElem_mem hlt)
      rw [List.drop_eq_getElem_cons hlt, foldS]
      refine impl_withCallees_L0_le (bifT (decide_eq_true (by omega)) (atNum hlt (atPmI (k := i) e hi (callS (hN i hi O).1 ?_))))
      rw [wrk (by unfold maxI; omega), ih (k + 1) (by omega), e, Int.toNat_natCast]
  refine impl_withCallees_le ?_
  have := key xs.length 0 (by omega) A
  rw [hxs] at this
  rw [intsC_len]
  refine this.trans ?_
  rw [List.drop_zero]
  refine rL_cong (ascR_cong fun x _ hx' => ?_)
  rw [Bool.eq_iff_iff, foldS_iff, stI_iff]
  constructor
  · rintro (h | ⟨f, hf, h⟩)
    · exact .inl h
    · obtain ⟨i, rfl, hi, ha⟩ := hx f hf
      exact .inr ⟨i, hi, ha, by simpa using h⟩
  · rintro (h | ⟨i, hi, ha, h⟩)
    · exact .inl h
    · refine .inr ⟨(i : Int), ?_, by simpa using h⟩
      rw [← hxs, ← List.contains_iff_mem, asc_mem A hi]
      exact ha
theorem i_reached (hi : PIn D R) (hval : impl_ValidProgram [.agg [.sl 3 (decsC D), .sl 5 (pmsC R)]] = rB true) {f : Nat} (hf : f < R.length) : impl_ReachedFrom [.agg [.sl 3 (decsC D), .sl 5 (pmsC R)], .cell (.int (f : Int))] = rL (ascR (itI C R.length f R.length) 0 R.length) := by
  have key : ∀ j k : Nat, k + j = R.length → impl_ReachedFrom_L0 (decsC D) (pmsC R) (intsC (ascR (itI C R.length f k) 0 R.length)) (k : Int) = rL (ascR (itI C R.length f R.length) 0 R.length) := by
    intro j
    induction j with
    | zero =>
      intro k hk
      refine impl_ReachedFrom_L0_le (bifF (decide_eq_false (by rw [pmsC_len]; omega)) ?_)
      rw [show k = R.length by omega]
    | succ j ih =>
      intro k hk
      refine impl_ReachedFrom_L0_le (bifT (decide_eq_true (by rw [pmsC_len]; omega)) (callS (i_round hN h4 (decsC D) _) ?_))
      rw [wrk (by unfold maxI; omega)]
      exact ih (k + 1) (by omega)
  refine impl_ReachedFrom_le (callB hval (bifF rfl (callB (pi_hasFuncB _) (bifF (by rw [decide_eq_true (by omega)]; rfl) ?_))))
  have := key R.length 0 (by omega)
  rw [itI, asc_one hf] at this
  exact this
omit hN in
theorem s_ins4 (ds : List (List AC)) (rd i : Int) (xs : List Int) (hx : ∀ y ∈ xs, ∃ j : Nat, y = (j : Int) ∧ j < R.length) (hl : xs.length ≤ 1000) : ∀ j k : Nat, k + j = xs.length → ∀ (O : Nat → Bool) (r : AV), spec_reachedFrom_L2 ds (pmsC R) (intsC (ascR (insA (xs.drop k) O) 0 R.length)) rd (wrapI (i + 1)) = some r →
    spec_reachedFrom_L4 ds (pmsC R) (intsC (ascR O 0 R.length)) rd i (intsC xs) (k : Int) = some r := by
  intro j
  induction j with
  | zero =>
    intro k hk O r h
    rw [List.drop_eq_nil_of_le (by omega)] at h
    exact spec_reachedFrom_L4_le (bifF (decide_eq_false (by rw [intsC_len]; omega)) h)
  | succ j ih =>
    intro k hk O r h
    have hlt : k < xs.length := by omega
    obtain ⟨i', e, hi'⟩ := hx _ (List.getElem_mem hlt)
    rw [List.drop_eq_getElem_cons hlt, insA, e, Int.toNat_natCast] at h
    refine spec_reachedFrom_L4_le (bifT (decide_eq_true (by rw [intsC_len]; omega)) (atNum hlt ?_))
    rw [e]
    refine callS (s_ins hi' (by omega) O) ?_
    rw [wrk (by unfold maxI; omega)]
    exact ih (k + 1) (by omega) _ r h
theorem s_round (ds : List (List AC)) (rd : Int) : ∀ j i : Nat, i + j = R.length → ∀ (O : Nat → Bool) (r : AV), spec_reachedFrom_L0 ds (pmsC R) (intsC (ascR (gF C i j O) 0 R.length)) (wrapI (rd + 1)) = some r → spec_reachedFrom_L2 ds (pmsC R) (intsC (ascR O 0 R.length)) rd (i : Int) = some r := by
  intro j
  induction j with
  | zero =>
    intro i hi O r h
    exact spec_reachedFrom_L2_le (bifF (decide_eq_false (by rw [pmsC_len]; omega)) h)
  | succ j ih =>
    intro i hi O r h
    have hlt : i < R.length := by omega
    have hl := ascR_len O 0 R.length
    have nx := ih (i + 1) (by omega)
    have w : wrapI ((i : Int) + 1) = ((i + 1 : Nat) : Int) := wrk (by unfold maxI; omega)
    refine spec_reachedFrom_L2_le (bifT (decide_eq_true (by rw [pmsC_len]; omega)) (callB (s_isInL _ _ (by omega)) ?_))
    rw [asc_mem O hlt]
    unfold gF at h
    rcases ho : O i with _ | _
    · rw [ho] at h
      refine bifF rfl ?_
      rw [w]
      exact nx O r h
    · rw [ho, if_pos rfl] at h
      refine bifT rfl (atPmI (k := i) rfl hlt (callS (s_callees hN hlt) ?_))
      have hl2 := ascR_len (C i) 0 R.length
      refine s_ins4 h4 ds rd (i : Int) (ascR (C i) 0 R.length) (fun y hy => by obtain ⟨k, e, hk, _⟩ := asc_in hy; exact ⟨k, e, hk⟩) (by omega) (ascR (C i) 0 R.length).length 0 (by omega) O r ?_
      rw [List.drop_zero, w]
      have e : ascR (insA (ascR (C i) 0 R.length) O) 0 R.length = ascR (orS O (C i)) 0 R.length := ascR_cong fun x _ hx => by
        rw [Bool.eq_iff_iff, insA_iff]
        simp only [orS, Bool.or_eq_true]
        constructor
        · rintro (h | ⟨g, hg, h⟩)
          · exact .inl h
          · obtain ⟨k, rfl, hk, hc⟩ := asc_in hg
            rw [Int.toNat_natCast] at h
            rw [h]
            exact .inr hc
        · rintro (h | h)
          · exact .inl h
          · refine .inr ⟨(x : Int), ?_, by simp⟩
            rw [← List.contains_iff_mem, asc_mem (C i) (by omega)]
            exact h
      rw [e]
      exact nx _ r h
theorem s_reached (ds : List (List AC)) {f : Nat} (hf : f < R.length) : spec_reachedFrom [.agg [.sl 3 ds, .sl 5 (pmsC R)], .cell (.int (f : Int))] = rL (ascR (itI C R.length f R.length) 0 R.length) := by
  have key : ∀ j k : Nat, k + j = R.length → spec_reachedFrom_L0 ds (pmsC R) (intsC (ascR (itS C R.length f k) 0 R.length)) (k : Int) = rL (ascR (itS C R.length f R.length) 0 R.length) := by
    intro j
    induction j with
    | zero =>
      intro k hk
      refine spec_reachedFrom_L0_le (bifF (decide_eq_false (by rw [pmsC_len]; omega)) ?_)
      rw [show k = R.length by omega]
    | succ j ih =>
      intro k hk
      refine spec_reachedFrom_L0_le (bifT (decide_eq_true (by rw [pmsC_len]; omega)) (s_round hN h4 ds _ R.length 0 (by omega) _ _ ?_))
      rw [wrk (by unfold maxI; omega)]
      exact ih (k + 1) (by omega)
  have := key R.length 0 (by omega)
  rw [itS, asc_one hf, it_eq hf] at this
  exact spec_reachedFrom_le this
end
theorem mayInline_ex {ds fs : List (List AC)} (h : Fit .prog [.sl 3 ds, .sl 5 fs]) (n : Int) : ∃ b : Bool, impl_MayInline [.agg [.sl 3 ds, .sl 5 fs], .cell (.int n)] = rB b ∧ spec_MayInline [.agg [.sl 3 ds, .sl 5 fs], .cell (.int n)] = rB b := by
  obtain ⟨D, R, rfl, rfl, hi⟩ := pin_of h
  obtain ⟨b, h1, h2, h3⟩ := vp_both hi
  cases b with
  | false => exact ⟨false, impl_MayInline_le (callB h1 (bifT rfl rfl)), spec_MayInline_le (callB h2 (bifF rfl rfl))⟩
  | true =>
    have hv := h3 rfl
    have hR := hv.cp.rl
    have hw : wrapI ((((pmsC R).length : Nat) : Int) - 1) = R.length - 1 := by rw [pmsC_len]; exact wr (by omega) (by omega)
    by_cases hf : 1 ≤ n ∧ n < R.length
    rotate_left
    · refine ⟨false, impl_MayInline_le (callB h1 (bifF rfl (callB (pi_hasFuncB n) ?_))), spec_MayInline_le (callB h2 (bifT rfl (callB (spec_mayInline_le (callB (s_inRange _ _ _) (bifT ?_ rfl))) rfl)))⟩
      · by_cases hc : 0 ≤ n ∧ n < R.length
        · refine bifF (by rw [decide_eq_true hc]; rfl) (bifT (eqt (by omega)) rfl)
        · exact bifT (by rw [decide_eq_false hc]; rfl) rfl
      · rw [hw, Bool.not_eq_true', Bool.and_eq_false_iff, decide_eq_false_iff_not, decide_eq_false_iff_not]
        omega
    obtain ⟨f, rfl⟩ : ∃ f : Nat, n = (f : Int) := ⟨n.toNat, by omega⟩
    have hfl : f < R.length := by omega
    obtain ⟨C, hN⟩ := names_of hi hv
    have hl := ascR_len (C f) 0 R.length
    have hx : ∀ y ∈ ascR (C f) 0 R.length, ∃ j : Nat, y = (j : Int) ∧ j < R.length := fun y hy => by obtain ⟨k, e, hk, _⟩ := asc_in hy; exact ⟨k, e, hk⟩
    generalize hxs : ascR (C f) 0 R.length = xs at hl hx
    have hic := i_callees hN hfl
    have hsc := s_callees hN hfl
    rw [hxs] at hic hsc
    have both : ∀ j k : Nat, k + j = xs.length → ∃ b : Bool, impl_MayInline_L0 (f : Int) (decsC D) (pmsC R) (intsC xs) (((intsC xs).length : Nat) : Int) (k : Int) = rB b ∧ spec_mayInline_L0 (f : Int) (decsC D) (pmsC R) (intsC xs) (k : Int) = rB b := by
      intro j
      induction j with
      | zero =>
        intro k hk
        exact ⟨true, impl_MayInline_L0_le (bifF (decide_eq_false (by rw [intsC_len]; omega)) rfl), spec_mayInline_L0_le (bifF (decide_eq_false (by rw [intsC_len]; omega)) rfl)⟩
      | succ j ih =>
        intro k hk
        have hlt : k < xs.length := by omega
        obtain ⟨g, e, hg⟩ := hx _ (List.getElem_mem hlt)
        have ri := i_reached hN hR hi h1 hg
        have rs := s_reached hN hR (decsC D) hg
        have hla := ascR_len (itI C R.length g R.length) 0 R.length
        rcases hb : (ascR (itI C R.length g R.length) 0 R.length).contains (f : Int) with _ | _
        · obtain ⟨b, b1, b2⟩ := ih (k + 1) (by omega)
          refine ⟨b, impl_MayInline_L0_le (bifT (decide_eq_true (by rw [intsC_len]; omega)) (atNum hlt ?_)), spec_mayInline_L0_le (bifT (decide_eq_true (by rw [intsC_len]; omega)) (atNum hlt ?_))⟩
          · rw [e]
            refine callS ri (callB (i_hasIntL _ _ (by omega)) ?_)
            rw [hb, wrk (by unfold maxI; omega)]
            exact bifF rfl b1
          · rw [e]
            refine callS rs (callB (s_isInL _ _ (by omega)) ?_)
            rw [hb, wrk (by unfold maxI; omega)]
            exact bifF rfl b2
        · refine ⟨false, impl_MayInline_L0_le (bifT (decide_eq_true (by rw [intsC_len]; omega)) (atNum hlt ?_)), spec_mayInline_L0_le (bifT (decide_eq_true (by rw [intsC_len]; omega)) (atNum hlt ?_))⟩
          · rw [e]
            refine callS ri (callB (i_hasIntL _ _ (by omega)) ?_)
            rw [hb]
            exact bifT rfl rfl
          · rw [e]
            refine callS rs (callB (s_isInL _ _ (by omega)) ?_)
            rw [hb]
            exact bifT rfl rfl
    obtain ⟨b, b1, b2⟩ := both xs.length 0 (by omega)
    have hcal : impl_CalleesOf [.agg [.sl 3 (decsC D), .sl 5 (pmsC R)], .cell (.int (f : Int))] = rL xs := impl_CalleesOf_le (callB h1 (bifF rfl (callB (pi_hasFuncB _) (bifF (by rw [decide_eq_true (by omega)]; rfl) (atPmI (k := f) rfl hfl (callS hic rfl))))))
    refine ⟨b, impl_MayInline_le (callB h1 (bifF rfl (callB (pi_hasFuncB _) (bifF (by rw [decide_eq_true (by omega)]; rfl) (bifF (eqf (by omega)) (callS hcal b1)))))), spec_MayInline_le (callB h2 (bifT rfl (callB (spec_mayInline_le (callB (s_inRange _ _ _) (bifF ?_ (atPmI (k := f) rfl hfl (callS hsc b2))))) rfl)))⟩
    rw [hw, decide_eq_true (by omega), decide_eq_true (by omega)]
    rfl
theorem law_MayInline {ds fs : List (List AC)} (h : Fit .prog [.sl 3 ds, .sl 5 fs]) {n : Int} (hn : inI n) : laws_FnExactMayInline [.agg [.sl 3 ds, .sl 5 fs], .cell (.int n)] = rB true := by
  obtain ⟨z, g, s⟩ := sz_fit h 1048576 (by omega) (by omega)
  rcases s with ⟨c, rfl⟩ | ⟨c, rfl⟩
  rotate_left
  · exact laws_FnExactMayInline_le (callI g (bifT rfl rfl))
  have t := to_fit h (by omega)
  have e := eq_fit h
  obtain ⟨m, h1, h2⟩ := mayInline_ex h n
  refine laws_FnExactMayInline_le (callI g (bifF (decide_eq_false (by omega)) (callProg t (callB h2 (callProg t (callB h1 (bifF ?_ (callProg t (callB e (bifF rfl rfl))))))))))
  cases m <;> rfl
end Go.Proofs.Ytoljlooeiljpfaa
