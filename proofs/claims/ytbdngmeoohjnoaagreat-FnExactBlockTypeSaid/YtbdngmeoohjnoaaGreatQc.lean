/- Numbers of steps; constructors, variables and lists of types: what impl's and spec's functions compute. -/
import Derived.Test.YtbdngmeoohjnoaaGreatQb
set_option linter.unusedVariables false
set_option linter.unusedSimpArgs false
namespace Go.Proofs.YtbdngmeoohjnoaaGreat
open Go
/-- The number of steps: of all rows of steps. -/
def acN : AC → Nat
  | .int _ => 0
  | .bool _ => 0
  | .sl k rows => (if k = 5 then rows.length else 0) + rsN rows
where
  rsN : List (List AC) → Nat
    | [] => 0
    | r :: rs => cN r + rsN rs
  cN : List AC → Nat
    | [] => 0
    | c :: cs => acN c + cN cs
abbrev cN := acN.cN
abbrev rsN := acN.rsN
theorem rsN_nil : rsN [] = 0 := by simp [rsN, acN.rsN]
theorem rsN_cons (r : List AC) (rs : List (List AC)) : rsN (r :: rs) = cN r + rsN rs := by simp [rsN, acN.rsN, cN]
theorem rsN_drop {rs : List (List AC)} {k : Nat} (h : k < rs.length) : rsN (rs.drop k) = cN (rs.getD k []) + rsN (rs.drop (k + 1)) := by
  rw [List.drop_eq_getElem_cons h, rsN_cons]
  simp [List.getD, h]
theorem rsN_ints (xs : List Int) : rsN (intsC xs) = 0 := by
  induction xs with
  | nil => exact rsN_nil
  | cons x xs ih =>
    show rsN ([.int x] :: intsC xs) = 0
    rw [rsN_cons, ih]
    simp [cN, acN.cN, acN]
theorem cN_step (o n i : Int) (args : List Int) (kids : List (List AC)) : cN [.int o, .int n, .int i, .sl 1 (intsC args), .sl 2 kids] = rsN kids := by
  have := rsN_ints args
  simp [cN, acN.cN, acN, rsN] at *
  omega
theorem cN_block (steps : List (List AC)) (r : Int) : cN [.sl 5 steps, .int r] = steps.length + rsN steps := by simp [cN, acN.cN, acN, rsN]
theorem fit_step_inv {o n i : Int} {a kids : List (List AC)} (h : Fit .step [.int o, .int n, .int i, .sl 1 a, .sl 2 kids]) : kids.length ≤ maxI ∧ ∀ b ∈ kids, Fit .block b := by
  generalize ht : Ty.step = t at h
  generalize hx : [AC.int o, AC.int n, AC.int i, AC.sl 1 a, AC.sl 2 kids] = x at h
  cases h with
  | step _ _ _ _ _ _ _ _ _ hl h => cases hx; exact ⟨hl, h⟩
  | _ => cases ht
theorem rI_congr {a b : Int} (h : a = b) : rI a = rI b := by rw [h]
def UpP (b : List AC) : Prop := ∀ limit : Int, -1 ≤ limit → limit ≤ 600 → impl_stepsUpTo [.agg b, .cell (.int limit)] = rI (min ((cN b : Nat) : Int) (limit + 1))
def LeP (b : List AC) : Prop := ∀ left : Int, 0 ≤ left → left ≤ 600 → spec_stepsLeft [.agg b, .cell (.int left)] = rI (if ((cN b : Nat) : Int) ≤ left then left - cN b else -1)
theorem up_fit : ∀ {t : Ty} {x : List AC}, Fit t x → (match t with
    | .block => UpP x
    | .step => ∀ o n i a kids, x = [.int o, .int n, .int i, .sl 1 a, .sl 2 kids] → ∀ b ∈ kids, UpP b
    | _ => True) := by
  intro t x h
  induction h with
  | block steps r hr hl h ih =>
    intro limit h0 h1
    have key : ∀ m k : Nat, k + m = steps.length → ∀ n : Int, 0 ≤ n → n ≤ limit + 1 → impl_stepsUpTo_L0 limit n steps (((steps.length : Nat) : Int)) (k : Int) = rI (min (n + ((m + rsN (steps.drop k) : Nat) : Int)) (limit + 1)) := by
      intro m
      induction m with
      | zero =>
        intro k hk n hn hn2
        refine impl_stepsUpTo_L0_le (bifF (decide_eq_false (by omega)) ?_)
        rw [List.drop_eq_nil_of_le (by omega), rsN_nil]
        rw [show min (n + ((0 + 0 : Nat) : Int)) (limit + 1) = n by omega]
      | succ m ihm =>
        intro k hk n hn hn2
        have hlt : k < steps.length := by omega
        obtain ⟨o, nn, i, args, kids, e⟩ := fit_Step (h _ (mem_getD hlt []))
        have hf := h _ (mem_getD hlt [])
        rw [e] at hf
        have hkids : ∀ b ∈ kids, UpP b := ih _ (mem_getD hlt []) _ _ _ _ _ e
        rw [rsN_drop hlt, e, cN_step]
        have w1 : wrapI ((k : Int) + 1) = ((k + 1 : Nat) : Int) := wrk (by omega)
        have hkl := fit_step_inv hf
        refine impl_stepsUpTo_L0_le (bifT (decide_eq_true (by omega)) (atStep hlt e ?_))
        by_cases hgt : n > limit
        · refine bifT (decide_eq_true hgt) ?_
          rw [show min (n + ((m + 1 + (rsN kids + rsN (steps.drop (k + 1))) : Nat) : Int)) (limit + 1) = n by omega]
        refine bifF (decide_eq_false hgt) ?_
        have key2 : ∀ m2 j : Nat, j + m2 = kids.length → ∀ n2 : Int, 0 ≤ n2 → n2 ≤ limit + 1 → impl_stepsUpTo_L2 limit n2 steps (((steps.length : Nat) : Int)) (k : Int) kids (((kids.length : Nat) : Int)) (j : Int) = rI (min (n2 + ((rsN (kids.drop j) + (m + rsN (steps.drop (k + 1))) : Nat) : Int)) (limit + 1)) := by
          intro m2
          induction m2 with
          | zero =>
            intro j hj n2 g0 g1
            refine impl_stepsUpTo_L2_le (bifF (decide_eq_false (by omega)) ?_)
            rw [w1, ihm (k + 1) (by omega) n2 g0 g1, show kids.drop j = [] from List.drop_eq_nil_of_le (by omega), rsN_nil, Nat.zero_add]
          | succ m2 ih2 =>
            intro j hj n2 g0 g1
            have hltj : j < kids.length := by omega
            obtain ⟨ss, rr, eb⟩ := fit_Block (hkl.2 _ (mem_getD hltj []))
            have hu := hkids _ (mem_getD hltj []) (limit - n2) (by omega) (by omega)
            rw [rsN_drop hltj]
            generalize hN : cN (kids.getD j []) = N at hu ⊢
            rw [eb] at hu
            have w2 : wrapI (limit - n2) = limit - n2 := wr (by omega) (by omega)
            refine impl_stepsUpTo_L2_le (bifT (decide_eq_true (by omega)) (atBlock hltj eb ?_))
            rw [w2]
            refine callI hu ?_
            rw [wr (n := n2 + min ((N : Nat) : Int) (limit - n2 + 1)) (by omega) (by omega), wrk (by have := hkl.1; omega)]
            rw [ih2 (j + 1) (by omega) _ (by omega) (by omega)]
            refine rI_congr ?_
            omega
        rw [wr (n := n + 1) (by omega) (by omega)]
        have := key2 kids.length 0 (by omega) (n + 1) (by omega) (by omega)
        rw [List.drop_zero] at this
        refine Eq.trans this ?_
        refine rI_congr ?_
        omega
    refine impl_stepsUpTo_le ?_
    have := key steps.length 0 (by omega) 0 (by omega) (by omega)
    rw [List.drop_zero] at this
    rw [cN_block]
    refine Eq.trans this ?_
    refine rI_congr ?_
    omega
  | step o n i args kids ho hn hi ha hl h ih =>
    intro o' n' i' a' k' e b hb
    cases e
    exact ih b hb
  | _ => trivial
theorem le_fit : ∀ {t : Ty} {x : List AC}, Fit t x → (match t with
    | .block => LeP x
    | .step => ∀ o n i a kids, x = [.int o, .int n, .int i, .sl 1 a, .sl 2 kids] → ∀ b ∈ kids, LeP b
    | _ => True) := by
  intro t x h
  induction h with
  | block steps r hr hl h ih =>
    intro left h0 h1
    have key : ∀ m k : Nat, k + m = steps.length → ∀ left : Int, 0 ≤ left → left ≤ 600 → spec_stepsLeft_L0 left steps r (k : Int) = rI (if ((m + rsN (steps.drop k) : Nat) : Int) ≤ left then left - ((m + rsN (steps.drop k) : Nat) : Int) else -1) := by
      intro m
      induction m with
      | zero =>
        intro k hk left h0 h1
        refine spec_stepsLeft_L0_le (bifF (decide_eq_false (by omega)) ?_)
        rw [List.drop_eq_nil_of_le (by omega), rsN_nil, if_pos (by omega)]
        simp
      | succ m ihm =>
        intro k hk left h0 h1
        have hlt : k < steps.length := by omega
        obtain ⟨o, nn, i, args, kids, e⟩ := fit_Step (h _ (mem_getD hlt []))
        have hf := h _ (mem_getD hlt [])
        rw [e] at hf
        have hkids : ∀ b ∈ kids, LeP b := ih _ (mem_getD hlt []) _ _ _ _ _ e
        rw [rsN_drop hlt, e, cN_step]
        have w1 : wrapI ((k : Int) + 1) = ((k + 1 : Nat) : Int) := wrk (by omega)
        have hkl := fit_step_inv hf
        refine spec_stepsLeft_L0_le (bifT (decide_eq_true (by omega)) ?_)
        by_cases hz : left < 1
        · refine bifT (decide_eq_true hz) ?_
          rw [if_neg (by omega)]
        refine bifF (decide_eq_false hz) ?_
        have key2 : ∀ m2 j : Nat, j + m2 = kids.length → ∀ l2 : Int, 0 ≤ l2 → l2 ≤ 600 → spec_stepsLeft_L2 l2 steps r (k : Int) (j : Int) = rI (if ((rsN (kids.drop j) + (m + rsN (steps.drop (k + 1))) : Nat) : Int) ≤ l2 then l2 - ((rsN (kids.drop j) + (m + rsN (steps.drop (k + 1))) : Nat) : Int) else -1) := by
          intro m2
          induction m2 with
          | zero =>
            intro j hj l2 g0 g1
            refine spec_stepsLeft_L2_le (atStep hlt e (bifF (decide_eq_false (by omega)) ?_))
            rw [w1, ihm (k + 1) (by omega) l2 g0 g1, show kids.drop j = [] from List.drop_eq_nil_of_le (by omega), rsN_nil, Nat.zero_add]
          | succ m2 ih2 =>
            intro j hj l2 g0 g1
            have hltj : j < kids.length := by omega
            obtain ⟨ss, rr, eb⟩ := fit_Block (hkl.2 _ (mem_getD hltj []))
            have hu := hkids _ (mem_getD hltj []) l2 g0 g1
            rw [rsN_drop hltj]
            generalize hN : cN (kids.getD j []) = N at hu ⊢
            rw [eb] at hu
            refine spec_stepsLeft_L2_le (atStep hlt e (bifT (decide_eq_true (by omega)) (atStep hlt e (atBlock hltj eb (callI hu ?_)))))
            by_cases hle : ((N : Nat) : Int) ≤ l2
            · rw [if_pos hle]
              refine bifF (decide_eq_false (by omega)) ?_
              rw [wrk (by have := hkl.1; omega), ih2 (j + 1) (by omega) _ (by omega) (by omega)]
              refine rI_congr ?_
              split <;> split <;> omega
            · rw [if_neg hle, if_neg (by omega)]
              exact bifT rfl rfl
        rw [wr (n := left - 1) (by omega) (by omega)]
        have := key2 kids.length 0 (by omega) (left - 1) (by omega) (by omega)
        rw [List.drop_zero] at this
        refine Eq.trans this ?_
        refine rI_congr ?_
        split <;> split <;> omega
    refine spec_stepsLeft_le ?_
    have := key steps.length 0 (by omega) left h0 h1
    rw [List.drop_zero] at this
    rw [cN_block]
    exact this
  | step o n i args kids ho hn hi ha hl h ih =>
    intro o' n' i' a' k' e b hb
    cases e
    exact ih b hb
  | _ => trivial
def stepsM (b : List AC) : Int := if cN b ≤ 600 then cN b else -1
theorem i_stepsOf {steps : List (List AC)} {r : Int} (h : Fit .block [.sl 5 steps, .int r]) : impl_StepsOf [.agg [.sl 5 steps, .int r]] = rI (stepsM [.sl 5 steps, .int r]) := by
  refine impl_StepsOf_le (callI (up_fit h 600 (by omega) (by omega)) ?_)
  unfold stepsM
  by_cases hle : cN [.sl 5 steps, .int r] ≤ 600
  · rw [if_pos hle]
    refine bifF (decide_eq_false (by omega)) ?_
    rw [show min ((cN [.sl 5 steps, .int r] : Nat) : Int) (600 + 1) = cN [.sl 5 steps, .int r] by omega]
  · rw [if_neg hle]
    exact bifT (decide_eq_true (by omega)) rfl
theorem s_stepsOf {steps : List (List AC)} {r : Int} (h : Fit .block [.sl 5 steps, .int r]) : spec_stepsOf [.agg [.sl 5 steps, .int r]] = rI (stepsM [.sl 5 steps, .int r]) := by
  refine spec_stepsOf_le (callI (le_fit h 600 (by omega) (by omega)) ?_)
  unfold stepsM
  by_cases hle : cN [.sl 5 steps, .int r] ≤ 600
  · rw [if_pos hle, if_pos (by omega)]
    refine bifF (decide_eq_false (by omega)) ?_
    rw [wr (by omega) (by omega), show (600 : Int) - (600 - ((cN [.sl 5 steps, .int r] : Nat) : Int)) = cN [.sl 5 steps, .int r] by omega]
  · rw [if_neg hle, if_neg (by omega)]
    exact bifT rfl rfl
end Go.Proofs.YtbdngmeoohjnoaaGreat
