/- What this law needs beside: its draw, its rest over values, its models. -/
import Derived.Test.YtbodfaghedolbaaS43
import Derived.WalkKit
import Derived.StillTailTactics
import Derived.Deep.RegionHeld3
set_option linter.unusedVariables false
set_option linter.unusedSimpArgs false
namespace Go.Proofs.Ytbodfaghedolbaa
open Go Go.RowKit
def sumK (f : List AC → Nat) (kids : List (List AC)) : Nat := (kids.map f).sum
theorem sumK_drop (f : List AC → Nat) {kids : List (List AC)} {k : Nat} (h : k < kids.length) : sumK f (kids.drop k) = f (kids.getD k []) + sumK f (kids.drop (k + 1)) := by
  unfold sumK
  rw [List.drop_eq_getElem_cons h, List.map_cons, List.sum_cons]
  simp [List.getD, h]
def men (v : Int) : Nat → List AC → Nat
  | s + 1, [.int o, .int n, .sl 3 kids] => (if o = 12 ∧ n = v then 1 else 0) + sumK (men v s) kids
  | _, _ => 0
theorem men_eq (v : Int) (s : Nat) (o n : Int) (kids : List (List AC)) : men v (s + 1) [.int o, .int n, .sl 3 kids] = (if o = 12 ∧ n = v then 1 else 0) + sumK (men v s) kids := rfl
theorem sumK_le {f : List AC → Nat} {kids : List (List AC)} (h : ∀ k, k < kids.length → f (kids.getD k []) ≤ 1 + cS (kids.getD k [])) : ∀ m k : Nat, k + m = kids.length → sumK f (kids.drop k) ≤ remN kids k := by
  intro m
  induction m with
  | zero =>
    intro k hk
    rw [List.drop_eq_nil_of_le (by omega)]
    exact Nat.zero_le _
  | succ m ih =>
    intro k hk
    have hlt : k < kids.length := by omega
    have h1 := ih (k + 1) (by omega)
    have h2 := h k hlt
    rw [sumK_drop f hlt, remN_succ hlt]
    omega
theorem men_i : ∀ (s : Nat) (v o n : Int) (kids : List (List AC)), Fit .expr [.int o, .int n, .sl 3 kids] → cS [.int o, .int n, .sl 3 kids] < s → s ≤ 31 →
    men v s [.int o, .int n, .sl 3 kids] ≤ 1 + cS [.int o, .int n, .sl 3 kids] ∧ impl_nodesWith [.agg [.int o, .int n, .sl 3 kids], .cell (.int 12), .cell (.int v)] = rI ((men v s [.int o, .int n, .sl 3 kids] : Nat) : Int) := by
  intro s
  induction s with
  | zero => intro v o n kids _ h; omega
  | succ s ihs =>
    intro v o n kids hf hs hs31
    obtain ⟨_, hn, hml, hk⟩ := fit_ex hf
    have hr0 := remN_zero o n kids
    have hcs := cS_ex o n kids
    have kid : ∀ k (hlt : k < kids.length), men v s (kids.getD k []) ≤ 1 + cS (kids.getD k []) ∧ impl_nodesWith [.agg (kids.getD k []), .cell (.int 12), .cell (.int v)] = rI ((men v s (kids.getD k []) : Nat) : Int) := fun k hlt => by
      obtain ⟨o', n', ks, e, hf'⟩ := fit_kid hk hlt
      have h1 := kid_lt hlt (o := o) (n := n)
      rw [e] at h1 ⊢
      exact ihs v o' n' ks hf' (by omega) (by omega)
    have hb := sumK_le (f := men v s) (fun k h => (kid k h).1)
    have li : ∀ m k : Nat, k + m = kids.length → ∀ c : Nat, c + remN kids k ≤ 1000 → impl_nodesWith_L0 12 v (c : Int) kids ((kids.length : Nat) : Int) (k : Int) = rI ((c + sumK (men v s) (kids.drop k) : Nat) : Int) := by
      intro m
      induction m with
      | zero =>
        intro k hkm c hc
        rw [List.drop_eq_nil_of_le (by omega)]
        exact impl_nodesWith_L0_le (bifF (decide_eq_false (by omega)) rfl)
      | succ m ih =>
        intro k hkm c hc
        have hlt : k < kids.length := by omega
        obtain ⟨o', n', ks, e, _⟩ := fit_kid hk hlt
        obtain ⟨g1, g2⟩ := kid k hlt
        have hr := remN_succ hlt
        rw [sumK_drop _ hlt]
        generalize men v s (kids.getD k []) = y at *
        rw [e] at g2
        refine impl_nodesWith_L0_le (bifT (decide_eq_true (by omega)) (atExpr hlt e (callI g2 ?_)))
        have w2 : wrapI ((c : Int) + (y : Int)) = ((c + y : Nat) : Int) := by rw [wr (by omega) (by omega)]; omega
        rw [w2, wrk (by unfold maxI; omega), ih (k + 1) (by omega) _ (by omega), Nat.add_assoc]
    have h0 := hb kids.length 0 (by omega)
    have i0 := fun c hc => li kids.length 0 (by omega) c hc
    rw [List.drop_zero] at h0
    simp only [List.drop_zero] at i0
    rw [men_eq]
    by_cases ho : o = 12
    · by_cases hv : n = v
      · rw [if_pos ⟨ho, hv⟩]
        exact ⟨by omega, impl_nodesWith_le (bifT (eqt ho) (bifT (eqt hv) (i0 1 (by omega))))⟩
      · rw [if_neg (fun h => hv h.2)]
        exact ⟨by omega, impl_nodesWith_le (bifT (eqt ho) (bifF (eqf hv) (i0 0 (by omega))))⟩
    · rw [if_neg (fun h => ho h.1)]
      exact ⟨by omega, impl_nodesWith_le (bifF (eqf ho) (i0 0 (by omega)))⟩
def menV (v : Int) (s : Nat) (x : List AC) : Int := if cS x ≤ 29 then ((men v s x : Nat) : Int) else -1
theorem nodV_cases {x : List AC} : (cS x ≤ 29 ∧ decide (nodV x < 0) = false) ∨ (¬ cS x ≤ 29 ∧ decide (nodV x < 0) = true) := by
  unfold nodV
  by_cases h : cS x ≤ 29
  · rw [if_pos h]; exact .inl ⟨h, decide_eq_false (by omega)⟩
  · rw [if_neg h]; exact .inr ⟨h, rfl⟩
theorem i_mentions {v o n : Int} {kids : List (List AC)} (hf : Fit .expr [.int o, .int n, .sl 3 kids]) {s : Nat} (hs : cS [.int o, .int n, .sl 3 kids] ≤ 29 → cS [.int o, .int n, .sl 3 kids] < s) (hs31 : s ≤ 31) : impl_MentionsOf [.agg [.int o, .int n, .sl 3 kids], .cell (.int v)] = rI (menV v s [.int o, .int n, .sl 3 kids]) := by
  unfold menV
  rcases nodV_cases (x := [.int o, .int n, .sl 3 kids]) with ⟨h, e⟩ | ⟨h, e⟩
  · rw [if_pos h]
    exact impl_MentionsOf_le (callI (i_nodesOf hf) (bifF e (callI (men_i s v o n kids hf (hs h) hs31).2 rfl)))
  · rw [if_neg h]
    exact impl_MentionsOf_le (callI (i_nodesOf hf) (bifT e rfl))
end Go.Proofs.Ytbodfaghedolbaa
namespace Go.Proofs.Ytbodfaghedolbaa
open Go Go.RowKit
theorem ex_ind {P : Nat → List AC → Prop} (h : ∀ s o n kids, Fit .expr [.int o, .int n, .sl 3 kids] → (∀ c ∈ kids, Fit .expr c ∧ cS c < s ∧ P s c) → P (s + 1) [.int o, .int n, .sl 3 kids]) : ∀ s row, Fit .expr row → cS row < s → P s row := by
  intro s
  induction s with
  | zero => intro row _ h; omega
  | succ s ih =>
    intro row hf hs
    obtain ⟨o, n, kids, rfl⟩ := fit_shape hf
    obtain ⟨_, _, _, hk⟩ := fit_ex hf
    refine h s o n kids hf fun c hc => ?_
    have h1 := rsS_mem hc
    have h2 := cS_ex o n kids
    have h3 := List.length_pos_of_mem hc
    exact ⟨hk c hc, by omega, ih c (hk c hc) (by omega)⟩
theorem rsS_map {f : List AC → List AC} : ∀ {kids : List (List AC)}, (∀ c ∈ kids, cS (f c) = cS c) → rsS (kids.map f) = rsS kids
  | [], _ => rfl
  | c :: kids, h => by
    rw [List.map_cons, rsS_cons, rsS_cons, h c (by simp), rsS_map fun x hx => h x (by simp [hx])]
theorem sumK_map {f g : List AC → Nat} {k : List AC → List AC} : ∀ {kids : List (List AC)}, (∀ c ∈ kids, f (k c) = g c) → sumK f (kids.map k) = sumK g kids
  | [], _ => rfl
  | c :: kids, h => by
    have ih := sumK_map (f := f) (g := g) (k := k) (kids := kids) fun x hx => h x (by simp [hx])
    unfold sumK at ih ⊢
    rw [List.map_cons, List.map_cons, List.map_cons, List.sum_cons, List.sum_cons, h c (by simp), ih]
theorem sumK_zero {f : List AC → Nat} : ∀ {kids : List (List AC)}, (∀ c ∈ kids, f c = 0) → sumK f kids = 0
  | [], _ => rfl
  | c :: kids, h => by
    have ih := sumK_zero (f := f) (kids := kids) fun x hx => h x (by simp [hx])
    unfold sumK at ih ⊢
    rw [List.map_cons, List.sum_cons, h c (by simp), ih]
def shF (a b o n : Int) : Int := if o = 12 ∧ a ≤ n then n + b else n
def shr (a b : Int) : Nat → List AC → List AC
  | s + 1, [.int o, .int n, .sl 3 kids] => [.int o, .int (shF a b o n), .sl 3 (kids.map (shr a b s))]
  | _, r => r
theorem shr_eq (a b : Int) (s : Nat) (o n : Int) (kids : List (List AC)) : shr a b (s + 1) [.int o, .int n, .sl 3 kids] = [.int o, .int (shF a b o n), .sl 3 (kids.map (shr a b s))] := rfl
def vfit : Nat → List AC → Bool
  | s + 1, [.int o, .int n, .sl 3 kids] => (!(o == 12) || (decide (0 ≤ n) && decide (n ≤ 99))) && kids.all (vfit s)
  | _, _ => true
theorem vfit_eq (s : Nat) (o n : Int) (kids : List (List AC)) : vfit (s + 1) [.int o, .int n, .sl 3 kids] = ((!(o == 12) || (decide (0 ≤ n) && decide (n ≤ 99))) && kids.all (vfit s)) := rfl
theorem vfit_inv {s : Nat} {o n : Int} {kids : List (List AC)} (h : vfit (s + 1) [.int o, .int n, .sl 3 kids] = true) : (o = 12 → 0 ≤ n ∧ n ≤ 99) ∧ ∀ c ∈ kids, vfit s c = true := by
  rw [vfit_eq, Bool.and_eq_true, List.all_eq_true] at h
  refine ⟨fun ho => ?_, h.2⟩
  have h1 := h.1
  subst ho
  simpa using h1
theorem shr_cS (a b : Int) : ∀ s row, Fit .expr row → cS row < s → cS (shr a b s row) = cS row :=
  ex_ind (P := fun s row => cS (shr a b s row) = cS row) fun s o n kids hf hk => by
    rw [shr_eq, cS_ex, cS_ex, List.length_map, rsS_map fun c hc => (hk c hc).2.2]
theorem shr_men {a b : Int} (hb : 0 ≤ b) (v : Int) : ∀ s row, Fit .expr row → cS row < s → men v s (shr a b s row) = if v < a then men v s row else if v ≥ a + b then men (v - b) s row else 0 :=
  ex_ind (P := fun s row => men v s (shr a b s row) = if v < a then men v s row else if v ≥ a + b then men (v - b) s row else 0) fun s o n kids hf hk => by
    rw [shr_eq, men_eq, men_eq, men_eq]
    by_cases h1 : v < a
    · rw [if_pos h1, sumK_map (g := men v s) fun c hc => by rw [(hk c hc).2.2, if_pos h1]]
      have e : (o = 12 ∧ shF a b o n = v) ↔ (o = 12 ∧ n = v) := by
        unfold shF
        by_cases h : o = 12 ∧ a ≤ n
        · rw [if_pos h]; omega
        · rw [if_neg h]
      simp only [e]
    · rw [if_neg h1]
      by_cases h2 : v ≥ a + b
      · rw [if_pos h2, sumK_map (g := men (v - b) s) fun c hc => by rw [(hk c hc).2.2, if_neg h1, if_pos h2]]
        have e : (o = 12 ∧ shF a b o n = v) ↔ (o = 12 ∧ n = v - b) := by
          unfold shF
          by_cases h : o = 12 ∧ a ≤ n
          · rw [if_pos h]; omega
          · rw [if_neg h]
            refine ⟨fun ⟨x, y⟩ => absurd ⟨x, by omega⟩ h, fun ⟨x, y⟩ => absurd ⟨x, by omega⟩ h⟩
        simp only [e]
      · rw [if_neg h2, sumK_map (g := fun _ => 0) fun c hc => by rw [(hk c hc).2.2, if_neg h1, if_neg h2], sumK_zero fun _ _ => rfl]
        rw [if_neg]
        unfold shF
        rintro ⟨x, y⟩
        by_cases h : o = 12 ∧ a ≤ n
        · rw [if_pos h] at y; omega
        · rw [if_neg h] at y; exact h ⟨x, by omega⟩
theorem shr_fit {a b : Int} (hb : 0 ≤ b ∧ b ≤ 99) : ∀ s row, Fit .expr row → cS row < s → vfit s row = true → Fit .expr (shr a b s row) :=
  ex_ind (P := fun s row => vfit s row = true → Fit .expr (shr a b s row)) fun s o n kids hf hk hv => by
    obtain ⟨ho, hn, hl, _⟩ := fit_ex hf
    obtain ⟨h1, h2⟩ := vfit_inv hv
    rw [shr_eq]
    refine .expr _ _ _ ho ?_ (by rw [List.length_map]; exact hl) fun c hc => ?_
    · unfold shF
      split
      · rename_i h
        have := h1 h.1
        unfold inI
        omega
      · exact hn
    · obtain ⟨x, hx, rfl⟩ := List.mem_map.1 hc
      exact (hk x hx).2.2 (h2 x hx)
theorem i_inVars (n : Int) : impl_inVars [.cell (.int n)] = rB (decide (0 ≤ n) && decide (n ≤ 99)) := by
  by_cases h : 0 ≤ n
  · rw [decide_eq_true h, Bool.true_and]
    exact impl_inVars_le (bifT (decide_eq_true h) rfl)
  · rw [decide_eq_false h, Bool.false_and]
    exact impl_inVars_le (bifF (decide_eq_false h) rfl)
theorem s_range (n : Int) : spec_inRange [.cell (.int n), .cell (.int 0), .cell (.int 99)] = rB (decide (0 ≤ n) && decide (n ≤ 99)) := by
  by_cases h : 0 ≤ n
  · rw [decide_eq_true h, Bool.true_and]
    exact spec_inRange_le (bifT (decide_eq_true h) rfl)
  · rw [decide_eq_false h, Bool.false_and]
    exact spec_inRange_le (bifF (decide_eq_false h) rfl)
theorem i_varsIn : ∀ s row, Fit .expr row → cS row < s → impl_varsInVars [.agg row] = rB (vfit s row) :=
  ex_ind (P := fun s row => impl_varsInVars [.agg row] = rB (vfit s row)) fun s o n kids hf hk => by
    obtain ⟨_, _, hl, hkf⟩ := fit_ex hf
    have key : ∀ m k : Nat, k + m = kids.length → impl_varsInVars_L0 kids ((kids.length : Nat) : Int) (k : Int) = rB ((kids.drop k).all (vfit s)) := by
      intro m
      induction m with
      | zero =>
        intro k hkm
        rw [List.drop_eq_nil_of_le (by omega)]
        exact impl_varsInVars_L0_le (bifF (decide_eq_false (by omega)) rfl)
      | succ m ih =>
        intro k hkm
        have hlt : k < kids.length := by omega
        obtain ⟨o', n', ks, e, _⟩ := fit_kid hkf hlt
        have g := (hk _ (mem_getD hlt [])).2.2
        have e2 : kids[k] = kids.getD k [] := by simp [List.getD, hlt]
        rw [List.drop_eq_getElem_cons hlt, List.all_cons, e2]
        rw [e] at g ⊢
        refine impl_varsInVars_L0_le (bifT (decide_eq_true (by omega)) (atExpr hlt e (callB g ?_)))
        cases vfit s [.int o', .int n', .sl 3 ks] with
        | false => exact bifT rfl rfl
        | true =>
          refine bifF rfl ?_
          rw [wrk (by unfold maxI at *; omega), ih (k + 1) (by omega), Bool.true_and]
    have h0 := key kids.length 0 (by omega)
    rw [List.drop_zero] at h0
    rw [vfit_eq]
    by_cases ho : o = 12
    · subst ho
      refine impl_varsInVars_le (bifT rfl (callB (i_inVars n) ?_))
      cases hc : (decide (0 ≤ n) && decide (n ≤ 99)) with
      | false => exact bifT rfl rfl
      | true => exact bifF rfl (by simpa using h0)
    · rw [eqf ho, Bool.not_false, Bool.true_or, Bool.true_and]
      exact impl_varsInVars_le (bifF (eqf ho) h0)
theorem i_shifted {a b : Int} (hb : 0 ≤ b ∧ b ≤ 99) : ∀ s row, Fit .expr row → cS row < s → cS row ≤ 100000 → vfit s row = true → impl_shifted [.agg row, .cell (.int a), .cell (.int b)] = some (.v (.agg (shr a b s row))) :=
  ex_ind (P := fun s row => cS row ≤ 100000 → vfit s row = true → impl_shifted [.agg row, .cell (.int a), .cell (.int b)] = some (.v (.agg (shr a b s row)))) fun s o n kids hf hk hc hv => by
    rw [cS_ex] at hc
    obtain ⟨ho, hn, hl, hkf⟩ := fit_ex hf
    obtain ⟨h1, h2⟩ := vfit_inv hv
    have key : ∀ N : Int, ∀ m k : Nat, k + m = kids.length → impl_shifted_L0 a b 0 0 [] o N ((kids.take k).map (shr a b s)) kids ((kids.length : Nat) : Int) (k : Int) = some (.v (.agg [.int o, .int N, .sl 3 (kids.map (shr a b s))])) := by
      intro N m
      induction m with
      | zero =>
        intro k hkm
        rw [List.take_of_length_le (by omega)]
        exact impl_shifted_L0_le (bifF (decide_eq_false (by omega)) rfl)
      | succ m ih =>
        intro k hkm
        have hlt : k < kids.length := by omega
        obtain ⟨o', n', ks, e, _⟩ := fit_kid hkf hlt
        obtain ⟨g1, g2, g3⟩ := hk _ (mem_getD hlt [])
        have hle := rsS_mem (mem_getD hlt [])
        have g4 := g3 (by omega) (h2 _ (mem_getD hlt []))
        have e2 : kids[k] = kids.getD k [] := by simp [List.getD, hlt]
        have hn := ih (k + 1) (by omega)
        rw [List.take_succ_eq_append_getElem hlt, List.map_append, e2, e] at hn
        rw [e] at g4 g2
        obtain ⟨s', rfl⟩ : ∃ j, s = j + 1 := ⟨s - 1, by omega⟩
        rw [shr_eq] at g4
        simp only [List.map_cons, List.map_nil, shr_eq] at hn
        refine impl_shifted_L0_le (bifT (decide_eq_true (by omega)) (atExpr hlt e (callExpr g4 (appTo (by simp; omega) ?_))))
        rw [wrk (by unfold maxI at *; omega)]
        exact hn
    rw [shr_eq]
    have k0 := fun N => key N kids.length 0 (by omega)
    simp only [List.take_zero, List.map_nil] at k0
    by_cases h12 : o = 12
    · by_cases h : a ≤ n
      · have hn' := h1 h12
        refine impl_shifted_le (bifT (eqt h12) (bifT (decide_eq_true h) ?_))
        rw [wr (by omega) (by omega), show shF a b o n = n + b by unfold shF; rw [if_pos ⟨h12, h⟩]]
        exact k0 _
      · refine impl_shifted_le (bifT (eqt h12) (bifF (decide_eq_false h) ?_))
        rw [show shF a b o n = n by unfold shF; rw [if_neg (fun x => h x.2)]]
        exact k0 _
    · refine impl_shifted_le (bifF (eqf h12) ?_)
      rw [show shF a b o n = n by unfold shF; rw [if_neg (fun x => h12 x.1)]]
      exact k0 _
theorem s_varsFit : ∀ s row, Fit .expr row → cS row < s → spec_varsFit [.agg row] = rB (vfit s row) :=
  ex_ind (P := fun s row => spec_varsFit [.agg row] = rB (vfit s row)) fun s o n kids hf hk => by
    obtain ⟨_, _, hl, hkf⟩ := fit_ex hf
    have key : ∀ m k : Nat, k + m = kids.length → spec_varsFit_L0 o n kids (k : Int) = rB ((kids.drop k).all (vfit s)) := by
      intro m
      induction m with
      | zero =>
        intro k hkm
        rw [List.drop_eq_nil_of_le (by omega)]
        exact spec_varsFit_L0_le (bifF (decide_eq_false (by omega)) rfl)
      | succ m ih =>
        intro k hkm
        have hlt : k < kids.length := by omega
        obtain ⟨o', n', ks, e, _⟩ := fit_kid hkf hlt
        have g := (hk _ (mem_getD hlt [])).2.2
        have e2 : kids[k] = kids.getD k [] := by simp [List.getD, hlt]
        rw [List.drop_eq_getElem_cons hlt, List.all_cons, e2]
        rw [e] at g ⊢
        refine spec_varsFit_L0_le (bifT (decide_eq_true (by omega)) (atExpr hlt e (callB g ?_)))
        cases vfit s [.int o', .int n', .sl 3 ks] with
        | false => exact bifT rfl rfl
        | true =>
          refine bifF rfl ?_
          rw [wrk (by unfold maxI at *; omega), ih (k + 1) (by omega), Bool.true_and]
    have h0 := key kids.length 0 (by omega)
    rw [List.drop_zero] at h0
    rw [vfit_eq]
    by_cases ho : o = 12
    · subst ho
      refine spec_varsFit_le (bifT rfl (callB (s_range n) ?_))
      cases hc : (decide (0 ≤ n) && decide (n ≤ 99)) with
      | false => exact bifT rfl rfl
      | true => exact bifF rfl (by simpa using h0)
    · rw [eqf ho, Bool.not_false, Bool.true_or, Bool.true_and]
      exact spec_varsFit_le (bifF (eqf ho) h0)
theorem s_shift {a b : Int} (hb : 0 ≤ b ∧ b ≤ 99) : ∀ s row, Fit .expr row → cS row < s → cS row ≤ 100000 → vfit s row = true → spec_shift [.agg row, .cell (.int a), .cell (.int b)] = some (.v (.agg (shr a b s row))) :=
  ex_ind (P := fun s row => cS row ≤ 100000 → vfit s row = true → spec_shift [.agg row, .cell (.int a), .cell (.int b)] = some (.v (.agg (shr a b s row)))) fun s o n kids hf hk hc hv => by
    rw [cS_ex] at hc
    obtain ⟨ho, hn, hl, hkf⟩ := fit_ex hf
    obtain ⟨h1, h2⟩ := vfit_inv hv
    have key : ∀ m k : Nat, k + m = kids.length → spec_shiftAll_L0 kids a b ((kids.take k).map (shr a b s)) (k : Int) = some (.v (.cell (.sl 3 (kids.map (shr a b s))))) := by
      intro m
      induction m with
      | zero =>
        intro k hkm
        rw [List.take_of_length_le (by omega)]
        exact spec_shiftAll_L0_le (bifF (decide_eq_false (by omega)) rfl)
      | succ m ih =>
        intro k hkm
        have hlt : k < kids.length := by omega
        obtain ⟨o', n', ks, e, _⟩ := fit_kid hkf hlt
        obtain ⟨g1, g2, g3⟩ := hk _ (mem_getD hlt [])
        have hle := rsS_mem (mem_getD hlt [])
        have g4 := g3 (by omega) (h2 _ (mem_getD hlt []))
        have e2 : kids[k] = kids.getD k [] := by simp [List.getD, hlt]
        have hn := ih (k + 1) (by omega)
        rw [List.take_succ_eq_append_getElem hlt, List.map_append, e2, e] at hn
        rw [e] at g4 g2
        obtain ⟨s', rfl⟩ : ∃ j, s = j + 1 := ⟨s - 1, by omega⟩
        rw [shr_eq] at g4
        simp only [List.map_cons, List.map_nil, shr_eq] at hn
        refine spec_shiftAll_L0_le (bifT (decide_eq_true (by omega)) (atExpr hlt e (callExpr g4 (appTo (by simp; omega) ?_))))
        rw [wrk (by unfold maxI at *; omega)]
        exact hn
    have k0 := key kids.length 0 (by omega)
    simp only [List.take_zero, List.map_nil] at k0
    have all : spec_shiftAll [.cell (.sl 3 kids), .cell (.int a), .cell (.int b)] = some (.v (.cell (.sl 3 (kids.map (shr a b s))))) := spec_shiftAll_le k0
    rw [shr_eq]
    by_cases h12 : o = 12
    · by_cases h : a ≤ n
      · have hn' := h1 h12
        refine spec_shift_le (bifT (eqt h12) (bifT (decide_eq_true h) (callS all ?_)))
        rw [wr (by omega) (by omega), show shF a b o n = n + b by unfold shF; rw [if_pos ⟨h12, h⟩]]
      · refine spec_shift_le (bifT (eqt h12) (bifF (decide_eq_false h) (callS all ?_)))
        rw [show shF a b o n = n by unfold shF; rw [if_neg (fun x => h x.2)]]
    · refine spec_shift_le (bifF (eqf h12) (callS all ?_))
      rw [show shF a b o n = n by unfold shF; rw [if_neg (fun x => h12 x.1)]]
theorem l_eqExpr : ∀ s row, Fit .expr row → cS row < s → cS row ≤ 100000 → laws_equalExpr [.agg row, .agg row] = rB true :=
  ex_ind (P := fun s row => cS row ≤ 100000 → laws_equalExpr [.agg row, .agg row] = rB true) fun s o n kids hf hk hc => by
    rw [cS_ex] at hc
    obtain ⟨_, _, hl, hkf⟩ := fit_ex hf
    have key : ∀ m k : Nat, k + m = kids.length → laws_equalExpr_L0 o n kids o n kids (k : Int) = rB true := by
      intro m
      induction m with
      | zero =>
        intro k hkm
        exact laws_equalExpr_L0_le (bifF (decide_eq_false (by omega)) rfl)
      | succ m ih =>
        intro k hkm
        have hlt : k < kids.length := by omega
        obtain ⟨o', n', ks, e, _⟩ := fit_kid hkf hlt
        have hle := rsS_mem (mem_getD hlt [])
        have g := (hk _ (mem_getD hlt [])).2.2 (by omega)
        rw [e] at g
        refine laws_equalExpr_L0_le (bifT (decide_eq_true (by omega)) (atExpr hlt e (atExpr hlt e (callB g (bifF rfl ?_)))))
        rw [wrk (by unfold maxI at *; omega)]
        exact ih (k + 1) (by omega)
    exact laws_equalExpr_le (bifF (nef rfl) (bifF (nef rfl) (bifF (nef rfl) (key kids.length 0 (by omega)))))
def ShOk (a b o n : Int) (kids : List (List AC)) : Prop := cS [.int o, .int n, .sl 3 kids] ≤ 29 ∧ (0 ≤ a ∧ a ≤ 99) ∧ (0 ≤ b ∧ b ≤ 99) ∧ vfit 31 [.int o, .int n, .sl 3 kids] = true
theorem inb {n : Int} (h : 0 ≤ n ∧ n ≤ 99) : (decide (0 ≤ n) && decide (n ≤ 99)) = true := by simp [h]
theorem outb {n : Int} (h : ¬ (0 ≤ n ∧ n ≤ 99)) : (decide (0 ≤ n) && decide (n ≤ 99)) = false := by
  rw [← Bool.decide_and]; exact decide_eq_false h
theorem callEB {ρ : Type} {r : ρ} {x : Option AV} {o n : Int} {l : List (List AC)} {b : Bool} (h : x = some (.tup [.agg [.int o, .int n, .sl 3 l], .cell (.bool b)])) {K : Fn (Option ρ) (shapesOf [(true, [.int 0, .int 0, .sl 3 []]), (false, [.bool false])])} (h2 : (K : Int → Int → List (List AC) → Bool → Option ρ) o n l b = some r) : callR x true [(true, [.int 0, .int 0, .sl 3 []]), (false, [.bool false])] K = some r := by rw [h]; exact h2
theorem i_shift_yes {a b o n : Int} {kids : List (List AC)} (hf : Fit .expr [.int o, .int n, .sl 3 kids]) (h : ShOk a b o n kids) : impl_Shift [.agg [.int o, .int n, .sl 3 kids], .cell (.int a), .cell (.int b)] = some (.tup [.agg [.int o, .int (shF a b o n), .sl 3 (kids.map (shr a b 30))], .cell (.bool true)]) := by
  obtain ⟨hc, ha, hb, hv⟩ := h
  have e : decide (nodV [.int o, .int n, .sl 3 kids] < 0) = false := by
    rcases nodV_cases (x := [.int o, .int n, .sl 3 kids]) with ⟨_, e⟩ | ⟨g, _⟩
    · exact e
    · exact absurd hc g
  have g1 := i_inVars a
  have g2 := i_inVars b
  have g3 := i_varsIn 31 _ hf (by omega)
  rw [inb ha] at g1
  rw [inb hb] at g2
  rw [hv] at g3
  have g4 := i_shifted (a := a) hb 31 _ hf (by omega) (by omega) hv
  exact impl_Shift_le (callI (i_nodesOf hf) (bifF e (callB g1 (bifF rfl (callB g2 (bifF rfl (callB g3 (bifF rfl (callExpr g4 rfl)))))))))
theorem s_shift_yes {a b o n : Int} {kids : List (List AC)} (hf : Fit .expr [.int o, .int n, .sl 3 kids]) (h : ShOk a b o n kids) : spec_Shift [.agg [.int o, .int n, .sl 3 kids], .cell (.int a), .cell (.int b)] = some (.tup [.agg [.int o, .int (shF a b o n), .sl 3 (kids.map (shr a b 30))], .cell (.bool true)]) := by
  obtain ⟨hc, ha, hb, hv⟩ := h
  have e : decide (nodV [.int o, .int n, .sl 3 kids] < 0) = false := by
    rcases nodV_cases (x := [.int o, .int n, .sl 3 kids]) with ⟨_, e⟩ | ⟨g, _⟩
    · exact e
    · exact absurd hc g
  have g1 := s_range a
  have g2 := s_range b
  have g3 := s_varsFit 31 _ hf (by omega)
  rw [inb ha] at g1
  rw [inb hb] at g2
  rw [hv] at g3
  have g4 := s_shift (a := a) hb 31 _ hf (by omega) (by omega) hv
  exact spec_Shift_le (callI (s_nodesOf hf) (bifF e (callB g1 (bifF rfl (callB g2 (bifF rfl (callB g3 (bifF rfl (callExpr g4 rfl)))))))))
theorem i_shift_no {a b o n : Int} {kids : List (List AC)} (hf : Fit .expr [.int o, .int n, .sl 3 kids]) (h : ¬ ShOk a b o n kids) : impl_Shift [.agg [.int o, .int n, .sl 3 kids], .cell (.int a), .cell (.int b)] = some (.tup [.agg [.int 0, .int 0, .sl 3 []], .cell (.bool false)]) := by
  rcases nodV_cases (x := [.int o, .int n, .sl 3 kids]) with ⟨hc, e⟩ | ⟨_, e⟩
  rotate_left
  · exact impl_Shift_le (callI (i_nodesOf hf) (bifT e rfl))
  have g1 := i_inVars a
  by_cases ha : 0 ≤ a ∧ a ≤ 99
  rotate_left
  · rw [outb ha] at g1
    exact impl_Shift_le (callI (i_nodesOf hf) (bifF e (callB g1 (bifT rfl rfl))))
  rw [inb ha] at g1
  have g2 := i_inVars b
  by_cases hb : 0 ≤ b ∧ b ≤ 99
  rotate_left
  · rw [outb hb] at g2
    exact impl_Shift_le (callI (i_nodesOf hf) (bifF e (callB g1 (bifF rfl (callB g2 (bifT rfl rfl))))))
  rw [inb hb] at g2
  have g3 := i_varsIn 31 _ hf (by omega)
  have hv : vfit 31 [.int o, .int n, .sl 3 kids] = false := Bool.eq_false_iff.2 fun hv => h ⟨hc, ha, hb, hv⟩
  rw [hv] at g3
  exact impl_Shift_le (callI (i_nodesOf hf) (bifF e (callB g1 (bifF rfl (callB g2 (bifF rfl (callB g3 (bifT rfl rfl))))))))
theorem s_shift_no {a b o n : Int} {kids : List (List AC)} (hf : Fit .expr [.int o, .int n, .sl 3 kids]) (h : ¬ ShOk a b o n kids) : spec_Shift [.agg [.int o, .int n, .sl 3 kids], .cell (.int a), .cell (.int b)] = some (.tup [.agg [.int 0, .int 0, .sl 3 []], .cell (.bool false)]) := by
  rcases nodV_cases (x := [.int o, .int n, .sl 3 kids]) with ⟨hc, e⟩ | ⟨_, e⟩
  rotate_left
  · exact spec_Shift_le (callI (s_nodesOf hf) (bifT e rfl))
  have g1 := s_range a
  by_cases ha : 0 ≤ a ∧ a ≤ 99
  rotate_left
  · rw [outb ha] at g1
    exact spec_Shift_le (callI (s_nodesOf hf) (bifF e (callB g1 (bifT rfl rfl))))
  rw [inb ha] at g1
  have g2 := s_range b
  by_cases hb : 0 ≤ b ∧ b ≤ 99
  rotate_left
  · rw [outb hb] at g2
    exact spec_Shift_le (callI (s_nodesOf hf) (bifF e (callB g1 (bifF rfl (callB g2 (bifT rfl rfl))))))
  rw [inb hb] at g2
  have g3 := s_varsFit 31 _ hf (by omega)
  have hv : vfit 31 [.int o, .int n, .sl 3 kids] = false := Bool.eq_false_iff.2 fun hv => h ⟨hc, ha, hb, hv⟩
  rw [hv] at g3
  exact spec_Shift_le (callI (s_nodesOf hf) (bifF e (callB g1 (bifF rfl (callB g2 (bifF rfl (callB g3 (bifT rfl rfl))))))))
theorem sh_out {a b o n : Int} {kids : List (List AC)} (hf : Fit .expr [.int o, .int n, .sl 3 kids]) (h : ShOk a b o n kids) : Fit .expr [.int o, .int (shF a b o n), .sl 3 (kids.map (shr a b 30))] ∧ cS [.int o, .int (shF a b o n), .sl 3 (kids.map (shr a b 30))] = cS [.int o, .int n, .sl 3 kids] :=
  ⟨shr_fit (a := a) h.2.2.1 31 _ hf (by have := h.1; omega) h.2.2.2, shr_cS a b 31 _ hf (by have := h.1; omega)⟩
end Go.Proofs.Ytbodfaghedolbaa
set_option maxRecDepth 100000
namespace Go.Proofs.Ytbodfaghedolbaa
open Go Go.RowKit
noncomputable def X_laws_FnShiftMentions : Ctx := { P := Try.prog, L := lay, F := sig.has, E := ext, fn := Try.f7, lv := [(0, [3, 4, 5, 6, 10])], jv := [], tp := [(25, [(true, [.int 0, .int 0, .sl 3 []]), (false, [.bool false])]), (32, [(true, [.int 0, .int 0, .sl 3 []]), (false, [.bool false])])] }
noncomputable def laws_FnShiftMentions_L0 (n18 : Int) (n19 : Int) (l20 : List (List AC)) (n21 : Int) (n22 : Int) (n23 : Int) (n24 : Int) (l25 : List (List AC)) (n26 : Int) : Option AV := GL X_laws_FnShiftMentions 0 [(3, .box [.int n18, .int n19, .sl 3 l20]), (4, .v (.cell (.int n21))), (5, .v (.cell (.int n22))), (6, .box [.int n23, .int n24, .sl 3 l25]), (10, .v (.cell (.int n26)))]
theorem laws_FnShiftMentions_L0_le {n18 : Int} {n19 : Int} {l20 : List (List AC)} {n21 : Int} {n22 : Int} {n23 : Int} {n24 : Int} {l25 : List (List AC)} {n26 : Int} {r : AV} (h : ( bif (decide (n26 < 12)) then bif (decide (n26 < n21)) then callR (impl_MentionsOf [.agg [.int n18, .int n19, .sl 3 l20], .cell (.int n26)]) false [(false, [.int 0])] fun n27 => callR (impl_MentionsOf [.agg [.int n23, .int n24, .sl 3 l25], .cell (.int n26)]) false [(false, [.int 0])] fun n28 => bif (n28 != n27) then some (.v (.cell (.bool false))) else laws_FnShiftMentions_L0 n18 n19 l20 n21 n22 n23 n24 l25 (wrapI (n26 + 1)) else bif (decide (n26 ≥ (wrapI (n21 + n22)))) then callR (impl_MentionsOf [.agg [.int n18, .int n19, .sl 3 l20], .cell (.int (wrapI (n26 - n22)))]) false [(false, [.int 0])] fun n29 => callR (impl_MentionsOf [.agg [.int n23, .int n24, .sl 3 l25], .cell (.int n26)]) false [(false, [.int 0])] fun n30 => bif (n30 != n29) then some (.v (.cell (.bool false))) else laws_FnShiftMentions_L0 n18 n19 l20 n21 n22 n23 n24 l25 (wrapI (n26 + 1)) else callR (impl_MentionsOf [.agg [.int n23, .int n24, .sl 3 l25], .cell (.int n26)]) false [(false, [.int 0])] fun n31 => bif (n31 != 0) then some (.v (.cell (.bool false))) else laws_FnShiftMentions_L0 n18 n19 l20 n21 n22 n23 n24 l25 (wrapI (n26 + 1)) else some (.v (.cell (.bool true))) : Option AV) = some r) : laws_FnShiftMentions_L0 n18 n19 l20 n21 n22 n23 n24 l25 n26 = some r := GL_le (X := X_laws_FnShiftMentions) (n := 100000) (by kernel_rfl) (by kernel_rfl : (X_laws_FnShiftMentions.fn.body.bind fun c => locL 0 c []) = some (.loop (loopOf (X_laws_FnShiftMentions.fn.body.bind fun c => locL 0 c [])), ksOf (X_laws_FnShiftMentions.fn.body.bind fun c => locL 0 c []))) (Eq.trans (by kernel_rfl) h)
theorem laws_FnShiftMentions_rest {n1 : Int} {n2 : Int} {l3 : List (List AC)} {n4 : Int} {n5 : Int} {r : AV} (h : ( callR (impl_Shift [.agg [.int n1, .int n2, .sl 3 l3], .cell (.int n4), .cell (.int n5)]) true [(true, [.int 0, .int 0, .sl 3 []]), (false, [.bool false])] fun n6 n7 l8 b9 => callR (spec_Shift [.agg [.int n1, .int n2, .sl 3 l3], .cell (.int n4), .cell (.int n5)]) true [(true, [.int 0, .int 0, .sl 3 []]), (false, [.bool false])] fun n10 n11 l12 b13 => callR (laws_equalExpr [.agg [.int n6, .int n7, .sl 3 l8], .agg [.int n10, .int n11, .sl 3 l12]]) false [(false, [.bool false])] fun b14 => bif (!b14) then callR (laws_equalExpr [.agg [.int n6, .int n7, .sl 3 l8], .agg [.int n10, .int n11, .sl 3 l12]]) false [(false, [.bool false])] fun b15 => bif b15 then some (.v (.cell (.bool (b9 == b13)))) else some (.v (.cell (.bool false))) else bif (b9 != b13) then callR (laws_equalExpr [.agg [.int n6, .int n7, .sl 3 l8], .agg [.int n10, .int n11, .sl 3 l12]]) false [(false, [.bool false])] fun b16 => bif b16 then some (.v (.cell (.bool (b9 == b13)))) else some (.v (.cell (.bool false))) else bif (!b9) then callR (laws_equalExpr [.agg [.int n6, .int n7, .sl 3 l8], .agg [.int n10, .int n11, .sl 3 l12]]) false [(false, [.bool false])] fun b17 => bif b17 then some (.v (.cell (.bool (b9 == b13)))) else some (.v (.cell (.bool false))) else laws_FnShiftMentions_L0 n1 n2 l3 n4 n5 n6 n7 l8 0 : Option AV) = some r) : evM X_laws_FnShiftMentions 100000 (.run (dropS 3 (cOf Try.f7))) [] [(3, .box [.int n1, .int n2, .sl 3 l3]), (4, .v (.cell (.int n4))), (5, .v (.cell (.int n5)))] = some r := Eq.trans (by kernel_rfl) h
theorem laws_FnShiftMentions_st : (tcode drawn lay sig (dropS 3 (cOf Try.f7)) (stM 81)).isSome = true := by kernel_rfl
def FnShiftMentionsR0 : Code := Go.Code.region 0 #[{ dst := some 2, op := Go.Op.assign (Go.Operand.const (Go.Value.bool false)), type := 4, pos := "laws.go:817", after := #[], guard := none }] false
def FnShiftMentionsR1 : Code := Go.Code.region 1 #[{ dst := some 12, op := Go.Op.move (Go.Operand.tmp 0), type := 22, pos := "laws.go:818", after := #[], guard := none }, { dst := some 13, op := Go.Op.call { callee := Go.Callee.builtin Go.Builtin.len, args := #[Go.Operand.tmp 12], argTypes := #[22] }, type := 3, pos := "laws.go:818", after := #[{ on := 0, ground := Go.Ground.data }], guard := none }, { dst := some 14, op := Go.Op.binOp Go.BinOp.gtr 3 (Go.Operand.tmp 13) (Go.Operand.const (Go.Value.int Go.IntKind.i64 1048576)) 3, type := 4, pos := "laws.go:818", after := #[{ on := 1, ground := Go.Ground.data }], guard := none }] false
def FnShiftMentionsR2 : Code := Go.Code.region 2 #[{ dst := some 2, op := Go.Op.assign (Go.Operand.const (Go.Value.bool true)), type := 4, pos := "laws.go:819", after := #[], guard := none }] false
def FnShiftMentionsR3 : Code := Go.Code.region 3 #[{ dst := some 16, op := Go.Op.move (Go.Operand.tmp 0), type := 22, pos := "laws.go:821", after := #[], guard := none }, { dst := some 17, op := Go.Op.call { callee := Go.Callee.value (Go.Operand.func 16), args := #[Go.Operand.tmp 16], argTypes := #[22] }, type := 38, pos := "laws.go:821", after := #[{ on := 0, ground := Go.Ground.data }], guard := none }, { dst := some 15, op := Go.Op.move (Go.Operand.tmp 17), type := 38, pos := "laws.go:821", after := #[{ on := 1, ground := Go.Ground.data }], guard := none }, { dst := some 18, op := Go.Op.extract (Go.Operand.tmp 15) 0, type := 32, pos := "laws.go:821", after := #[{ on := 2, ground := Go.Ground.data }], guard := none }, { dst := some 19, op := Go.Op.extract (Go.Operand.tmp 15) 1, type := 3, pos := "laws.go:821", after := #[{ on := 2, ground := Go.Ground.data }, { on := 7, ground := Go.Ground.gcOnly Go.Departure.lateStores }], guard := none }, { dst := some 20, op := Go.Op.extract (Go.Operand.tmp 15) 2, type := 3, pos := "laws.go:821", after := #[{ on := 2, ground := Go.Ground.data }, { on := 8, ground := Go.Ground.gcOnly Go.Departure.lateStores }], guard := none }, { dst := some 3, op := Go.Op.alloc 32, type := 0, pos := "laws.go:821", after := #[], guard := none }, { dst := none, op := Go.Op.store 32 (Go.Operand.tmp 3) (Go.Operand.tmp 18), type := 0, pos := "laws.go:821", after := #[{ on := 6, ground := Go.Ground.data }, { on := 3, ground := Go.Ground.data }, { on := 1, ground := Go.Ground.chain }, { on := 0, ground := Go.Ground.phase }, { on := 1, ground := Go.Ground.phase }, { on := 2, ground := Go.Ground.phase }, { on := 3, ground := Go.Ground.phase }, { on := 4, ground := Go.Ground.textOnly Go.Departure.lateStores }, { on := 5, ground := Go.Ground.textOnly Go.Departure.lateStores }, { on := 6, ground := Go.Ground.phase }], guard := none }, { dst := some 4, op := Go.Op.assign (Go.Operand.tmp 19), type := 3, pos := "laws.go:821", after := #[{ on := 4, ground := Go.Ground.data }, { on := 7, ground := Go.Ground.chain }, { on := 0, ground := Go.Ground.phase }, { on := 1, ground := Go.Ground.phase }, { on := 2, ground := Go.Ground.phase }, { on := 3, ground := Go.Ground.phase }, { on := 4, ground := Go.Ground.phase }, { on := 5, ground := Go.Ground.textOnly Go.Departure.lateStores }, { on := 6, ground := Go.Ground.phase }, { on := 7, ground := Go.Ground.phase }], guard := none }, { dst := some 5, op := Go.Op.assign (Go.Operand.tmp 20), type := 3, pos := "laws.go:821", after := #[{ on := 5, ground := Go.Ground.data }, { on := 8, ground := Go.Ground.chain }, { on := 0, ground := Go.Ground.phase }, { on := 1, ground := Go.Ground.phase }, { on := 2, ground := Go.Ground.phase }, { on := 3, ground := Go.Ground.phase }, { on := 4, ground := Go.Ground.phase }, { on := 5, ground := Go.Ground.phase }, { on := 6, ground := Go.Ground.phase }, { on := 7, ground := Go.Ground.phase }, { on := 8, ground := Go.Ground.phase }], guard := none }] false
theorem fnShiftMentions_body : cOf Try.f7 = .seq FnShiftMentionsR0 (.seq (.seq FnShiftMentionsR1 (.cond (.tmp 14) (.seq FnShiftMentionsR2 .ret) .skip)) (.seq FnShiftMentionsR3 (dropS 3 (cOf Try.f7)))) := by kernel_rfl
theorem fnShiftMentions_lit {m : Array Value} (h : m.size = 81) : m = List.toArray (m.getD 0 undef :: m.getD 1 undef :: m.getD 2 undef :: m.getD 3 undef :: m.getD 4 undef :: m.getD 5 undef :: m.getD 6 undef :: m.getD 7 undef :: m.getD 8 undef :: m.getD 9 undef :: m.getD 10 undef :: m.getD 11 undef :: m.getD 12 undef :: m.getD 13 undef :: m.getD 14 undef :: m.getD 15 undef :: m.getD 16 undef :: m.getD 17 undef :: m.getD 18 undef :: m.getD 19 undef :: m.getD 20 undef :: m.getD 21 undef :: m.getD 22 undef :: m.getD 23 undef :: m.getD 24 undef :: m.getD 25 undef :: m.getD 26 undef :: m.getD 27 undef :: m.getD 28 undef :: m.getD 29 undef :: m.getD 30 undef :: m.getD 31 undef :: m.getD 32 undef :: m.getD 33 undef :: m.getD 34 undef :: m.getD 35 undef :: m.getD 36 undef :: m.getD 37 undef :: m.getD 38 undef :: m.getD 39 undef :: m.getD 40 undef :: m.getD 41 undef :: m.getD 42 undef :: m.getD 43 undef :: m.getD 44 undef :: m.getD 45 undef :: m.getD 46 undef :: m.getD 47 undef :: m.getD 48 undef :: m.getD 49 undef :: m.getD 50 undef :: m.getD 51 undef :: m.getD 52 undef :: m.getD 53 undef :: m.getD 54 undef :: m.getD 55 undef :: m.getD 56 undef :: m.getD 57 undef :: m.getD 58 undef :: m.getD 59 undef :: m.getD 60 undef :: m.getD 61 undef :: m.getD 62 undef :: m.getD 63 undef :: m.getD 64 undef :: m.getD 65 undef :: m.getD 66 undef :: m.getD 67 undef :: m.getD 68 undef :: m.getD 69 undef :: m.getD 70 undef :: m.getD 71 undef :: m.getD 72 undef :: m.getD 73 undef :: m.getD 74 undef :: m.getD 75 undef :: m.getD 76 undef :: m.getD 77 undef :: m.getD 78 undef :: m.getD 79 undef :: m.getD 80 undef :: []) := by
  apply Array.ext'
  have h1 : m.toList = (List.range 81).map (fun i => m.getD i undef) := by
    apply List.ext_getElem
    · simp [h]
    · intro i h1 h2
      simp only [Array.length_toList] at h1
      simp [Array.getD, h1]
  exact h1.trans rfl
set_option maxHeartbeats 4000000 in
theorem fnShiftMentions0_wp {f : Nat → Value} {A : Option Addr} {n c : Nat} {w : World}  (Q : Exit → Act → World → Prop) (hQ : ∀ a' : Act, a'.defers = [] → a'.tmps.size = 81 → a'.tmps.getD 0 undef = .slice A n c → Q .normal a' (w)) :
  FnShiftMentionsR0.wp Try.prog Q { tmps := List.toArray (.slice A n c :: f 1 :: f 2 :: f 3 :: f 4 :: f 5 :: f 6 :: f 7 :: f 8 :: f 9 :: f 10 :: f 11 :: f 12 :: f 13 :: f 14 :: f 15 :: f 16 :: f 17 :: f 18 :: f 19 :: f 20 :: f 21 :: f 22 :: f 23 :: f 24 :: f 25 :: f 26 :: f 27 :: f 28 :: f 29 :: f 30 :: f 31 :: f 32 :: f 33 :: f 34 :: f 35 :: f 36 :: f 37 :: f 38 :: f 39 :: f 40 :: f 41 :: f 42 :: f 43 :: f 44 :: f 45 :: f 46 :: f 47 :: f 48 :: f 49 :: f 50 :: f 51 :: f 52 :: f 53 :: f 54 :: f 55 :: f 56 :: f 57 :: f 58 :: f 59 :: f 60 :: f 61 :: f 62 :: f 63 :: f 64 :: f 65 :: f 66 :: f 67 :: f 68 :: f 69 :: f 70 :: f 71 :: f 72 :: f 73 :: f 74 :: f 75 :: f 76 :: f 77 :: f 78 :: f 79 :: f 80 :: []), defers := [] } w := by
  unfold FnShiftMentionsR0
  go_wp2
  exact hQ _ rfl rfl rfl
theorem fnShiftMentions0_at {m : Array Value} {A : Option Addr} {n c : Nat} {w : World}  (hs : m.size = 81) (m0 : m.getD 0 undef = .slice A n c) (Q : Exit → Act → World → Prop) (hQ : ∀ a' : Act, a'.defers = [] → a'.tmps.size = 81 → a'.tmps.getD 0 undef = .slice A n c → Q .normal a' (w)) :
  FnShiftMentionsR0.wp Try.prog Q { tmps := m, defers := [] } w := by
  have e := fnShiftMentions_lit hs
  rw [m0] at e
  rw [e]
  exact fnShiftMentions0_wp (f := fun i => m.getD i undef)  Q hQ
set_option maxHeartbeats 4000000 in
theorem fnShiftMentions1_wp {f : Nat → Value} {A : Option Addr} {n c : Nat} {w : World} (hn : ¬ (1048576 : Int) < (n : Int)) (Q : Exit → Act → World → Prop) (hQ : ∀ a' : Act, a'.defers = [] → a'.tmps.size = 81 → a'.tmps.getD 0 undef = .slice A n c → a'.tmps.getD 14 undef = .bool false → Q .normal a' (w)) :
  FnShiftMentionsR1.wp Try.prog Q { tmps := List.toArray (.slice A n c :: f 1 :: f 2 :: f 3 :: f 4 :: f 5 :: f 6 :: f 7 :: f 8 :: f 9 :: f 10 :: f 11 :: f 12 :: f 13 :: f 14 :: f 15 :: f 16 :: f 17 :: f 18 :: f 19 :: f 20 :: f 21 :: f 22 :: f 23 :: f 24 :: f 25 :: f 26 :: f 27 :: f 28 :: f 29 :: f 30 :: f 31 :: f 32 :: f 33 :: f 34 :: f 35 :: f 36 :: f 37 :: f 38 :: f 39 :: f 40 :: f 41 :: f 42 :: f 43 :: f 44 :: f 45 :: f 46 :: f 47 :: f 48 :: f 49 :: f 50 :: f 51 :: f 52 :: f 53 :: f 54 :: f 55 :: f 56 :: f 57 :: f 58 :: f 59 :: f 60 :: f 61 :: f 62 :: f 63 :: f 64 :: f 65 :: f 66 :: f 67 :: f 68 :: f 69 :: f 70 :: f 71 :: f 72 :: f 73 :: f 74 :: f 75 :: f 76 :: f 77 :: f 78 :: f 79 :: f 80 :: []), defers := [] } w := by
  unfold FnShiftMentionsR1
  go_wp2
  exact hQ _ rfl rfl rfl rfl
theorem fnShiftMentions1_at {m : Array Value} {A : Option Addr} {n c : Nat} {w : World} (hn : ¬ (1048576 : Int) < (n : Int)) (hs : m.size = 81) (m0 : m.getD 0 undef = .slice A n c) (Q : Exit → Act → World → Prop) (hQ : ∀ a' : Act, a'.defers = [] → a'.tmps.size = 81 → a'.tmps.getD 0 undef = .slice A n c → a'.tmps.getD 14 undef = .bool false → Q .normal a' (w)) :
  FnShiftMentionsR1.wp Try.prog Q { tmps := m, defers := [] } w := by
  have e := fnShiftMentions_lit hs
  rw [m0] at e
  rw [e]
  exact fnShiftMentions1_wp (f := fun i => m.getD i undef) hn Q hQ
set_option maxHeartbeats 4000000 in
theorem fnShiftMentions3_wp {f : Nat → Value} {A : Option Addr} {n c : Nat} {w : World} {post : Int → Int → Option Addr → Nat → Nat → Int → Int → World → Prop} (hcall : Calls Try.prog 16 #[.slice A n c] w fun e w' => ∃ x0 x1 A3 l3 k3 y0 y1, e = .returned (.tuple #[.agg #[.int .i64 x0, .int .i64 x1, .slice A3 l3 k3], .int .i64 y0, .int .i64 y1]) ∧ post x0 x1 A3 l3 k3 y0 y1 w') (Q : Exit → Act → World → Prop) (hQ : ∀ x0 x1 A3 l3 k3 (y0 y1 : Int) (w' : World), post x0 x1 A3 l3 k3 y0 y1 w' → ∀ a' : Act, a'.defers = [] → a'.tmps.size = 81 → a'.tmps.getD 0 undef = .slice A n c → a'.tmps.getD 3 undef = .pointer (some ⟨w'.heap.size, 0, none⟩) → a'.tmps.getD 4 undef = .int .i64 y0 → a'.tmps.getD 5 undef = .int .i64 y1 → Q .normal a' (w'.alloc (.cells #[.int .i64 x0, .int .i64 x1, .slice A3 l3 k3] 32))) :
  FnShiftMentionsR3.wp Try.prog Q { tmps := List.toArray (.slice A n c :: f 1 :: f 2 :: f 3 :: f 4 :: f 5 :: f 6 :: f 7 :: f 8 :: f 9 :: f 10 :: f 11 :: f 12 :: f 13 :: f 14 :: f 15 :: f 16 :: f 17 :: f 18 :: f 19 :: f 20 :: f 21 :: f 22 :: f 23 :: f 24 :: f 25 :: f 26 :: f 27 :: f 28 :: f 29 :: f 30 :: f 31 :: f 32 :: f 33 :: f 34 :: f 35 :: f 36 :: f 37 :: f 38 :: f 39 :: f 40 :: f 41 :: f 42 :: f 43 :: f 44 :: f 45 :: f 46 :: f 47 :: f 48 :: f 49 :: f 50 :: f 51 :: f 52 :: f 53 :: f 54 :: f 55 :: f 56 :: f 57 :: f 58 :: f 59 :: f 60 :: f 61 :: f 62 :: f 63 :: f 64 :: f 65 :: f 66 :: f 67 :: f 68 :: f 69 :: f 70 :: f 71 :: f 72 :: f 73 :: f 74 :: f 75 :: f 76 :: f 77 :: f 78 :: f 79 :: f 80 :: []), defers := [] } w := by
  unfold FnShiftMentionsR3
  go_wp2_with fail
  refine hcall.mono ?_
  rintro e w' ⟨x0, x1, A3, l3, k3, y0, y1, rfl, hp⟩
  go_wp2
  exact hQ _ _ _ _ _ _ _ _ hp _ rfl rfl rfl rfl rfl rfl
theorem fnShiftMentions3_at {m : Array Value} {A : Option Addr} {n c : Nat} {w : World} {post : Int → Int → Option Addr → Nat → Nat → Int → Int → World → Prop} (hcall : Calls Try.prog 16 #[.slice A n c] w fun e w' => ∃ x0 x1 A3 l3 k3 y0 y1, e = .returned (.tuple #[.agg #[.int .i64 x0, .int .i64 x1, .slice A3 l3 k3], .int .i64 y0, .int .i64 y1]) ∧ post x0 x1 A3 l3 k3 y0 y1 w') (hs : m.size = 81) (m0 : m.getD 0 undef = .slice A n c) (Q : Exit → Act → World → Prop) (hQ : ∀ x0 x1 A3 l3 k3 (y0 y1 : Int) (w' : World), post x0 x1 A3 l3 k3 y0 y1 w' → ∀ a' : Act, a'.defers = [] → a'.tmps.size = 81 → a'.tmps.getD 0 undef = .slice A n c → a'.tmps.getD 3 undef = .pointer (some ⟨w'.heap.size, 0, none⟩) → a'.tmps.getD 4 undef = .int .i64 y0 → a'.tmps.getD 5 undef = .int .i64 y1 → Q .normal a' (w'.alloc (.cells #[.int .i64 x0, .int .i64 x1, .slice A3 l3 k3] 32))) :
  FnShiftMentionsR3.wp Try.prog Q { tmps := m, defers := [] } w := by
  have e := fnShiftMentions_lit hs
  rw [m0] at e
  rw [e]
  exact fnShiftMentions3_wp (f := fun i => m.getD i undef) hcall Q hQ
set_option maxHeartbeats 4000000 in
theorem fnShiftMentions_walk_of (hval : ∀ (o n : Int) (kids : List (List AC)) (y0 y1 : Int), Fit .expr [.int o, .int n, .sl 3 kids] → 1 + kids.length + rsS kids ≤ 3000 → (y0 ∈ ([0, 1, 2, 3, 0, 99, 100, -1] : List Int) ∧ y1 ∈ ([1, 2, 3, 0, 99, 100, -1] : List Int)) → evM X_laws_FnShiftMentions 100000 (.run (dropS 3 (cOf Try.f7))) [] [(3, .box [.int o, .int n, .sl 3 kids]), (4, .v (.cell (.int y0))), (5, .v (.cell (.int y1)))] = some (.v (.cell (.bool true))))
    (hdraw : ∀ (A : Option Addr) (n c : Nat) (w : World), Code_ w A n c → Calls Try.prog 16 #[.slice A n c] w fun e w' => ∃ v y0 y1, e = .returned (.tuple #[v, .int .i64 y0, .int .i64 y1]) ∧ (y0 ∈ ([0, 1, 2, 3, 0, 99, 100, -1] : List Int) ∧ y1 ∈ ([1, 2, 3, 0, 99, 100, -1] : List Int)) ∧ DrawnE w v w')
    (A : Option Addr) (n c : Nat) (w : World) (h : Code_ w A n c) : Calls Try.prog 7 #[.slice A n c] w fun e w' => e = .returned (.bool true) ∧ Below w.heap.size w w' := by
  by_cases hbig : 1048576 < n
  · go_enter Try.func7, Try.ntmps7
    go_wp2_with fail
    go_ret
    exact ⟨rfl, Below.refl _ _⟩
  · refine calls_of_wp Try.func7 (c := cOf Try.f7) (by kernel_rfl) ?_
    rw [fnShiftMentions_body]
    have hs0 : (#[Value.slice A n c] ++ Array.replicate (Try.f7.ntmps - (#[.slice A n c] : Array Value).size) undef).size = 81 := by simp [Try.ntmps7]
    have h0 : (#[Value.slice A n c] ++ Array.replicate (Try.f7.ntmps - (#[.slice A n c] : Array Value).size) undef).getD 0 undef = Value.slice A n c := by simp [Array.getD]
    generalize (#[Value.slice A n c] ++ Array.replicate (Try.f7.ntmps - (#[.slice A n c] : Array Value).size) undef) = m0 at hs0 h0
    refine wp_seq (fnShiftMentions0_at hs0 h0 _ fun a1 hd1 hs1 h1 => ?_)
    obtain ⟨m1, dd⟩ := a1
    have hd1 : dd = [] := hd1
    subst hd1
    refine wp_seq (wp_seq (fnShiftMentions1_at (by omega) hs1 h1 _ fun a2 hd2 hs2 h2 h29 => ?_))
    obtain ⟨m2, dd⟩ := a2
    have hd2 : dd = [] := hd2
    subst hd2
    refine wp_cond (t := false) h29 ?_
    simp only [Bool.false_eq_true, if_false]
    refine wp_skip ?_
    show Code.wp _ (.seq FnShiftMentionsR3 (dropS 3 (cOf Try.f7))) _ ⟨m2, []⟩ w
    refine wp_seq (fnShiftMentions3_at (post := fun x0 x1 A3 l3 k3 y0 y1 w' => (y0 ∈ ([0, 1, 2, 3, 0, 99, 100, -1] : List Int) ∧ y1 ∈ ([1, 2, 3, 0, 99, 100, -1] : List Int)) ∧ DrawnE w (.agg #[.int .i64 x0, .int .i64 x1, .slice A3 l3 k3]) w') ?_ hs2 h2 _ ?_)
    · refine (hdraw A n c w h).mono ?_
      rintro e w' ⟨v, y0, y1, rfl, hy, N, p', o, n', A', l, c', kids, rfl, hd⟩
      exact ⟨_, _, _, _, _, _, _, rfl, hy, N, p', o, n', A', l, c', kids, rfl, hd⟩
    rintro x0 x1 A3 l3 k3 y0 y1 w1 ⟨hy, N, p1, o, n', A', l, c', kids, hv, hrep, hf, hs, hev, hz⟩ a3 hd3 hs3 h3 h33 h34 h35
    injection hv with hv
    have hv := congrArg Array.toList hv
    simp only [List.cons.injEq, Value.int.injEq, true_and, and_true] at hv
    obtain ⟨rfl, rfl, hv⟩ := hv
    obtain ⟨m3, dd⟩ := a3
    have hd3 : dd = [] := hd3
    subst hd3
    have hs3 : m3.size = 81 := hs3
    have h33 : m3.getD 3 undef = .pointer (some ⟨w1.heap.size, 0, none⟩) := h33
    have h34 : m3.getD 4 undef = .int .i64 y0 := h34
    have h35 : m3.getD 5 undef = .int .i64 y1 := h35
    have hea := evo_alloc (p := p1) (w := w1) (.cells #[.int .i64 x0, .int .i64 x1, .slice A3 l3 k3] 32) 0 (fun _ => False)
    have hx := heap_alloc_new w1 (.cells #[.int .i64 x0, .int .i64 x1, .slice A3 l3 k3] 32)
    have hz1 : Zp (upP p1 w1.heap.size 0) (w1.alloc (.cells #[.int .i64 x0, .int .i64 x1, .slice A3 l3 k3] 32)) := ⟨fun c hc => by
      rw [upP_f]
      split
      · rfl
      · exact hz.1 c (by simp at hc; omega), fun _ _ _ => trivial⟩
    have hE := hev.trans hea (C := fun _ => False) (fun _ _ h => h) (fun _ _ h => h)
    have hr1 : Rep (upP p1 w1.heap.size 0) (w1.alloc (.cells #[.int .i64 x0, .int .i64 x1, .slice A3 l3 k3] 32)) (.slice A3 l3 k3) (.sl 3 kids) := by
      obtain ⟨rfl, rfl, rfl⟩ : A3 = A' ∧ l3 = l ∧ k3 = c' := by simpa using hv
      exact hrep.evo hea
    have hK : Known (upP p1 w1.heap.size 0) (w1.alloc (.cells #[.int .i64 x0, .int .i64 x1, .slice A3 l3 k3] 32)) m3 81 [(3, .box [.int x0, .int x1, .sl 3 kids]), (4, .v (.cell (.int y0))), (5, .v (.cell (.int y1)))] (fun x => w.heap.size ≤ x) := by
      have look : ∀ t x, List.lookup t [(3, .box [.int x0, .int x1, .sl 3 kids]), (4, .v (.cell (.int y0))), (5, .v (.cell (.int y1)))] = some x → (t = 3 ∧ x = AV.box [.int x0, .int x1, .sl 3 kids]) ∨ (t = 4 ∧ x = AV.v (.cell (.int y0))) ∨ (t = 5 ∧ x = AV.v (.cell (.int y1))) ∨ False := fun t x hx => by
        simp only [List.lookup_cons] at hx
        by_cases h3 : t = 3
        · subst h3; simp at hx; exact .inl ⟨rfl, hx.symm⟩
        rw [show (t == 3) = false by simpa using h3] at hx
        by_cases h4 : t = 4
        · subst h4; simp at hx; exact .inr (.inl ⟨rfl, hx.symm⟩)
        rw [show (t == 4) = false by simpa using h4] at hx
        by_cases h5 : t = 5
        · subst h5; simp at hx; exact .inr (.inr (.inl ⟨rfl, hx.symm⟩))
        rw [show (t == 5) = false by simpa using h5] at hx
        simp at hx
      refine ⟨fun t x hx' => ?_, fun t x hx' => ?_, fun t t' cs cs' x ht h1 h2 h3 h4 => ?_⟩
      · rcases look t x hx' with ⟨rfl, rfl⟩ | ⟨rfl, rfl⟩ | ⟨rfl, rfl⟩ | h
        · exact ⟨by omega, _, _, _, h33, hx, .int _, .int _, hr1, trivial⟩
        · exact ⟨by omega, by rw [h34]; exact .int _⟩
        · exact ⟨by omega, by rw [h35]; exact .int _⟩
        · exact h.elim
      · rcases look t x hx' with ⟨rfl, rfl⟩ | ⟨rfl, rfl⟩ | ⟨rfl, rfl⟩ | h
        · exact .inr ⟨_, _, rfl, h33, by rw [upP_f, if_pos rfl], hev.size⟩
        · exact .inl ⟨_, rfl⟩
        · exact .inl ⟨_, rfl⟩
        · exact h.elim
      · rcases look _ _ h1 with ⟨rfl, _⟩ | ⟨_, h⟩ | ⟨_, h⟩ | h
        · rcases look _ _ h2 with ⟨rfl, _⟩ | ⟨_, h⟩ | ⟨_, h⟩ | h
          · exact ht rfl
          · cases h
          · cases h
          · exact h.elim
        · cases h
        · cases h
        · exact h.elim
    obtain ⟨O, hO⟩ := Option.isSome_iff_exists.1 laws_FnShiftMentions_st
    have hI := invN_known hs3 hK hz1 (fun x hx => Nat.le_trans hE.size hx)
    refine wp_bodyPost_mono (restN_ok (X := X_laws_FnShiftMentions) (a := { tmps := m3, defers := [] }) orders_ok lay_ok vok (hval x0 x1 kids y0 y1 hf hs hy) (knownL_len _ _ _) (knownN_ag fun t x hx => (hK.lt t x hx).1) hO hI rfl hE) ?_
    rintro e w' ⟨v, rfl, p', hsr, _, _, hev', hz'⟩
    have hsr : Rep p' w' v (.bool true) := hsr
    cases hsr
    exact ⟨rfl, hev'.os, hev'.tape, hev'.output, hev'.size, fun b hb => hev'.block b hb (fun h => h)⟩
end Go.Proofs.Ytbodfaghedolbaa
namespace Go.Proofs.Ytbodfaghedolbaa
open Go Go.RowKit
theorem fit_zero : Fit .expr [.int 0, .int 0, .sl 3 []] := fit_node (by omega) (by omega) (by simp) (fun c hc => by cases hc)
theorem eq_zero : laws_equalExpr [.agg [.int 0, .int 0, .sl 3 []], .agg [.int 0, .int 0, .sl 3 []]] = rB true := l_eqExpr 1 _ fit_zero (by rw [cS_ex, rsS_nil]; simp) (by rw [cS_ex, rsS_nil]; simp)
section
variable {o n a b : Int} {kids : List (List AC)}
theorem val_ShiftMentions (hf : Fit .expr [.int o, .int n, .sl 3 kids]) (hs : 1 + kids.length + rsS kids ≤ 3000) :
    evM X_laws_FnShiftMentions 100000 (.run (dropS 3 (cOf Try.f7))) [] [(3, .box [.int o, .int n, .sl 3 kids]), (4, .v (.cell (.int a))), (5, .v (.cell (.int b)))] = some (.v (.cell (.bool true))) := by
  by_cases h : ShOk a b o n kids
  · obtain ⟨hfo, hco⟩ := sh_out hf h
    have h29 := h.1
    have ha := h.2.1
    have hb := h.2.2.1
    refine laws_FnShiftMentions_rest (callEB (i_shift_yes hf h) (callEB (s_shift_yes hf h) (callB (l_eqExpr 31 _ hfo (by omega) (by omega)) (bifF rfl (bifF rfl (bifF rfl ?_))))))
    have men1 : ∀ v : Int, impl_MentionsOf [.agg [.int o, .int n, .sl 3 kids], .cell (.int v)] = rI ((men v 31 [.int o, .int n, .sl 3 kids] : Nat) : Int) := fun v => by
      have g := i_mentions (v := v) hf (s := 31) (by omega) (by omega)
      unfold menV at g
      rwa [if_pos h29] at g
    have men2 : ∀ v : Int, impl_MentionsOf [.agg [.int o, .int (shF a b o n), .sl 3 (kids.map (shr a b 30))], .cell (.int v)] = rI (((if v < a then men v 31 [.int o, .int n, .sl 3 kids] else if v ≥ a + b then men (v - b) 31 [.int o, .int n, .sl 3 kids] else 0) : Nat) : Int) := fun v => by
      have g := i_mentions (v := v) hfo (s := 31) (by omega) (by omega)
      unfold menV at g
      rw [if_pos (by omega)] at g
      rw [g, ← shr_men hb.1 v 31 _ hf (by omega), shr_eq]
    have key : ∀ m k : Nat, k + m = 12 → laws_FnShiftMentions_L0 o n kids a b o (shF a b o n) (kids.map (shr a b 30)) (k : Int) = rB true := by
      intro m
      induction m with
      | zero =>
        intro k hk
        exact laws_FnShiftMentions_L0_le (bifF (decide_eq_false (by omega)) rfl)
      | succ m ih =>
        intro k hk
        have hn := ih (k + 1) (by omega)
        rw [← wrk (by unfold maxI; omega)] at hn
        have w : wrapI (a + b) = a + b := wr (by omega) (by omega)
        have w2 : wrapI ((k : Int) - b) = k - b := wr (by omega) (by omega)
        have g2 := men2 (k : Int)
        by_cases h1 : (k : Int) < a
        · rw [if_pos h1] at g2
          exact laws_FnShiftMentions_L0_le (bifT (decide_eq_true (by omega)) (bifT (decide_eq_true h1) (callI (men1 _) (callI g2 (bifF (nef rfl) hn)))))
        · rw [if_neg h1] at g2
          refine laws_FnShiftMentions_L0_le (bifT (decide_eq_true (by omega)) (bifF (decide_eq_false h1) ?_))
          rw [w]
          by_cases h2 : (k : Int) ≥ a + b
          · rw [if_pos h2] at g2
            refine bifT (decide_eq_true h2) ?_
            rw [w2]
            exact callI (men1 _) (callI g2 (bifF (nef rfl) hn))
          · rw [if_neg h2] at g2
            exact bifF (decide_eq_false h2) (callI g2 (bifF (nef rfl) hn))
    exact key 12 0 (by omega)
  · exact laws_FnShiftMentions_rest (callEB (i_shift_no hf h) (callEB (s_shift_no hf h) (callB eq_zero (bifF rfl (bifF rfl (bifT rfl (callB eq_zero (bifT rfl rfl))))))))
end
end Go.Proofs.Ytbodfaghedolbaa
namespace Go.Proofs.Ytbodfaghedolbaa
open Go Go.RowKit
set_option maxHeartbeats 4000000 in
theorem drawShift_any {A : Option Addr} {n c : Nat} {w : World} (h : Code_ w A n c) :
    Calls Try.prog 16 #[.slice A n c] w fun e w' => ∃ v y0 y1, e = .returned (.tuple #[v, .int .i64 y0, .int .i64 y1]) ∧ (y0 ∈ ([0, 1, 2, 3, 0, 99, 100, -1] : List Int) ∧ y1 ∈ ([1, 2, 3, 0, 99, 100, -1] : List Int)) ∧ DrawnE w v w' := by
  have hnr := newReader_any (B := w.heap.size) (w := w.alloc (.cells #[.int .i64 0, .int .i64 0, .slice none 0 0] 32)) (by simp) (CodeB.alloc h (Nat.le_refl _) _)
  have HR := Lib.hid hnr
  clear hnr h
  go_enter Try.func16, Try.ntmps16
  go_wp2_with fail
  refine HR.out.mono ?_
  rintro e w2 ⟨rfl, N, ns, hns, ht, hs2, hev⟩
  have hev0 := (stab0_alloc w.heap.size N w (.cells #[.int .i64 0, .int .i64 0, .slice none 0 0] 32) (fun _ => False)).trans (hev (fun _ => False)) (C := fun _ => False) (fun _ _ h => h) (fun _ _ h => h)
  have hx2 := ((hev (fun _ => False)).block w.heap.size (by simp) (fun h => h)).trans (heap_alloc_new w (.cells #[.int .i64 0, .int .i64 0, .slice none 0 0] 32))
  have hs1 : (w.alloc (.cells #[.int .i64 0, .int .i64 0, .slice none 0 0] 32)).heap.size = w.heap.size + 1 := by simp
  rw [hs1] at ht hs2 ⊢
  have hse := someExpr_any hns (by omega) (stab0_zp (by omega) N) ht
  have HS := Lib.hid hse
  have HE := Lib.hid hev0
  clear hse hev0 hev HR ht
  go_wp2_with fail
  refine HS.out.mono ?_
  rintro e w3 ⟨v, p3, o, n3, kids, pos, rfl, hsr, hf, hsz, hev3, hz3, ht3, hpos⟩
  obtain ⟨arr, rfl, hla⟩ : ∃ arr, v = .agg arr ∧ RepL p3 w3 arr.toList [.int o, .int n3, .sl 3 kids] := hsr
  obtain ⟨ls⟩ := arr
  match ls, hla with
  | [x0, x1, x2], ⟨t0, t1, t2, _⟩ =>
  cases t0
  cases t1
  obtain ⟨A3, l3, d3, rfl⟩ := rep_slice t2
  have hne : w.heap.size ≠ w.heap.size + 1 := by omega
  have hb3 := ht3.lt
  have hx3 := (hev3.block w.heap.size (by omega) hne).trans hx2
  have hp3 := (hev3.same w.heap.size (by omega) hne).trans (stab0_at (Nat.le_refl _))
  have hea := evo_alloc (p := p3) (w := w3) (.cells #[.int .i64 o, .int .i64 n3, .slice A3 l3 d3] 32) 0 (fun _ => False)
  have hz4 : Zp (upP p3 w3.heap.size 0) (w3.alloc (.cells #[.int .i64 o, .int .i64 n3, .slice A3 l3 d3] 32)) := ⟨fun c hc => by
    rw [upP_f]
    split
    · rfl
    · exact hz3.1 c (by simp at hc; omega), fun _ _ _ => trivial⟩
  have hx4 := (hea.block w.heap.size (by omega) (fun h => h)).trans hx3
  have hp4 := (hea.same w.heap.size (by omega) (fun h => h)).trans hp3
  have hx5 := heap_alloc_new w3 (.cells #[.int .i64 o, .int .i64 n3, .slice A3 l3 d3] 32)
  have hs4 : (w3.alloc (.cells #[.int .i64 o, .int .i64 n3, .slice A3 l3 d3] 32)).heap.size = w3.heap.size + 1 := by simp
  have hE4 := (HE.out.trans hev3 (C := fun _ => False) (fun _ _ h => h) (fun q hq e => absurd hq (by have : q = w.heap.size + 1 := e; omega))).trans hea (C := fun _ => False) (fun _ _ h => h) (fun _ _ h => h)
  have t4 := t2.evo hea
  have ht4 := ht3.evo hea
  have n1 : w3.heap.size ≠ w.heap.size + 1 := by omega
  have n2 : w.heap.size ≠ w3.heap.size := by omega
  obtain ⟨y0, hy0, hone⟩ := one_calls hns (pos := pos) (by omega) 3 (xs := [0, 1, 2, 3, 0, 99, 100, -1]) (by simp) (by simp) hz4 ht4
  have hone := hone _ (.inl rfl)
  rw [hs4] at hone
  have CA := Lib.hid hone
  have H4 := Lib.hid hE4
  have H5 := Lib.hid t4
  clear hea HS HE t2 ht3 hz3 hev3 hx2 hx3 hp3 hs2 hs1 hone hE4 t4 ht4 hz4
  go_wp2_with fail
  have h5lt : w3.heap.size < (w3.alloc (.cells #[.int .i64 o, .int .i64 n3, .slice A3 l3 d3] 32)).heap.size := by omega
  have h2lt : w.heap.size < (w3.alloc (.cells #[.int .i64 o, .int .i64 n3, .slice A3 l3 d3] 32)).heap.size := by omega
  clear hs4
  refine Calls.mono CA.out ?_
  rintro e w5 ⟨rfl, p5, hev5, hz5, ht5⟩
  have hx25 := (hev5.block _ h2lt hne).trans hx4
  have hx55 := (hev5.block _ h5lt n1).trans hx5
  have hp25 := (hev5.same _ h2lt hne).trans hp4
  have hE5 := H4.out.trans hev5 (C := fun _ => False) (fun _ _ h => h) (fun q hq e => absurd hq (by have : q = w.heap.size + 1 := e; omega))
  have t5 := H5.out.evo hev5
  have g5lt : w3.heap.size < w5.heap.size := get_lt hx55
  have g2lt : w.heap.size < w5.heap.size := get_lt hx25
  have c0 : w5.cell? ⟨w3.heap.size, 0, none⟩ = some (.int .i64 o) := hcell_of (j := 0) hx55 rfl
  have c1 : w5.cell? ⟨w3.heap.size, 1, none⟩ = some (.int .i64 n3) := hcell_of (j := 1) hx55 rfl
  have c2 : w5.cell? ⟨w3.heap.size, 2, none⟩ = some (.slice A3 l3 d3) := hcell_of (j := 2) hx55 rfl
  clear hev5 hx4 hx5 hp4 CA H4 H5 h5lt h2lt
  obtain ⟨y1, hy1, hone⟩ := one_calls hns (pos := pos + 1) (by omega) 3 (xs := [1, 2, 3, 0, 99, 100, -1]) (by simp) (by simp) hz5 ht5
  have CK : Hid (Calls Try.prog 31 #[.pointer (some ⟨w.heap.size + 1, 0, none⟩), .slice (some ⟨w5.heap.size, 0, none⟩) 7 7] (w5.drew.alloc (.cells #[.int .i64 1, .int .i64 2, .int .i64 3, .int .i64 0, .int .i64 99, .int .i64 100, .int .i64 (-1)] 3)) fun e w' => e = .returned (.int .i64 y1) ∧ ∃ p', Evo (· = w.heap.size + 1) p5 w5 p' w' ∧ Zp p' w') := Lib.hid (by
    refine Calls.mono (hone _ (.inr rfl)) ?_
    rintro e w' ⟨h1, p', h2, h3, _⟩
    exact ⟨h1, p', h2, h3⟩)
  have H4 := Lib.hid hE5
  have H5 := Lib.hid t5
  clear hone hE5 t5 hz5 ht5
  generalize w3.heap.size = c5 at *
  go_wp2_with fail
  go_region_held3 (fun w' => w'.cell? ⟨c5, 0, none⟩ = some (.int .i64 o) ∧ w'.cell? ⟨c5, 1, none⟩ = some (.int .i64 n3) ∧ w'.cell? ⟨c5, 2, none⟩ = some (.slice A3 l3 d3))
    (first | go_keep | (exact ⟨by assumption, by assumption, by assumption⟩) | (exact ⟨(World.cell?_alloc_lt _ _ _ g5lt).trans c0, (World.cell?_alloc_lt _ _ _ g5lt).trans c1, (World.cell?_alloc_lt _ _ _ g5lt).trans c2⟩) | (exact ⟨by rw [World.cell?_setCell_far _ _ _ _ n2, World.cell?_setCell_far _ _ _ _ n2, World.cell?_setCell_far _ _ _ _ n2]; assumption, by rw [World.cell?_setCell_far _ _ _ _ n2, World.cell?_setCell_far _ _ _ _ n2, World.cell?_setCell_far _ _ _ _ n2]; assumption, by rw [World.cell?_setCell_far _ _ _ _ n2, World.cell?_setCell_far _ _ _ _ n2, World.cell?_setCell_far _ _ _ _ n2]; assumption⟩))
    (first | (go_at_call 31; refine CK.out.mono ?_; rintro e w' ⟨rfl, p', hev', hz'⟩; have q2 := (hev'.block _ g2lt hne).trans hx25; have e0 : w'.cell? ⟨c5, 0, none⟩ = some (.int .i64 o) := (World.cell?_of_block (hev'.block _ g5lt n1)).trans c0; have e1 : w'.cell? ⟨c5, 1, none⟩ = some (.int .i64 n3) := (World.cell?_of_block (hev'.block _ g5lt n1)).trans c1; have e2 : w'.cell? ⟨c5, 2, none⟩ = some (.slice A3 l3 d3) := (World.cell?_of_block (hev'.block _ g5lt n1)).trans c2; have k0 : w'.cell? ⟨w.heap.size, 0, none⟩ = some (.int .i64 0) := hcell_of (j := 0) q2 rfl; have k1 : w'.cell? ⟨w.heap.size, 1, none⟩ = some (.int .i64 0) := hcell_of (j := 1) q2 rfl; have k2 : w'.cell? ⟨w.heap.size, 2, none⟩ = some (.slice none 0 0) := hcell_of (j := 2) q2 rfl; have k3 := frozen_of_row w' _ 0 _ _ q2; have k4 := frozen_of_row w' _ 1 _ _ q2; have k5 := frozen_of_row w' _ 2 _ _ q2))
  have hp5 := (hev'.same _ g2lt hne).trans hp25
  have g1 := heap_setCell_same w' w.heap.size 0 _ _ (.int .i64 o) q2
  have g2 := heap_setCell_same _ w.heap.size 1 _ _ (.int .i64 n3) g1
  have g3 := heap_setCell_same _ w.heap.size 2 _ _ (.slice A3 l3 d3) g2
  have z0 := hcell_of (j := 0) g3 rfl
  have z1 := hcell_of (j := 1) g3 rfl
  have z2 := hcell_of (j := 2) g3 rfl
  have hevc : Evo (· = w.heap.size) p' w' p' (put3 w' w.heap.size 0 (.int .i64 o) (.int .i64 n3) (.slice A3 l3 d3)) := put3_evo p' hp5
  have hfin : DrawnE w (.agg #[.int .i64 o, .int .i64 n3, .slice A3 l3 d3]) (put3 w' w.heap.size 0 (.int .i64 o) (.int .i64 n3) (.slice A3 l3 d3)) :=
    ⟨N, p', o, n3, A3, l3, d3, kids, rfl, (H5.out.evo hev').evo hevc, hf, hsz, (H4.out.trans hev' (C := fun _ => False) (fun _ _ h => h) (fun q hq e => absurd hq (by have : q = w.heap.size + 1 := e; omega))).trans hevc (fun _ _ h => h) (fun q hq e => absurd hq (by have : q = w.heap.size := e; omega)), ⟨fun y hy => hz'.1 y (Nat.le_trans hevc.size hy), fun _ _ _ => trivial⟩⟩
  have HF := Lib.hid hfin
  clear hfin hevc g1 g2 g3 q2 hev' CK H4 H5 hx25 hx55 c0 c1 c2 e0 e1 e2 k0 k1 k2 k3 k4 k5
  go_wp2_with fail
  refine bodyPost_ret (v := .tuple #[.agg #[.int .i64 o, .int .i64 n3, .slice A3 l3 d3], .int .i64 y0, .int .i64 y1]) ?_ rfl ⟨_, y0, y1, rfl, ⟨hy0, hy1⟩, HF.out⟩
  simp [results, Try.results16, go_sem, z0, z1, z2]
end Go.Proofs.Ytbodfaghedolbaa
namespace Go.Proofs.Ytbodfaghedolbaa
open Go Go.RowKit
theorem fnShiftMentions_walk (A : Option Addr) (n c : Nat) (w : World) (h : Code_ w A n c) : Calls Try.prog 7 #[.slice A n c] w fun e w' => e = .returned (.bool true) ∧ Below w.heap.size w w' :=
  fnShiftMentions_walk_of (fun _ _ _ _ _ hf hs _ => val_ShiftMentions hf hs) (fun _ _ _ _ h => drawShift_any h) A n c w h
end Go.Proofs.Ytbodfaghedolbaa
