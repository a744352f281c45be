/- Generic texts and models for the proofs of this seat: part 35. -/
import Derived.Test.YtbodfaghedolbaaS34
set_option linter.unusedVariables false
set_option linter.unusedSimpArgs false
set_option linter.unusedSectionVars false
namespace Go.Proofs.Ytbodfaghedolbaa
open Go
section
variable {ns : List Nat} (hns : ns.length ≤ 2000) {D : List DM} (hD : D ∈ goodL) {R : List PM} (hR : GR R)
include hns hD hR
set_option maxRecDepth 8000 in
set_option maxHeartbeats 1600000 in
theorem t_overList_end {f : Nat} (hf : f < R.length) {at_ : Nat} (hat : at_ < (gP R f).ps.length) {c1 c2 : Int} {c3 : List (List AC)} {acc : List (List AC)} (ha : KidsOk acc) (hl : acc.length ≤ 3) (hs : rsS acc ≤ 6) {p : Nat} (hp : p + 3000 ≤ 800000) :
    EG ns p 1400 700 (spec_overList_L0 (f : Int) (at_ : Int) (decsC D) (pmsC R) c1 c2 c3 (intsC (gP R f).ps) (((gP R f).ps.length : Nat) : Int) (intsC ((gP R f).ps ++ [0, 1])) acc (((gP R f).ps.length : Nat) : Int) (Qr ns p)) := by
  obtain ⟨s1, s2, s3⟩ := hR.small hf
  have h4 := hR.len
  have hnil := rsS_nil
  have hc4 := (cC_le 4).2.1 (by omega)
  have hm4 := (cM_le 4).2.1 (by omega)
  have hend : decide ((((gP R f).ps.length : Nat) : Int) < (((gP R f).ps.length : Nat) : Int)) = false := decide_eq_false (by omega)
  have hA : Fit .expr [.int 9, .int (f : Int), .sl 3 acc] := fit_node (by omega) (by omega) (by omega) ha
  have hV : ((gP R f).ps ++ [0, 1]).length ≤ 5 := by rw [List.length_append]; simp; omega
  by_cases hr : (gP R f).r = 1
  · obtain ⟨x, hx, h1⟩ := t_pick hns (p := p) (by omega) (m := 5) (by omega)
    by_cases hx0 : 0 < x
    · obtain ⟨o, n, l, p1, g1, g2, g3, g4⟩ := t_gen hns hD hR 4 (by omega) ((gP R f).ps ++ [0, 1]) 0 (p + 1) (by omega) (by omega) (by omega)
      obtain ⟨o2, n2, l2, p2, k1, k2, k3, k4⟩ := t_gen hns hD hR 4 (by omega) (gP R f).ps (gP R f).r p1 (by omega) (by omega) (by omega)
      have hcon : Fit .expr [.int 6, .int 1, .sl 3 [[.int o, .int n, .sl 3 l], [.int 9, .int (f : Int), .sl 3 acc]]] := fit_node (by omega) (by omega) (by simp) (fit2 g3 hA)
      by_cases h1n : 1 < (gP R f).ps.length
      · have hz : 0 < (gP R f).ps.length := by omega
        by_cases h2 : (gP R f).ps[0] = 2
        · have happ : Fit .expr [.int 11, .int 0, .sl 3 [[.int 12, .int 0, .sl 3 []], [.int 12, .int (((gP R f).ps.length : Nat) : Int), .sl 3 []]]] := fit_node (by omega) (by omega) (by simp) (fit2 (fit_var (by omega)) (fit_var (by omega)))
          have hcon2 : Fit .expr [.int 6, .int 1, .sl 3 [[.int 11, .int 0, .sl 3 [[.int 12, .int 0, .sl 3 []], [.int 12, .int (((gP R f).ps.length : Nat) : Int), .sl 3 []]]], [.int 9, .int (f : Int), .sl 3 acc]]] := fit_node (by omega) (by omega) (by simp) (fit2 happ hA)
          refine ⟨8, 1, _, p2, spec_overList_L0_le (bifF hend (callExpr (s_node _ _ _) (atPmI rfl hf (bifT (by rw [beq_iff_eq]; exact hr) (callTI h1 (bifT (decide_eq_true (by omega)) (callTE g1 (bifT (decide_eq_true (by omega)) (atNum (k := 0) hz (bifT (by rw [beq_iff_eq]; exact h2) (callExpr (s_variable _) (callExpr (s_variable _) (callExpr (s_node _ _ _) (callExpr (s_node _ _ _) (callExpr (s_variable _) (atPmI rfl hf (callTE k1 (callExpr (s_node _ _ _) rfl)))))))))))))))))), by omega, fit_node (by omega) (by omega) (by simp) (fit3 (fit_var (by omega)) k3 hcon2), ?_⟩
          rw [rs3, rs2, rs2]
          simp
          omega
        · refine ⟨8, 1, _, p2, spec_overList_L0_le (bifF hend (callExpr (s_node _ _ _) (atPmI rfl hf (bifT (by rw [beq_iff_eq]; exact hr) (callTI h1 (bifT (decide_eq_true (by omega)) (callTE g1 (bifT (decide_eq_true (by omega)) (atNum (k := 0) hz (bifF (by rw [beq_eq_false_iff_ne]; exact h2) (callExpr (s_node _ _ _) (callExpr (s_variable _) (atPmI rfl hf (callTE k1 (callExpr (s_node _ _ _) rfl))))))))))))))), by omega, fit_node (by omega) (by omega) (by simp) (fit3 (fit_var (by omega)) k3 hcon), ?_⟩
          rw [rs3, rs2]
          simp
          omega
      · refine ⟨8, 1, _, p2, spec_overList_L0_le (bifF hend (callExpr (s_node _ _ _) (atPmI rfl hf (bifT (by rw [beq_iff_eq]; exact hr) (callTI h1 (bifT (decide_eq_true (by omega)) (callTE g1 (bifF (decide_eq_false (by omega)) (callExpr (s_node _ _ _) (callExpr (s_variable _) (atPmI rfl hf (callTE k1 (callExpr (s_node _ _ _) rfl))))))))))))), by omega, fit_node (by omega) (by omega) (by simp) (fit3 (fit_var (by omega)) k3 hcon), ?_⟩
        rw [rs3, rs2]
        simp
        omega
    · obtain ⟨o2, n2, l2, p2, k1, k2, k3, k4⟩ := t_gen hns hD hR 4 (by omega) (gP R f).ps (gP R f).r (p + 1) (by omega) (by omega) (by omega)
      refine ⟨8, 1, _, p2, spec_overList_L0_le (bifF hend (callExpr (s_node _ _ _) (atPmI rfl hf (bifT (by rw [beq_iff_eq]; exact hr) (callTI h1 (bifF (decide_eq_false (by omega)) (atPmI rfl hf (bifF (by rw [beq_eq_false_iff_ne]; omega) (callExpr (s_variable _) (atPmI rfl hf (callTE k1 (callExpr (s_node _ _ _) rfl)))))))))))), by omega, fit_node (by omega) (by omega) (by simp) (fit3 (fit_var (by omega)) k3 hA), ?_⟩
      rw [rs3]
      simp
      omega
  · by_cases hr0 : (gP R f).r = 0
    · obtain ⟨op, hop, h1⟩ := t_one hns (p := p) (by omega) (xs := [1, 2]) (by simp) (by simp)
      have hop2 : 1 ≤ op ∧ op ≤ 2 := by
        simp only [List.mem_cons, List.not_mem_nil, or_false] at hop
        omega
      obtain ⟨o, n, l, p1, g1, g2, g3, g4⟩ := t_gen hns hD hR 4 (by omega) ((gP R f).ps ++ [0, 1]) 0 (p + 1) (by omega) (by omega) (by omega)
      obtain ⟨o2, n2, l2, p2, k1, k2, k3, k4⟩ := t_gen hns hD hR 4 (by omega) (gP R f).ps (gP R f).r p1 (by omega) (by omega) (by omega)
      have hcon : Fit .expr [.int op, .int 0, .sl 3 [[.int o, .int n, .sl 3 l], [.int 9, .int (f : Int), .sl 3 acc]]] := fit_node (by omega) (by omega) (by simp) (fit2 g3 hA)
      refine ⟨8, 1, _, p2, spec_overList_L0_le (bifF hend (callExpr (s_node _ _ _) (atPmI rfl hf (bifF (by rw [beq_eq_false_iff_ne]; exact hr) (atPmI rfl hf (bifT (by rw [beq_iff_eq]; exact hr0) (callTI h1 (callTE g1 (callExpr (s_node _ _ _) (callExpr (s_variable _) (atPmI rfl hf (callTE k1 (callExpr (s_node _ _ _) rfl))))))))))))), by omega, fit_node (by omega) (by omega) (by simp) (fit3 (fit_var (by omega)) k3 hcon), ?_⟩
      rw [rs3, rs2]
      simp
      omega
    · obtain ⟨o2, n2, l2, p2, k1, k2, k3, k4⟩ := t_gen hns hD hR 4 (by omega) (gP R f).ps (gP R f).r p (by omega) (by omega) (by omega)
      refine ⟨8, 1, _, p2, spec_overList_L0_le (bifF hend (callExpr (s_node _ _ _) (atPmI rfl hf (bifF (by rw [beq_eq_false_iff_ne]; exact hr) (atPmI rfl hf (bifF (by rw [beq_eq_false_iff_ne]; exact hr0) (callExpr (s_variable _) (atPmI rfl hf (callTE k1 (callExpr (s_node _ _ _) rfl)))))))))), by omega, fit_node (by omega) (by omega) (by simp) (fit3 (fit_var (by omega)) k3 hA), ?_⟩
      rw [rs3]
      simp
      omega
set_option maxRecDepth 8000 in
theorem t_overList_L0 {f : Nat} (hf : f < R.length) {at_ : Nat} (hat : at_ < (gP R f).ps.length) {c1 c2 : Int} {c3 : List (List AC)} : ∀ m k : Nat, k + m = (gP R f).ps.length → ∀ (acc : List (List AC)), KidsOk acc → acc.length = k → rsS acc ≤ 2 * k → ∀ p : Nat, p + m + 3000 ≤ 800000 →
    EG ns p (m + 1400) 700 (spec_overList_L0 (f : Int) (at_ : Int) (decsC D) (pmsC R) c1 c2 c3 (intsC (gP R f).ps) (((gP R f).ps.length : Nat) : Int) (intsC ((gP R f).ps ++ [0, 1])) acc (k : Int) (Qr ns p)) := by
  obtain ⟨s1, s2, s3⟩ := hR.small hf
  have hnil := rsS_nil
  intro m
  induction m with
  | zero =>
    intro k hk acc ha hl hs p hp
    obtain rfl : k = (gP R f).ps.length := by omega
    exact (t_overList_end hns hD hR hf hat ha (by omega) (by omega) (by omega)).le (by omega) (by omega)
  | succ m ih =>
    intro k hk acc ha hl hs p hp
    have hlt : k < (gP R f).ps.length := by omega
    have hgo : decide ((k : Int) < (((gP R f).ps.length : Nat) : Int)) = true := decide_eq_true (by omega)
    have hstep : ∀ (o n : Int) (l : List (List AC)), Fit .expr [.int o, .int n, .sl 3 l] → l.length + rsS l ≤ 2 → ∀ p' : Nat, p' ≤ p + 1 → EG ns p (m + 1 + 1400) 700 (spec_overList_L0 (f : Int) (at_ : Int) (decsC D) (pmsC R) c1 c2 c3 (intsC (gP R f).ps) (((gP R f).ps.length : Nat) : Int) (intsC ((gP R f).ps ++ [0, 1])) (acc ++ [[.int o, .int n, .sl 3 l]]) (wrapI ((k : Int) + 1)) (Qr ns p')) := fun o n l hfl hsl p' hp' => by
      have hsz := kids_size (kids := acc) (o := o) (n := n) (l := l)
      have hlen : (acc ++ [[AC.int o, .int n, .sl 3 l]]).length = k + 1 := by simp; omega
      have hnx := ih (k + 1) (by omega) (acc ++ [[.int o, .int n, .sl 3 l]]) (kids_snoc ha hfl) hlen (by omega) p' (by omega)
      rw [← wrk (by unfold maxI; omega)] at hnx
      exact EG.same hnx (by omega) (by omega) fun o n kids q h => h
    by_cases hka : k = at_
    · have hw : wrapI ((((gP R f).ps.length : Nat) : Int) + 1) = (((gP R f).ps.length + 1 : Nat) : Int) := by rw [wr (by omega) (by omega)]; omega
      refine EG.same (hstep 12 (((gP R f).ps.length + 1 : Nat) : Int) [] (fit_var (by omega)) (by simp [rsS_nil]) p (by omega)) (by omega) (by omega) fun o n kids q h => spec_overList_L0_le (bifT hgo (bifT (by rw [beq_iff_eq]; omega) ?_))
      rw [hw]
      exact callExpr (s_variable _) (appTo (by simp; omega) h)
    · have hne : (((k : Nat) : Int) == ((at_ : Nat) : Int)) = false := by rw [beq_eq_false_iff_ne]; omega
      by_cases h0 : (gP R f).ps[k] = 0
      · obtain ⟨x, hx, h1⟩ := t_pick hns (p := p) (by omega) (m := 2) (by omega)
        by_cases hx0 : x = 0
        · subst hx0
          have hadd : Fit .expr [.int 1, .int 0, .sl 3 [[.int 12, .int (k : Int), .sl 3 []], [.int 12, .int (((gP R f).ps.length : Nat) : Int), .sl 3 []]]] := fit_node (by omega) (by omega) (by simp) (fit2 (fit_var (by omega)) (fit_var (by omega)))
          exact EG.same (hstep 1 0 _ hadd (by rw [rs2]; simp [rsS_nil]) (p + 1) (by omega)) (by omega) (by omega) fun o n kids q h => spec_overList_L0_le (bifT hgo (bifF hne (atNum hlt (bifT (by rw [beq_iff_eq]; exact h0) (callTI h1 (bifT rfl (callExpr (s_variable _) (callExpr (s_variable _) (callExpr (s_node _ _ _) (appTo (by simp; omega) h))))))))))
        · exact EG.same (hstep 12 (k : Int) [] (fit_var (by omega)) (by simp [rsS_nil]) (p + 1) (by omega)) (by omega) (by omega) fun o n kids q h => spec_overList_L0_le (bifT hgo (bifF hne (atNum hlt (bifT (by rw [beq_iff_eq]; exact h0) (callTI h1 (bifF (by rw [beq_eq_false_iff_ne]; omega) (callExpr (s_variable _) (appTo (by simp; omega) h))))))))
      · exact EG.same (hstep 12 (k : Int) [] (fit_var (by omega)) (by simp [rsS_nil]) p (by omega)) (by omega) (by omega) fun o n kids q h => spec_overList_L0_le (bifT hgo (bifF hne (atNum hlt (bifF (by rw [beq_eq_false_iff_ne]; exact h0) (callExpr (s_variable _) (appTo (by simp; omega) h))))))
set_option maxRecDepth 8000 in
theorem t_overList {f : Nat} (hf : f < R.length) {at_ : Nat} (hat : at_ < (gP R f).ps.length) {p : Nat} (hp : p + 4000 ≤ 800000) : EG ns p 1500 700 (spec_overList (Qr ns p) [pgC D R, .cell (.int (f : Int)), .cell (.int (at_ : Int))]) := by
  obtain ⟨s1, s2, s3⟩ := hR.small hf
  have h := t_overList_L0 hns hD hR hf hat (c1 := 0) (c2 := 0) (c3 := []) (gP R f).ps.length 0 (by omega) [] (fun b hb => by cases hb) rfl (by simp [rsS_nil]) p (by omega)
  refine EG.same h (by omega) (by omega) fun o n kids q h => spec_overList_le (atPmI rfl hf ?_)
  rw [intsC_len]
  exact callS (s_extM (gP R f).ps [0, 1] (by simp; omega)) h
theorem s_placeM (xs : List Int) (n : Int) (hx : xs.length ≤ 1048576) : ∃ r : Int, spec_placeIn [.cell (.sl 1 (intsC xs)), .cell (.int n)] = rI r ∧ (r = -1 ∨ ∃ k : Nat, k < xs.length ∧ r = (k : Int)) := by
  have key : ∀ m k : Nat, k + m = xs.length → ∃ r : Int, spec_placeIn_L0 (intsC xs) n (k : Int) = rI r ∧ (r = -1 ∨ ∃ k : Nat, k < xs.length ∧ r = (k : Int)) := by
    intro m
    induction m with
    | zero => intro k hk; exact ⟨-1, spec_placeIn_L0_le (bifF (decide_eq_false (by rw [intsC_len]; omega)) rfl), .inl rfl⟩
    | succ m ih =>
      intro k hk
      have hlt : k < xs.length := by omega
      rcases e : (xs[k] == n) with _ | _
      · obtain ⟨r, h1, h2⟩ := ih (k + 1) (by omega)
        rw [← wrk (by unfold maxI; omega)] at h1
        exact ⟨r, spec_placeIn_L0_le (bifT (decide_eq_true (by rw [intsC_len]; omega)) (atNum hlt (bifF e h1))), h2⟩
      · exact ⟨(k : Int), spec_placeIn_L0_le (bifT (decide_eq_true (by rw [intsC_len]; omega)) (atNum hlt (bifT e rfl))), .inr ⟨k, hlt, rfl⟩⟩
  obtain ⟨r, h1, h2⟩ := key xs.length 0 (by omega)
  exact ⟨r, spec_placeIn_le h1, h2⟩
set_option maxRecDepth 8000 in
theorem t_J15 {f : Nat} (hf : f < R.length) {c1 c2 : Int} {c3 l25 : List (List AC)} {p p0 : Nat} {C : Nat} {x : Option (AV × List AC)} (h : EG ns p C 900 x) (hp : p + C + 10000 ≤ 800000) {X : Option (AV × List AC)}
    (hX : ∀ o n l q r, x = some (.v (.agg [.int o, .int n, .sl 3 l]), q) → spec_bodyOf_J15 (decsC D) (pmsC R) c1 c2 l25 (intsC (gP R f).ps) (gP R f).r o n l q = some r → X = some r) : EG ns p (C + 6100) 900 X := by
  obtain ⟨s1, s2, s3⟩ := hR.small hf
  obtain ⟨o, n, l, p1, h1, h2, h3, h4⟩ := h
  have hn := s_nodesOf h3
  by_cases h0 : nodV [.int o, .int n, .sl 3 l] < 0
  · obtain ⟨o2, n2, l2, p2, g1, g2, g3, g4⟩ := t_fitting hns hD hR (V := (gP R f).ps) (by omega) (t := (gP R f).r) (by omega) (b := 12) (by omega) (p := p1) (by omega)
    have e1 : p2 ≤ p + (C + 6100) := Nat.le_trans g2 (Nat.le_trans (Nat.add_le_add_right h2 6100) (Nat.le_of_eq (Nat.add_assoc p C 6100)))
    exact ⟨o2, n2, l2, p2, hX o n l _ _ h1 (spec_bodyOf_J15_le (callI hn (bifT (decide_eq_true h0) (callTE g1 rfl)))), e1, g3, by clear hX h1 g1 hn hp; omega⟩
  · exact ⟨o, n, l, p1, hX o n l _ _ h1 (spec_bodyOf_J15_le (callI hn (bifF (decide_eq_false h0) rfl))), by omega, h3, h4⟩
set_option maxRecDepth 8000 in
set_option maxHeartbeats 1600000 in
theorem t_bodyOf {f : Nat} (hf : f < R.length) {p : Nat} (hp : p + 30000 ≤ 800000) : EG ns p 13000 900 (spec_bodyOf (Qr ns p) [pgC D R, .cell (.int (f : Int))]) := by
  obtain ⟨s1, s2, s3⟩ := hR.small hf
  obtain ⟨a, ha, ha2⟩ := s_placeM hns hD hR (gP R f).ps 1 (by omega)
  obtain ⟨x, hx, h1⟩ := t_pick hns (p := p) (by omega) (m := 4) (by omega)
  -- the last choice
  have J13 : ∀ (b : Bool) (e1 e2 : Int) (e3 : List (List AC)), (b = true → 0 < (gP R f).ps.length) → EG ns (p + 1) 12200 900 (spec_bodyOf_J13 (f : Int) (decsC D) (pmsC R) 0 0 [] (intsC (gP R f).ps) (gP R f).r e1 e2 e3 b (Qr ns (p + 1))) := fun b e1 e2 e3 hb => by
    cases b with
    | true => exact (t_J15 hns hD hR hf (c1 := 0) (c2 := 0) (c3 := []) (l25 := []) (p0 := 0) ((t_downFrom hns hD hR hf (hb rfl) (p := p + 1) (by omega)).le (C' := 6100) (M' := 900) (by omega) (by omega)) (by omega) fun o n l q r h hJ => spec_bodyOf_J13_le (bifT rfl (callTE h hJ))).le (by omega) (by omega)
    | false => exact (t_J15 hns hD hR hf (c1 := 0) (c2 := 0) (c3 := []) (l25 := []) (p0 := 0) ((t_fitting hns hD hR (V := (gP R f).ps) (by omega) (t := (gP R f).r) (by omega) (b := 18) (by omega) (p := p + 1) (by omega)).le (C' := 6100) (M' := 900) (by omega) (by omega)) (by omega) fun o n l q r h hJ => spec_bodyOf_J13_le (bifF rfl (callTE h hJ))).le (by omega) (by omega)
  have same : ∀ {X Y : Option (AV × List AC)}, EG ns (p + 1) 12200 900 Y → (∀ r, Y = some r → X = some r) → EG ns (p + 1) 12200 900 X := fun h hXY => by
    obtain ⟨o, n, l, p1, h1, h2, h3, h4⟩ := h
    exact ⟨o, n, l, p1, hXY _ h1, h2, h3, h4⟩
  have J11 : ∀ (b : Bool) (e1 e2 : Int) (e3 : List (List AC)), (b = true → 0 < (gP R f).ps.length) → EG ns (p + 1) 12200 900 (spec_bodyOf_J11 (f : Int) (decsC D) (pmsC R) 0 0 [] (intsC (gP R f).ps) (gP R f).r e1 e2 e3 (x : Int) b (Qr ns (p + 1))) := fun b e1 e2 e3 hb => by
    cases b with
    | true => exact (t_J15 hns hD hR hf (c1 := 0) (c2 := 0) (c3 := []) (l25 := []) (p0 := 0) ((t_overTree hns hD hR hf (hb rfl) (p := p + 1) (by omega)).le (C' := 6100) (M' := 900) (by omega) (by omega)) (by omega) fun o n l q r h hJ => spec_bodyOf_J11_le (bifT rfl (callTE h hJ))).le (by omega) (by omega)
    | false =>
      by_cases hx3 : x < 3
      · have hx3' : decide (((x : Nat) : Int) < 3) = true := decide_eq_true (by omega)
        by_cases hz : 0 < (gP R f).ps.length
        · have hz' : decide (((((intsC (gP R f).ps).length : Nat) : Int)) > 0) = true := decide_eq_true (by rw [intsC_len]; omega)
          by_cases h0 : (gP R f).ps[0] = 0
          · by_cases hr0 : (gP R f).r = 0
            · exact same (J13 true e1 e2 e3 (fun _ => hz)) fun r h => spec_bodyOf_J11_le (bifF rfl (bifT hx3' (bifT hz' (atNum (k := 0) hz (bifT (by rw [beq_iff_eq]; exact h0) (bifT (by rw [beq_iff_eq]; exact hr0) h))))))
            · exact same (J13 _ e1 e2 e3 (fun _ => hz)) fun r h => spec_bodyOf_J11_le (bifF rfl (bifT hx3' (bifT hz' (atNum (k := 0) hz (bifT (by rw [beq_iff_eq]; exact h0) (bifF (by rw [beq_eq_false_iff_ne]; exact hr0) h))))))
          · exact same (J13 false e1 e2 e3 (fun h => by cases h)) fun r h => spec_bodyOf_J11_le (bifF rfl (bifT hx3' (bifT hz' (atNum (k := 0) hz (bifF (by rw [beq_eq_false_iff_ne]; exact h0) h)))))
        · exact same (J13 false e1 e2 e3 (fun h => by cases h)) fun r h => spec_bodyOf_J11_le (bifF rfl (bifT hx3' (bifF (decide_eq_false (by rw [intsC_len]; omega)) h)))
      · exact same (J13 false e1 e2 e3 (fun h => by cases h)) fun r h => spec_bodyOf_J11_le (bifF rfl (bifF (decide_eq_false (by omega)) h))
  have J9 : ∀ (b : Bool) (e1 e2 : Int) (e3 : List (List AC)), (b = true → 0 ≤ a) → EG ns (p + 1) 12200 900 (spec_bodyOf_J9 (f : Int) (decsC D) (pmsC R) 0 0 [] (intsC (gP R f).ps) (gP R f).r a e1 e2 e3 (x : Int) b (Qr ns (p + 1))) := fun b e1 e2 e3 hb => by
    cases b with
    | true =>
      obtain ⟨k, hk, hak⟩ : ∃ k : Nat, k < (gP R f).ps.length ∧ a = (k : Int) := by
        rcases ha2 with h | h
        · have := hb rfl; omega
        · exact h
      subst hak
      exact (t_J15 hns hD hR hf (c1 := 0) (c2 := 0) (c3 := []) (l25 := []) (p0 := 0) ((t_overList hns hD hR hf hk (p := p + 1) (by omega)).le (C' := 6100) (M' := 900) (by omega) (by omega)) (by omega) fun o n l q r h hJ => spec_bodyOf_J9_le (bifT rfl (callTE h hJ))).le (by omega) (by omega)
    | false =>
      by_cases hx3 : x < 3
      · have hx3' : decide (((x : Nat) : Int) < 3) = true := decide_eq_true (by omega)
        by_cases hz : 0 < (gP R f).ps.length
        · have hz' : decide (((((intsC (gP R f).ps).length : Nat) : Int)) > 0) = true := decide_eq_true (by rw [intsC_len]; omega)
          by_cases h0 : (gP R f).ps[0] = 3
          · by_cases hr0 : (gP R f).r = 0
            · exact same (J11 true e1 e2 e3 (fun _ => hz)) fun r h => spec_bodyOf_J9_le (bifF rfl (bifT hx3' (bifT hz' (atNum (k := 0) hz (bifT (by rw [beq_iff_eq]; exact h0) (bifT (by rw [beq_iff_eq]; exact hr0) h))))))
            · exact same (J11 _ e1 e2 e3 (fun _ => hz)) fun r h => spec_bodyOf_J9_le (bifF rfl (bifT hx3' (bifT hz' (atNum (k := 0) hz (bifT (by rw [beq_iff_eq]; exact h0) (bifF (by rw [beq_eq_false_iff_ne]; exact hr0) h))))))
          · exact same (J11 false e1 e2 e3 (fun h => by cases h)) fun r h => spec_bodyOf_J9_le (bifF rfl (bifT hx3' (bifT hz' (atNum (k := 0) hz (bifF (by rw [beq_eq_false_iff_ne]; exact h0) h)))))
        · exact same (J11 false e1 e2 e3 (fun h => by cases h)) fun r h => spec_bodyOf_J9_le (bifF rfl (bifT hx3' (bifF (decide_eq_false (by rw [intsC_len]; omega)) h)))
      · exact same (J11 false e1 e2 e3 (fun h => by cases h)) fun r h => spec_bodyOf_J9_le (bifF rfl (bifF (decide_eq_false (by omega)) h))
  have J7 : ∀ (b : Bool) (e1 e2 : Int) (e3 : List (List AC)), EG ns (p + 1) 12200 900 (spec_bodyOf_J7 (f : Int) (decsC D) (pmsC R) 0 0 [] (intsC (gP R f).ps) (gP R f).r a e1 e2 e3 (x : Int) b (Qr ns (p + 1))) := fun b e1 e2 e3 => by
    cases b with
    | true => exact (t_J15 hns hD hR hf (c1 := 0) (c2 := 0) (c3 := []) (l25 := []) (p0 := 0) ((t_mainBody hns hD hR (p := p + 1) (by omega)).le (C' := 6100) (M' := 900) (by omega) (by omega)) (by omega) fun o n l q r h hJ => spec_bodyOf_J7_le (bifT rfl (callTE h hJ))).le (by omega) (by omega)
    | false =>
      by_cases hx3 : x < 3
      · have hx3' : decide (((x : Nat) : Int) < 3) = true := decide_eq_true (by omega)
        by_cases ha0 : 0 ≤ a
        · by_cases hr0 : (gP R f).r = 0
          · exact same (J9 true e1 e2 e3 (fun _ => ha0)) fun r h => spec_bodyOf_J7_le (bifF rfl (bifT hx3' (bifT (decide_eq_true ha0) (bifT (by rw [beq_iff_eq]; exact hr0) h))))
          · exact same (J9 _ e1 e2 e3 (fun _ => ha0)) fun r h => spec_bodyOf_J7_le (bifF rfl (bifT hx3' (bifT (decide_eq_true ha0) (bifF (by rw [beq_eq_false_iff_ne]; exact hr0) h))))
        · exact same (J9 false e1 e2 e3 (fun h => by cases h)) fun r h => spec_bodyOf_J7_le (bifF rfl (bifT hx3' (bifF (decide_eq_false ha0) h)))
      · exact same (J9 false e1 e2 e3 (fun h => by cases h)) fun r h => spec_bodyOf_J7_le (bifF rfl (bifF (decide_eq_false (by omega)) h))
  have fin : ∀ {X Y : Option (AV × List AC)}, EG ns (p + 1) 12200 900 Y → (∀ r, Y = some r → X = some r) → EG ns p 13000 900 X := fun h hXY => by
    obtain ⟨o, n, l, p1, h1, h2, h3, h4⟩ := h
    exact ⟨o, n, l, p1, hXY _ h1, by omega, h3, h4⟩
  by_cases hx3 : x < 3
  · exact fin (J7 ((f : Int) == 0) 0 0 []) fun r h => spec_bodyOf_le (atPmI rfl hf (atPmI rfl hf (callI ha (callExpr (s_integer _) (callTI h1 (bifT (decide_eq_true (by omega)) h))))))
  · exact fin (J7 false 0 0 []) fun r h => spec_bodyOf_le (atPmI rfl hf (atPmI rfl hf (callI ha (callExpr (s_integer _) (callTI h1 (bifF (decide_eq_false (by omega)) h))))))
end
end Go.Proofs.Ytbodfaghedolbaa
namespace Go.Proofs.Ytbodfaghedolbaa
open Go
theorem s_copyExprs : ∀ N : Nat, N ≤ 100000 → ∀ l : List (List AC), KidsOk l → l.length + rsS l ≤ N → spec_copyExprs [.cell (.sl 3 l)] = some (.v (.cell (.sl 3 l))) := by
  intro N
  induction N using Nat.strongRecOn with
  | _ N ihN =>
    intro hN l hl hs
    have key : ∀ m k : Nat, k + m = l.length → spec_copyExprs_L0 l (l.take k) (k : Int) = some (.v (.cell (.sl 3 l))) := by
      intro m
      induction m with
      | zero =>
        intro k hk
        refine spec_copyExprs_L0_le (bifF (decide_eq_false (by omega)) ?_)
        rw [List.take_of_length_le (by omega)]
      | succ m ih =>
        intro k hk
        have hlt : k < l.length := by omega
        have hmem : l[k] ∈ l := List.getElem_mem hlt
        have hf := hl _ hmem
        have hle := rsS_mem hmem
        have hn := ih (k + 1) (by omega)
        rw [List.take_succ_eq_append_getElem hlt] at hn
        have hg : l.getD k [] = l[k] := by simp [List.getD, hlt]
        generalize hr : l[k] = row at *
        cases hf with
        | expr o n kids ho hno hkl hk2 =>
          have hc : kids.length + rsS kids < l.length + rsS l := by
            have : cS [AC.int o, .int n, .sl 3 kids] = kids.length + rsS kids := by simp [cS, rsS, acS, acS.cS, acS.rsS]
            omega
          refine spec_copyExprs_L0_le (bifT (decide_eq_true (by omega)) (atExpr hlt (by rw [hg]) (callExpr (spec_copyExpr_le (callS (ihN (kids.length + rsS kids) (by omega) (by omega) kids hk2 (Nat.le_refl _)) rfl)) (appTo (by simp; omega) ?_))))
          rw [wrk (by unfold maxI; omega)]
          exact hn
    exact spec_copyExprs_le (key l.length 0 (by omega))
end Go.Proofs.Ytbodfaghedolbaa
namespace Go.Proofs.Ytbodfaghedolbaa
open Go Go.RowKit
abbrev Rg := Nat × Array Oper × Bool
def rgOf (id : Nat) : Code → Option Rg
  | .region i ops d => bif Nat.beq i id then some (i, ops, d) else none
  | .seq a b => match rgOf id a with
    | some r => some r
    | none => rgOf id b
  | .cond _ a b => match rgOf id a with
    | some r => some r
    | none => rgOf id b
  | .block _ b => rgOf id b
  | .loop b => rgOf id b
  | _ => none
def joinC : List Rg → Code → Code
  | [], c => c
  | r :: rs, c => .seq (.region r.1 r.2.1 r.2.2) (joinC rs c)
section
variable {P : Program} {L : Lay} {S : Sig} {T : Nat → Bool} {call : Orc} {ct : TOrc} {Own : Nat → Prop} {bb : Nat}
theorem pre_ok (hP : P.follows .mixedOrders = true) (hL : LayOk P L) (hC : CallOk P S call) (hT : CallOkT P S T ct) : ∀ (rs : List Rg) (n : Nat) (σ : List AV × List AC) (e : Xt) (σ' : List AV × List AC) (st : Stt) (O : Out),
    vcodeT L T call ct n (joinC rs .skip) σ = some (e, σ') → tcode (drawnT T) L S (joinC rs .skip) st = some O →
    ∀ (p : Stb) (w : World) (a : Act), InvC st p w a.tmps σ Own bb → a.defers = [] → ∀ (Q : Exit → Act → World → Prop) (y : Code),
    (∀ st' a' w' p', e = .norm → O.norm = some st' → InvC st' p' w' a'.tmps σ' Own bb → EvoC Own bb p w p' w' → a'.defers = [] → y.wp P Q a' w') → (joinC rs y).wp P Q a w
  | [], n, σ, e, σ', st, O, hv, ht, p, w, a, hI, hd, Q, y, h => by
    cases n with
    | zero => cases hv
    | succ n =>
      simp only [joinC, vcodeT, Option.some.injEq, Prod.mk.injEq] at hv
      obtain ⟨rfl, rfl⟩ := hv
      cases ht
      exact h st a w p rfl rfl hI (EvoC.refl _ _ _ _) hd
  | r :: rs, n, σ, e, σ', st, O, hv, ht, p, w, a, hI, hd, Q, y, h => by
    cases n with
    | zero => cases hv
    | succ n =>
      simp only [joinC, vcodeT, Option.bind_eq_some_iff] at hv
      obtain ⟨⟨e1, σ1⟩, h1, h2⟩ := hv
      simp only [joinC, tcode, Option.bind_eq_some_iff] at ht
      obtain ⟨A, hA, ht⟩ := ht
      have he1 : e1 = .norm := by
        cases n with
        | zero => cases h1
        | succ n =>
          simp only [vcodeT, Option.map_eq_some_iff, Prod.mk.injEq] at h1
          obtain ⟨_, _, e, _⟩ := h1
          exact e.symm
      subst he1
      simp only at h2
      refine wp_seq (code_okT hP hL hC hT n (.region r.1 r.2.1 r.2.2) σ .norm σ1 st A h1 (by simpa only [tcode] using hA) p w a hI hd _ fun st1 a1 w1 p1 ha1 hI1 hev1 hd1 => ?_)
      have ha1' : A.norm = some st1 := ha1
      rw [ha1'] at ht
      simp only [Option.bind_eq_some_iff] at ht
      obtain ⟨B, hB, hj⟩ := ht
      refine pre_ok hP hL hC hT rs n σ1 e σ' st1 B h2 hB p1 w1 a1 hI1 hd1 Q y fun st2 a2 w2 p2 he ha2 hI2 hev2 hd2 => ?_
      subst he
      obtain ⟨st', h3, h4⟩ := (joinOut_ok hj .norm).2 st2 ha2
      refine h st' a2 w2 p2 rfl h3 ?_ (EvoC.trans hev1 hev2) hd2
      rcases h4 with rfl | h4
      · exact hI2
      · exact Le.c h4 hI2
end
theorem piece_ok {Y : CtxT} {S : Sig} {Own : Nat → Prop} {bb : Nat} (hP : Y.X.P.follows .mixedOrders = true) (hL : LayOk Y.X.P Y.X.L) (hC : CallOk Y.X.P S (V Y.X.P Y.X.L Y.X.F Y.X.E)) (hA : TabT Y.X.P Y.X.L S Y.T Y.E) {rs : List Rg} {n : Nat} {o : Ov} {q : List AC} {r : AV × List AC}
    (he : evT Y n (.run (joinC rs .skip)) [] o q = some r) {σ : List AV} (hl : σ.length = Y.X.fn.ntmps) (hag : AgO o σ) {st : Stt} {O : Out} (ht : tcode (drawnT Y.T) Y.X.L S (joinC rs .skip) st = some O)
    {p : Stb} {w : World} {a : Act} (hI : InvC st p w a.tmps (σ, q) Own bb) (hd : a.defers = []) (Q : Exit → Act → World → Prop) (y : Code)
    (h : ∀ st' a' w' p' σ' q', O.norm = some st' → outT Y.X.L Y.X.fn (.norm, (σ', q')) = some r → InvC st' p' w' a'.tmps (σ', q') Own bb → EvoC Own bb p w p' w' → a'.defers = [] → y.wp Y.X.P Q a' w') : (joinC rs y).wp Y.X.P Q a w := by
  have h1 := evT_ok n _ _ _ _ _ he σ hl hag
  simp only [Option.bind_eq_some_iff] at h1
  obtain ⟨⟨e, σ', q'⟩, h1, h2⟩ := h1
  unfold CtxT.vc at h1
  obtain ⟨m, h1⟩ := TVC_iff.1 h1
  refine pre_ok hP hL hC (tfun_ok hP hL hC hA m) rs m (σ, q) e (σ', q') st O h1 ht p w a hI hd Q y fun st' a' w' p' he hn hI' hev hd' => ?_
  subst he
  exact h st' a' w' p' σ' q' hn h2 hI' hev hd'
end Go.Proofs.Ytbodfaghedolbaa
namespace Go.Proofs.Ytbodfaghedolbaa
open Go Go.RowKit
def bareV : Value → AV
  | .bool x => .v (.cell (.bool x))
  | _ => .und
def knownL (m : Array Value) (n : Nat) (o : List (Nat × AV)) : List AV := (List.range n).map fun t => match o.lookup t with
  | some x => x
  | none => bareV (m.getD t undef)
theorem knownL_len (m : Array Value) (n : Nat) (o : List (Nat × AV)) : (knownL m n o).length = n := by simp [knownL]
theorem knownL_get (m : Array Value) (n : Nat) (o : List (Nat × AV)) (t : Nat) : VS.get { σ := knownL m n o, pe := [] } t = if t < n then (match o.lookup t with
  | some x => x
  | none => bareV (m.getD t undef)) else .und := by
  unfold VS.get knownL
  by_cases h : t < n
  · rw [if_pos h]
    simp [List.getD, h]
  · rw [if_neg h]
    simp [List.getD, h]
theorem bare_row (v : Value) : isRow (bareV v) = false := by cases v <;> rfl
theorem bare_box (v : Value) (cs : List AC) : bareV v ≠ .box cs := by cases v <;> simp [bareV]
def stM (n : Nat) : Stt := ⟨[], [], [], n, [], []⟩
structure Known (p : Stb) (w : World) (m : Array Value) (n : Nat) (o : List (Nat × AV)) (Own : Nat → Prop) : Prop where
  lt : ∀ t x, o.lookup t = some x → t < n ∧ SR p w (m.getD t undef) x
  kind : ∀ t x, o.lookup t = some x → (∃ v, x = .v v) ∨ ∃ cs c, x = .box cs ∧ m.getD t undef = .pointer (some ⟨c, 0, none⟩) ∧ p c = 0 ∧ Own c
  apart : ∀ t t' cs cs' c, t ≠ t' → o.lookup t = some (.box cs) → o.lookup t' = some (.box cs') → m.getD t undef = .pointer (some ⟨c, 0, none⟩) → m.getD t' undef ≠ .pointer (some ⟨c, 0, none⟩)
theorem inv_known {p : Stb} {w : World} {m : Array Value} {n : Nat} {o : List (Nat × AV)} {Own : Nat → Prop} {b : Nat} {q : List AC} (hs : m.size = n) (hk : Known p w m n o Own) (hz : Zp p w) (hown : ∀ c, w.heap.size ≤ c → Own c) (h0 : m.getD 0 undef = ptrB b) (hT : TK p w Own b q) :
    InvC (stM n) p w m (knownL m n o, q) Own b := by
  have hrow : ∀ t, isRow (VS.get { σ := knownL m n o, pe := [] } t) = false := fun t => by
    rw [knownL_get]
    split
    · split
      · rename_i x hx
        rcases hk.kind t x hx with ⟨v, rfl⟩ | ⟨cs, c, rfl, _⟩ <;> rfl
      · exact bare_row _
    · rfl
  have hbox : ∀ t cs, VS.get { σ := knownL m n o, pe := [] } t = .box cs → o.lookup t = some (.box cs) := fun t cs h => by
    rw [knownL_get] at h
    split at h
    · split at h
      · rename_i x hx
        rw [hx, h]
      · exact absurd h (bare_box _ _)
    · cases h
  refine ⟨⟨by rw [knownL_len]; exact hs, (knownL_len _ _ _).symm, fun t ht => (by cases ht), trivial, fun t => ⟨?_, fun q hq => (by cases hq)⟩, hz, trivial, ⟨fun _ _ => rfl, fun _ _ _ h => (by cases h)⟩, hown, fun d cs h => ?_, fun d d' cs cs' c hd h1 h2 h3 => hk.apart d d' cs cs' c hd (hbox _ _ h1) (hbox _ _ h2) h3,
    fun d k r c h => (by have := hrow d; rw [h] at this; cases this), fun t d k r h => (by have := hrow t; rw [h] at this; cases this), ⟨fun t d h => (by have := hrow t; rw [h] at this; cases this), fun d k r h => (by have := hrow d; rw [h] at this; cases this)⟩, fun _ => undef,
    ⟨fun q id h => (by cases h), fun id k h => (by cases h), fun id k b h => (by cases h), fun id k id' k' b h => (by cases h), fun q id k d k' r b h => (by cases h)⟩⟩, h0, hT⟩
  · rw [knownL_get]
    split
    · split
      · rename_i x hx
        exact (hk.lt t x hx).2
      · cases e : m.getD t undef with
        | bool x => exact .bool x
        | _ => intro c hc; cases hc
    · rename_i hlt
      rw [Array.getD_eq_getD_getElem?, Array.getElem?_eq_none (by omega)]
      intro c hc
      cases hc
  · have hl := hbox d cs h
    rcases hk.kind d _ hl with ⟨v, e⟩ | ⟨cs', c, e, h1, h2, h3⟩
    · cases e
    · have hsr := (hk.lt d _ hl).2
      obtain ⟨c', a, T, e1, e2, _⟩ := hsr
      rw [h1] at e1
      cases e1
      exact ⟨c, h1, h2, h3, (Array.getElem?_eq_some_iff.1 e2).1⟩
theorem known_ag {m : Array Value} {n : Nat} {o : List (Nat × AV)} {b : Nat} (h0 : m.getD 0 undef = ptrB b) (hn : 0 < n) (hl : ∀ t x, o.lookup t = some x → t < n) (hz : o.lookup 0 = none) : AgO ((0, .und) :: o) (knownL m n o) := by
  intro i y hy
  have hg := knownL_get m n o i
  unfold VS.get at hg
  simp only at hg
  rw [hg]
  rw [at_cons] at hy
  split at hy
  · rename_i e
    subst e
    cases hy
    rw [if_pos hn, hz]
    simp only [h0]
    rfl
  · have hy' : o.lookup i = some y := by
      clear hg hl hz
      induction o with
      | nil => cases hy
      | cons e o ih =>
        rw [List.lookup_cons]
        obtain ⟨j, z⟩ := e
        rw [at_cons] at hy
        split at hy
        · rename_i e
          subst e
          cases hy
          simp
        · rename_i e
          rw [show (i == j) = false by simpa using fun h : i = j => e h.symm]
          exact ih hy
    rw [if_pos (hl i y hy'), hy']
theorem out_tup {L : Lay} {fn : Func} {σ : List AV} {q q' : List AC} {vs : List SV} (h : outT L fn (.norm, (σ, q)) = some (.tup vs, q')) : q = q' ∧ resVs L σ fn.results.toList = some vs := by
  unfold outT at h
  simp only [Option.map_eq_some_iff, Prod.mk.injEq] at h
  obtain ⟨ws, h1, h2, h3⟩ := h
  refine ⟨h3, ?_⟩
  split at h2
  · cases h2
  · cases h2
    exact h1
theorem resVs_get {L : Lay} {σ : List AV} : ∀ {rs : List ResultVar} {vs : List SV}, resVs L σ rs = some vs → ∀ (i : Nat) (r : ResultVar) (v : SV), rs[i]? = some r → vs[i]? = some v → resVal1 L σ r = some v
  | [], vs, h, i, r, v, hr, _ => by simp at hr
  | r0 :: rs, vs, h, i, r, v, hr, hv => by
    simp only [resVs, Option.bind_eq_some_iff, Option.map_eq_some_iff] at h
    obtain ⟨v0, h0, vs', h1, rfl⟩ := h
    cases i with
    | zero =>
      simp only [List.getElem?_cons_zero, Option.some.injEq] at hr hv
      subst hr; subst hv
      exact h0
    | succ i =>
      simp only [List.getElem?_cons_succ] at hr hv
      exact resVs_get h1 i r v hr hv
theorem res_box {L : Lay} {σ : List AV} {t ty : Nat} {cs : List AC} (h : resVal1 L σ (.cell t ty) = some (.agg cs)) : σ.getD t .und = .box cs := by
  simp only [resVal1] at h
  generalize σ.getD t .und = z at h
  cases z with
  | box cs' =>
    simp only [Option.bind_eq_some_iff] at h
    obtain ⟨i, _, h⟩ := h
    split at h
    · unfold mkV at h
      split at h
      · cases h; rfl
      · split at h <;> cases h
    · cases h
  | _ => cases h
theorem res_int {L : Lay} {σ : List AV} {t : Nat} {k : Int} (h : resVal1 L σ (.tmp t) = some (.cell (.int k))) : σ.getD t .und = .v (.cell (.int k)) := by
  simp only [resVal1] at h
  cases hz : σ.getD t .und with
  | v x => rw [hz] at h; cases h; rfl
  | _ =>
    rw [hz] at h
    simp only [Option.map_eq_some_iff] at h
    obtain ⟨_, _, h⟩ := h
    cases h
theorem InvC.box {st : Stt} {p : Stb} {w : World} {m : Array Value} {σ : List AV} {q : List AC} {Own : Nat → Prop} {b : Nat} (h : InvC st p w m (σ, q) Own b) {d : Nat} {cs : List AC} (hd : σ.getD d .und = .box cs) :
    ∃ c a T, m.getD d undef = .pointer (some ⟨c, 0, none⟩) ∧ w.heap[c]? = some (.cells a T (0, 0)) ∧ RepL p w a.toList cs ∧ p c = 0 ∧ Own c ∧ c < w.heap.size ∧ c ≠ b := by
  obtain ⟨c, e, h1, h2, h3⟩ := h.1.box d cs hd
  have hs := (h.1.slots d).1
  rw [show VS.get { σ := σ, pe := [] } d = .box cs from hd] at hs
  obtain ⟨c', a, T, e1, e2, e3⟩ := hs
  rw [e] at e1
  cases e1
  exact ⟨c, a, T, e, e2, e3, h1, h2, h3, fun hcb => h.2.2.not (hcb ▸ h2)⟩
theorem InvC.int {st : Stt} {p : Stb} {w : World} {m : Array Value} {σ : List AV} {q : List AC} {Own : Nat → Prop} {b : Nat} (h : InvC st p w m (σ, q) Own b) {d : Nat} {k : Int} (hd : σ.getD d .und = .v (.cell (.int k))) : m.getD d undef = .int .i64 k := by
  have hs := (h.1.slots d).1
  rw [show VS.get { σ := σ, pe := [] } d = .v (.cell (.int k)) from hd] at hs
  have hs' : Rep p w (m.getD d undef) (.int k) := hs
  generalize m.getD d undef = v at hs'
  cases hs'
  rfl
theorem InvC.bool {st : Stt} {p : Stb} {w : World} {m : Array Value} {σ : List AV} {q : List AC} {Own : Nat → Prop} {b : Nat} (h : InvC st p w m (σ, q) Own b) {d : Nat} {k : Bool} (hd : σ.getD d .und = .v (.cell (.bool k))) : m.getD d undef = .bool k := by
  have hs := (h.1.slots d).1
  rw [show VS.get { σ := σ, pe := [] } d = .v (.cell (.bool k)) from hd] at hs
  have hs' : Rep p w (m.getD d undef) (.bool k) := hs
  generalize m.getD d undef = v at hs'
  cases hs'
  rfl
end Go.Proofs.Ytbodfaghedolbaa
