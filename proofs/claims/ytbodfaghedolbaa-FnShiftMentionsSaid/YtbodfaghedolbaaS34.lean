/- Generic texts and models for the proofs of this seat: part 34. -/
import Derived.Test.YtbodfaghedolbaaS33
set_option linter.unusedVariables false
set_option linter.unusedSimpArgs false
set_option linter.unusedSectionVars false
namespace Go.Proofs.Ytbodfaghedolbaa
open Go
theorem fit2 {o1 n1 o2 n2 : Int} {l1 l2 : List (List AC)} (h1 : Fit .expr [.int o1, .int n1, .sl 3 l1]) (h2 : Fit .expr [.int o2, .int n2, .sl 3 l2]) : KidsOk [[.int o1, .int n1, .sl 3 l1], [.int o2, .int n2, .sl 3 l2]] := fun x hx => by
  simp only [List.mem_cons, List.not_mem_nil, or_false] at hx
  rcases hx with rfl | rfl
  · exact h1
  · exact h2
theorem fit3 {o1 n1 o2 n2 o3 n3 : Int} {l1 l2 l3 : List (List AC)} (h1 : Fit .expr [.int o1, .int n1, .sl 3 l1]) (h2 : Fit .expr [.int o2, .int n2, .sl 3 l2]) (h3 : Fit .expr [.int o3, .int n3, .sl 3 l3]) : KidsOk [[.int o1, .int n1, .sl 3 l1], [.int o2, .int n2, .sl 3 l2], [.int o3, .int n3, .sl 3 l3]] := fun x hx => by
  simp only [List.mem_cons, List.not_mem_nil, or_false] at hx
  rcases hx with rfl | rfl | rfl
  · exact h1
  · exact h2
  · exact h3
theorem rs2 (o1 n1 o2 n2 : Int) (l1 l2 : List (List AC)) : rsS [[AC.int o1, .int n1, .sl 3 l1], [AC.int o2, .int n2, .sl 3 l2]] = (l1.length + rsS l1) + (l2.length + rsS l2) := by
  rw [rsS_cons, rsS_cons, rsS_nil, cS_ex, cS_ex]; omega
theorem rs3 (o1 n1 o2 n2 o3 n3 : Int) (l1 l2 l3 : List (List AC)) : rsS [[AC.int o1, .int n1, .sl 3 l1], [AC.int o2, .int n2, .sl 3 l2], [AC.int o3, .int n3, .sl 3 l3]] = (l1.length + rsS l1) + (l2.length + rsS l2) + (l3.length + rsS l3) := by
  rw [rsS_cons, rsS_cons, rsS_cons, rsS_nil, cS_ex, cS_ex, cS_ex]; omega
theorem fit_var {n : Int} (h : -1000 ≤ n ∧ n ≤ 1000) : Fit .expr [.int 12, .int n, .sl 3 []] := fit_node (by omega) (by omega) (by simp) (fun b hb => by cases hb)
theorem fit_int {n : Int} (h : -1000 ≤ n ∧ n ≤ 1000) : Fit .expr [.int 0, .int n, .sl 3 []] := fit_node (by omega) (by omega) (by simp) (fun b hb => by cases hb)
section
variable {ns : List Nat} (hns : ns.length ≤ 2000) {D : List DM} (hD : D ∈ goodL) {R : List PM} (hR : GR R)
include hns hD hR
theorem t_fitting_L0 {V : List Int} {t : Int} (ht : 0 ≤ t ∧ t ≤ 4) {M : Nat} {c1 c2 : Int} {c3 : List (List AC)} : ∀ b : Nat, b ≤ 1000 → V.length + 3 * b ≤ 1000000 → 40 * b + 4 ≤ M → ∀ (o n : Int) (l : List (List AC)), Fit .expr [.int o, .int n, .sl 3 l] → 1 + l.length + rsS l ≤ M → ∀ p : Nat, p + 200 * b + 200 ≤ 800000 →
    EG ns p (200 * b + 16) M (spec_fitting_L0 (intsC V) t (b : Int) (decsC D) (pmsC R) c1 c2 c3 o n l (Qr ns p)) := by
  intro b
  induction b using Nat.strongRecOn with
  | ind b ih =>
  intro hb hV hM o n l hf hs p hp
  have hn := s_nodesOf hf
  by_cases h0 : nodV [.int o, .int n, .sl 3 l] < 0
  · by_cases h2 : 2 < b
    · have hc := (cC_le (b / 2)).1
      have hm := (cM_le (b / 2)).1
      obtain ⟨o2, n2, l2, p2, g1, g2, g3, g4⟩ := t_gen hns hD hR (b / 2) (by omega) V t p (by omega) ht (by omega)
      exact EG.same (ih (b / 2) (by omega) (by omega) (by omega) (by omega) o2 n2 l2 g3 (by omega) p2 (by omega)) (by omega) (by omega) fun o n kids q h => spec_fitting_L0_le (callI hn (bifT (decide_eq_true h0) (bifT (decide_eq_true (by omega)) (quoTo (n := b / 2) (by omega) (by omega) (by omega) rfl (callTE g1 h)))))
    · exact ⟨o, n, l, p, spec_fitting_L0_le (callI hn (bifT (decide_eq_true h0) (bifF (decide_eq_false (by omega)) rfl))), by omega, hf, hs⟩
  · exact ⟨o, n, l, p, spec_fitting_L0_le (callI hn (bifF (decide_eq_false h0) rfl)), by omega, hf, hs⟩
theorem t_fitting {V : List Int} (hV : V.length ≤ 1000) {t : Int} (ht : 0 ≤ t ∧ t ≤ 4) {b : Nat} (hb : b ≤ 20) {p : Nat} (hp : p + 10000 ≤ 800000) : EG ns p 6100 804 (spec_fitting (Qr ns p) [pgC D R, .cell (.sl 1 (intsC V)), .cell (.int t), .cell (.int (b : Int))]) := by
  have hc := (cC_le b).1
  have hm := (cM_le b).1
  obtain ⟨o2, n2, l2, p2, g1, g2, g3, g4⟩ := t_gen hns hD hR b (by omega) V t p (by omega) ht (by omega)
  exact EG.same (t_fitting_L0 hns hD hR (V := V) ht (M := 804) (c1 := 0) (c2 := 0) (c3 := []) b (by omega) (by omega) (by omega) o2 n2 l2 g3 (by omega) p2 (by omega)) (by omega) (by omega) fun o n kids q h => spec_fitting_le (callTE g1 h)
theorem t_literal_L0 {c1 c2 : Int} {c3 : List (List AC)} : ∀ m : Nat, m ≤ 10 → ∀ (o n : Int) (l : List (List AC)), Fit .expr [.int o, .int n, .sl 3 l] → ∀ p : Nat, p + 4 * m + 10 ≤ 800000 → EG ns p (4 * m) (1 + l.length + rsS l + 2 * m) (spec_literal_L0 c1 c2 c3 o n l (m : Int) (Qr ns p)) := by
  intro m
  induction m with
  | zero => intro _ o n l hf p hp; exact ⟨o, n, l, p, spec_literal_L0_le (bifF rfl rfl), by omega, hf, by omega⟩
  | succ m ih =>
    intro hm o n l hf p hp
    obtain ⟨x, hx, h1⟩ := t_someInt hns (p := p) (by omega)
    have hr := rs2 0 x o n [] l
    have hnil := rsS_nil
    have hnx := ih (by omega) 6 1 [[.int 0, .int x, .sl 3 []], [.int o, .int n, .sl 3 l]] (fit_node (by omega) (by omega) (by simp) (fit2 (fit_int hx) hf)) (p + 4) (by omega)
    rw [show ((m : Nat) : Int) = wrapI (((m + 1 : Nat) : Int) - 1) by rw [wr (by omega) (by omega)]; omega] at hnx
    refine EG.same hnx (by omega) (by rw [hr]; simp; omega) fun o n kids q h => spec_literal_L0_le (bifT (decide_eq_true (by omega)) (callTI h1 (callExpr (s_integer _) (callExpr (s_node _ _ _) h))))
theorem t_literal {t : Int} {p : Nat} (hp : p + 100 ≤ 800000) : EG ns p 40 40 (spec_literal (Qr ns p) [.cell (.int t)]) := by
  have hnil := rsS_nil
  by_cases ht : t = 3
  · obtain ⟨x, hx, h1⟩ := t_pick hns (p := p) (by omega) (m := 9) (by omega)
    obtain ⟨y, hy, h2⟩ := t_pick hns (p := p + 1) (by omega) (m := 9) (by omega)
    have hleaf : Fit .expr [.int 6, .int 2, .sl 3 []] := fit_node (by omega) (by omega) (by simp) (fun b hb => by cases hb)
    have h3 : Fit .expr [.int 6, .int 3, .sl 3 [[.int 6, .int 2, .sl 3 []], [.int 0, .int (x : Int), .sl 3 []], [.int 6, .int 2, .sl 3 []]]] := fit_node (by omega) (by omega) (by simp) (fit3 hleaf (fit_int (by omega)) hleaf)
    refine ⟨6, 3, _, p + 1 + 1, spec_literal_le (callExpr (s_node _ _ _) (bifT (by rw [beq_iff_eq]; exact ht) (callExpr (s_node _ _ _) (callTI h1 (callExpr (s_integer _) (callExpr (s_node _ _ _) (callTI h2 (callExpr (s_integer _) (callExpr (s_node _ _ _) rfl))))))))), by omega, fit_node (by omega) (by omega) (by simp) (fit3 h3 (fit_int (by omega)) hleaf), ?_⟩
    rw [rs3, rs3]
    simp
    omega
  · obtain ⟨x, hx, h1⟩ := t_pick hns (p := p) (by omega) (m := 3) (by omega)
    have h := t_literal_L0 hns hD hR (c1 := 0) (c2 := 0) (c3 := []) (1 + x) (by omega) 6 0 [] (fit_node (by omega) (by omega) (by simp) (fun b hb => by cases hb)) (p + 1) (by omega)
    rw [show (((1 + x : Nat)) : Int) = wrapI (1 + (x : Int)) by rw [wr (by omega) (by omega)]; omega] at h
    exact EG.same h (by omega) (by simp; omega) fun o n kids q h => spec_literal_le (callExpr (s_node _ _ _) (bifF (by rw [beq_eq_false_iff_ne]; exact ht) (callTI h1 h)))
theorem t_mainBody {p : Nat} (hp : p + 10000 ≤ 800000) : EG ns p 2000 900 (spec_mainBody (Qr ns p) [pgC D R]) := by
  obtain ⟨t, ht, h1⟩ := t_one hns (p := p) (by omega) (xs := [1, 1, 3]) (by simp) (by simp)
  have hc := (cC_le 16).1
  have hm := (cM_le 16).1
  obtain ⟨o, n, l, p1, g1, g2, g3, g4⟩ := t_gen hns hD hR 16 (by omega) [t] 0 (p + 1) (by simp) (by omega) (by omega)
  obtain ⟨x, hx, h2⟩ := t_pick hns (p := p1) (by omega) (m := 3) (by omega)
  obtain ⟨o2, n2, l2, p2, k1, k2, k3, k4⟩ := t_literal hns hD hR (t := t) (p := p1 + 1) (by omega)
  have hnil := rsS_nil
  by_cases hx0 : x = 0
  · subst hx0
    refine ⟨13, 0, _, p2, spec_mainBody_le (callTI h1 (callTE g1 (callTI h2 (bifT rfl (callExpr (s_node _ _ _) (callTE k1 (callExpr (s_node _ _ _) rfl))))))), by omega, fit_node (by omega) (by omega) (by simp) (fit2 k3 (fit_node (by omega) (by omega) (by simp) (fun b hb => by simp only [List.mem_singleton] at hb; rw [hb]; exact g3))), ?_⟩
    rw [rs2, rsS_cons, rsS_nil, cS_ex]
    simp
    omega
  · refine ⟨13, 0, _, p2, spec_mainBody_le (callTI h1 (callTE g1 (callTI h2 (bifF (by rw [beq_eq_false_iff_ne]; omega) (callTE k1 (callExpr (s_node _ _ _) rfl)))))), by omega, fit_node (by omega) (by omega) (by simp) (fit2 k3 g3), ?_⟩
    rw [rs2]
    simp
    omega
set_option maxRecDepth 8000 in
theorem t_downFrom_L0 {f : Nat} (hf : f < R.length) {c1 c2 : Int} {c3 : List (List AC)} : ∀ m k : Nat, k + m = (gP R f).ps.length → ∀ (acc : List (List AC)) (p : Nat), KidsOk acc → acc.length ≤ k + 1 → acc.length + rsS acc ≤ 4 * k + 10 → p + 16 * m + 2000 ≤ 800000 →
    EG ns p (16 * m + 800) 400 (spec_downFrom_L0 (f : Int) (decsC D) (pmsC R) c1 c2 c3 (intsC (gP R f).ps) acc (k : Int) (Qr ns p)) := by
  obtain ⟨s1, s2, s3⟩ := hR.small hf
  have h4 := hR.len
  have hnil := rsS_nil
  intro m
  induction m with
  | zero =>
    intro k hk acc p ha hl hs hp
    have hend : decide ((k : Int) < (((intsC (gP R f).ps).length : Nat) : Int)) = false := decide_eq_false (by rw [intsC_len]; omega)
    have hA : Fit .expr [.int 9, .int (f : Int), .sl 3 acc] := fit_node (by omega) (by omega) (by omega) ha
    have hcmp : Fit .expr [.int 4, .int 0, .sl 3 [[.int 0, .int 0, .sl 3 []], [.int 12, .int 0, .sl 3 []]]] := fit_node (by omega) (by omega) (by simp) (fit2 (fit_int (by omega)) (fit_var (by omega)))
    have hc3 := (cC_le 3).2.1 (by omega)
    have hm3 := (cM_le 3).2.1 (by omega)
    have hc4 := (cC_le 4).2.1 (by omega)
    have hm4 := (cM_le 4).2.1 (by omega)
    by_cases hr : (gP R f).r = 1
    · obtain ⟨o, n, l, p1, g1, g2, g3, g4⟩ := t_gen hns hD hR 3 (by omega) (gP R f).ps 0 p (by omega) (by omega) (by omega)
      obtain ⟨o2, n2, l2, p2, k1, k2, k3, k4⟩ := t_gen hns hD hR 4 (by omega) (gP R f).ps (gP R f).r p1 (by omega) (by omega) (by omega)
      have hcon : Fit .expr [.int 6, .int 1, .sl 3 [[.int o, .int n, .sl 3 l], [.int 9, .int (f : Int), .sl 3 acc]]] := fit_node (by omega) (by omega) (by simp) (fit2 g3 hA)
      refine ⟨7, 0, _, p2, spec_downFrom_L0_le (bifF hend (callExpr (s_node _ _ _) (atPmI rfl hf (bifT (by rw [beq_iff_eq]; exact hr) (callTE g1 (callExpr (s_node _ _ _) (callExpr (s_integer _) (callExpr (s_variable _) (callExpr (s_node _ _ _) (atPmI rfl hf (callTE k1 (callExpr (s_node _ _ _) rfl)))))))))))), by omega, fit_node (by omega) (by omega) (by simp) (fit3 hcmp hcon k3), ?_⟩
      rw [rs3, rs2, rs2]
      simp
      omega
    · obtain ⟨o2, n2, l2, p2, k1, k2, k3, k4⟩ := t_gen hns hD hR 4 (by omega) (gP R f).ps (gP R f).r p (by omega) (by omega) (by omega)
      refine ⟨7, 0, _, p2, spec_downFrom_L0_le (bifF hend (callExpr (s_node _ _ _) (atPmI rfl hf (bifF (by rw [beq_eq_false_iff_ne]; exact hr) (callExpr (s_integer _) (callExpr (s_variable _) (callExpr (s_node _ _ _) (atPmI rfl hf (callTE k1 (callExpr (s_node _ _ _) rfl)))))))))), by omega, fit_node (by omega) (by omega) (by simp) (fit3 hcmp hA k3), ?_⟩
      rw [rs3, rs2]
      simp
      omega
  | succ m ih =>
    intro k hk acc p ha hl hs hp
    have hlt : k < (gP R f).ps.length := by omega
    have ht := s3 _ (List.getElem_mem hlt)
    obtain ⟨o, n, l, p1, g1, g2, g3, g4⟩ := t_leaf hns hD hR (V := (gP R f).ps) (by omega) (t := (gP R f).ps[k]) (by omega) (p := p) (by omega)
    have hsz := kids_size (kids := acc) (o := o) (n := n) (l := l)
    have hnx := ih (k + 1) (by omega) (acc ++ [[.int o, .int n, .sl 3 l]]) p1 (kids_snoc ha g3) (by simp; omega) (by omega) (by omega)
    rw [← wrk (by unfold maxI; omega)] at hnx
    exact EG.same hnx (by omega) (by omega) fun o n kids q h => spec_downFrom_L0_le (bifT (decide_eq_true (by rw [intsC_len]; omega)) (atNum hlt (callTE g1 (appTo (by simp; omega) h))))
set_option maxRecDepth 8000 in
theorem t_downFrom {f : Nat} (hf : f < R.length) (hps : 0 < (gP R f).ps.length) {p : Nat} (hp : p + 3000 ≤ 800000) : EG ns p 900 400 (spec_downFrom (Qr ns p) [pgC D R, .cell (.int (f : Int))]) := by
  obtain ⟨s1, s2, s3⟩ := hR.small hf
  have hnil := rsS_nil
  have h := t_downFrom_L0 hns hD hR hf (c1 := 0) (c2 := 0) (c3 := []) ((gP R f).ps.length - 1) 1 (by omega) [[.int 2, .int 0, .sl 3 [[.int 12, .int 0, .sl 3 []], [.int 0, .int 1, .sl 3 []]]]] p (fun b hb => by
    simp only [List.mem_singleton] at hb
    rw [hb]
    exact fit_node (by omega) (by omega) (by simp) (fit2 (fit_var (by omega)) (fit_int (by omega)))) (by simp) (by rw [rsS_cons, rsS_nil, cS_ex, rs2]; simp [rsS_nil]) (by omega)
  exact EG.same h (by omega) (by omega) fun o n kids q h => spec_downFrom_le (atPmI rfl hf (callExpr (s_variable _) (callExpr (s_integer _) (callExpr (s_node _ _ _) h))))
theorem t_overTree_L0 {f : Nat} (hf : f < R.length) (hps : 0 < (gP R f).ps.length) {c1 c2 : Int} {c3 : List (List AC)} : ∀ m k : Nat, k + m = (gP R f).ps.length → ∀ (a1 a2 : List (List AC)), KidsOk a1 → KidsOk a2 → a1.length ≤ k → a2.length ≤ k → rsS a1 = 0 → rsS a2 = 0 → ∀ p : Nat, p + 3000 ≤ 800000 →
    EG ns p 1300 700 (spec_overTree_L0 (f : Int) (decsC D) (pmsC R) c1 c2 c3 (intsC (gP R f).ps) (((gP R f).ps.length : Nat) : Int) a1 a2 (k : Int) (Qr ns p)) := by
  obtain ⟨s1, s2, s3⟩ := hR.small hf
  have h4 := hR.len
  have hnil := rsS_nil
  have hc4 := (cC_le 4).2.1 (by omega)
  have hm4 := (cM_le 4).2.1 (by omega)
  intro m
  induction m with
  | zero =>
    intro k hk a1 a2 q1 q2 q3 q4 q5 q6 p hp
    have hend : decide ((k : Int) < (((gP R f).ps.length : Nat) : Int)) = false := decide_eq_false (by omega)
    have hA : Fit .expr [.int 9, .int (f : Int), .sl 3 a1] := fit_node (by omega) (by omega) (by omega) q1
    have hB : Fit .expr [.int 9, .int (f : Int), .sl 3 a2] := fit_node (by omega) (by omega) (by omega) q2
    have hext := s_extM (gP R f).ps [3, 0, 3] (by simp; omega)
    have hw : wrapI ((((gP R f).ps.length : Nat) : Int) + 2) = (((gP R f).ps.length + 2 : Nat) : Int) := by rw [wr (by omega) (by omega)]; omega
    obtain ⟨o, n, l, p1, g1, g2, g3, g4⟩ := t_gen hns hD hR 4 (by omega) ((gP R f).ps ++ [3, 0, 3]) 0 p (by rw [List.length_append]; simp; omega) (by omega) (by omega)
    have hr1 : Fit .expr [.int 1, .int 0, .sl 3 [[.int o, .int n, .sl 3 l], [.int 9, .int (f : Int), .sl 3 a2]]] := fit_node (by omega) (by omega) (by simp) (fit2 g3 hB)
    have hr2 : Fit .expr [.int 1, .int 0, .sl 3 [[.int 9, .int (f : Int), .sl 3 a1], [.int 1, .int 0, .sl 3 [[.int o, .int n, .sl 3 l], [.int 9, .int (f : Int), .sl 3 a2]]]]] := fit_node (by omega) (by omega) (by simp) (fit2 hA hr1)
    by_cases hr : (gP R f).r = 3
    · obtain ⟨o3, n3, l3, p3, j1, j2, j3, j4⟩ := t_gen hns hD hR 4 (by omega) ((gP R f).ps ++ [3, 0, 3]) 0 p1 (by rw [List.length_append]; simp; omega) (by omega) (by omega)
      obtain ⟨o2, n2, l2, p2, k1, k2, k3, k4⟩ := t_gen hns hD hR 4 (by omega) (gP R f).ps (gP R f).r p3 (by omega) (by omega) (by omega)
      have hcon : Fit .expr [.int 6, .int 3, .sl 3 [[.int 9, .int (f : Int), .sl 3 a1], [.int o3, .int n3, .sl 3 l3], [.int 12, .int (((gP R f).ps.length + 2 : Nat) : Int), .sl 3 []]]] := fit_node (by omega) (by omega) (by simp) (fit3 hA j3 (fit_var (by omega)))
      refine ⟨8, 3, [[.int 12, .int 0, .sl 3 []], [.int o2, .int n2, .sl 3 l2], [.int 6, .int 3, .sl 3 [[.int 9, .int (f : Int), .sl 3 a1], [.int o3, .int n3, .sl 3 l3], [.int 12, .int (((gP R f).ps.length + 2 : Nat) : Int), .sl 3 []]]]], p2, spec_overTree_L0_le (bifF hend (callExpr (s_node _ _ _) (callExpr (s_node _ _ _) (callS hext (callTE g1 (callExpr (s_node _ _ _) (callExpr (s_node _ _ _) (atPmI rfl hf (bifT (by rw [beq_iff_eq]; exact hr) (callS hext (callTE j1 ?_))))))))))), by omega, fit_node (by omega) (by omega) (by simp) (fit3 (fit_var (by omega)) k3 hcon), ?_⟩
      · rw [hw]
        exact callExpr (s_variable _) (callExpr (s_node _ _ _) (callExpr (s_variable _) (atPmI rfl hf (callTE k1 (callExpr (s_node _ _ _) rfl)))))
      · rw [rs3, rs3]
        simp
        omega
    · obtain ⟨o2, n2, l2, p2, k1, k2, k3, k4⟩ := t_gen hns hD hR 4 (by omega) (gP R f).ps (gP R f).r p1 (by omega) (by omega) (by omega)
      refine ⟨8, 3, _, p2, spec_overTree_L0_le (bifF hend (callExpr (s_node _ _ _) (callExpr (s_node _ _ _) (callS hext (callTE g1 (callExpr (s_node _ _ _) (callExpr (s_node _ _ _) (atPmI rfl hf (bifF (by rw [beq_eq_false_iff_ne]; exact hr) (callExpr (s_variable _) (atPmI rfl hf (callTE k1 (callExpr (s_node _ _ _) rfl))))))))))))), by omega, fit_node (by omega) (by omega) (by simp) (fit3 (fit_var (by omega)) k3 hr2), ?_⟩
      rw [rs3, rs2, rs2]
      simp
      omega
  | succ m ih =>
    intro k hk a1 a2 q1 q2 q3 q4 q5 q6 p hp
    have hfv : Fit .expr [.int 12, .int (k : Int), .sl 3 []] := fit_var (by omega)
    have hz1 := kids_size (kids := a1) (o := 12) (n := (k : Int)) (l := [])
    have hz2 := kids_size (kids := a2) (o := 12) (n := (k : Int)) (l := [])
    have e1 : rsS (a1 ++ [[AC.int 12, .int (k : Int), .sl 3 []]]) = 0 := by rw [rsS_append, rsS_cons, rsS_nil, cS_ex, q5]; simp [rsS_nil]
    have e2 : rsS (a2 ++ [[AC.int 12, .int (k : Int), .sl 3 []]]) = 0 := by rw [rsS_append, rsS_cons, rsS_nil, cS_ex, q6]; simp [rsS_nil]
    have hnx := ih (k + 1) (by omega) (a1 ++ [[.int 12, .int (k : Int), .sl 3 []]]) (a2 ++ [[.int 12, .int (k : Int), .sl 3 []]]) (kids_snoc q1 hfv) (kids_snoc q2 hfv) (by simp; omega) (by simp; omega) e1 e2 p hp
    rw [← wrk (by unfold maxI; omega)] at hnx
    exact EG.same hnx (by omega) (by omega) fun o n kids q h => spec_overTree_L0_le (bifT (decide_eq_true (by omega)) (callExpr (s_variable _) (appTo (by simp; omega) (callExpr (s_variable _) (appTo (by simp; omega) h)))))
theorem t_overTree {f : Nat} (hf : f < R.length) (hps : 0 < (gP R f).ps.length) {p : Nat} (hp : p + 3000 ≤ 800000) : EG ns p 1300 700 (spec_overTree (Qr ns p) [pgC D R, .cell (.int (f : Int))]) := by
  obtain ⟨s1, s2, s3⟩ := hR.small hf
  have hw : wrapI ((((gP R f).ps.length : Nat) : Int) + 2) = (((gP R f).ps.length + 2 : Nat) : Int) := by rw [wr (by omega) (by omega)]; omega
  have hk : ∀ n : Int, -1000 ≤ n ∧ n ≤ 1000 → KidsOk [[.int 12, .int n, .sl 3 []]] := fun n hn b hb => by
    simp only [List.mem_singleton] at hb
    rw [hb]
    exact fit_var hn
  have hr : ∀ n : Int, rsS [[AC.int 12, .int n, .sl 3 []]] = 0 := fun n => by rw [rsS_cons, rsS_nil, cS_ex]; simp [rsS_nil]
  have h := t_overTree_L0 hns hD hR hf hps (c1 := 0) (c2 := 0) (c3 := []) ((gP R f).ps.length - 1) 1 (by omega) [[.int 12, .int (((gP R f).ps.length : Nat) : Int), .sl 3 []]] [[.int 12, .int (((gP R f).ps.length + 2 : Nat) : Int), .sl 3 []]] (hk _ (by omega)) (hk _ (by omega)) (by simp) (by simp) (hr _) (hr _) p hp
  refine EG.same h (by omega) (by omega) fun o n kids q h => spec_overTree_le (atPmI rfl hf ?_)
  rw [intsC_len, hw]
  exact callExpr (s_variable _) (callExpr (s_variable _) h)
end
end Go.Proofs.Ytbodfaghedolbaa
