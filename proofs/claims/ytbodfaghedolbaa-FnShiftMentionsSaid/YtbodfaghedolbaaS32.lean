/- Generic texts and models for the proofs of this seat: part 32. -/
import Derived.Test.YtbodfaghedolbaaS31
set_option linter.unusedVariables false
set_option linter.unusedSimpArgs false
set_option linter.unusedSectionVars false
namespace Go.Proofs.Ytbodfaghedolbaa
open Go
def EG (ns : List Nat) (p C M : Nat) (x : Option (AV × List AC)) : Prop := ∃ (o n : Int) (kids : List (List AC)) (p' : Nat), x = some (.v (.agg [.int o, .int n, .sl 3 kids]), Qr ns p') ∧ p' ≤ p + C ∧ Fit .expr [.int o, .int n, .sl 3 kids] ∧ 1 + kids.length + rsS kids ≤ M
theorem EG.le {ns : List Nat} {p C M C' M' : Nat} {x : Option (AV × List AC)} (h : EG ns p C M x) (h1 : C ≤ C') (h2 : M ≤ M') : EG ns p C' M' x := by
  obtain ⟨o, n, kids, p', e, a, b, c⟩ := h
  exact ⟨o, n, kids, p', e, by omega, b, by omega⟩
def KidsOk (kids : List (List AC)) : Prop := ∀ b ∈ kids, Fit .expr b
theorem fit_node {o n : Int} {kids : List (List AC)} (ho : -1000000 ≤ o ∧ o ≤ 1000000) (hn : -10000000 ≤ n ∧ n ≤ 10000000) (hl : kids.length ≤ 1000000) (hk : KidsOk kids) : Fit .expr [.int o, .int n, .sl 3 kids] :=
  .expr o n kids ⟨by omega, by omega⟩ ⟨by omega, by omega⟩ (by unfold maxI; omega) hk
theorem rsS_append (a b : List (List AC)) : rsS (a ++ b) = rsS a + rsS b := by
  induction a with
  | nil => simp [rsS_nil]
  | cons x a ih => rw [List.cons_append, rsS_cons, rsS_cons, ih]; omega
theorem kids_snoc {kids : List (List AC)} {o n : Int} {l : List (List AC)} (hk : KidsOk kids) (h : Fit .expr [.int o, .int n, .sl 3 l]) : KidsOk (kids ++ [[.int o, .int n, .sl 3 l]]) := fun b hb => by
  rcases List.mem_append.1 hb with hb | hb
  · exact hk b hb
  · simp only [List.mem_singleton] at hb; rw [hb]; exact h
theorem kids_size {kids : List (List AC)} {o n : Int} {l : List (List AC)} : (kids ++ [[AC.int o, .int n, .sl 3 l]]).length + rsS (kids ++ [[AC.int o, .int n, .sl 3 l]]) = kids.length + rsS kids + (1 + l.length + rsS l) := by
  rw [rsS_append, rsS_cons, rsS_nil, cS_ex]
  simp
  omega
def cf (D : List DM) (c : Int) : List Int := if conT D c < 1 then [] else fld D c
theorem s_cf {D : List DM} (hv : DV D) (c : Int) : spec_conFields [.cell (.sl 3 (decsC D)), .cell (.int c)] = rL (cf D c) := s_conFields hv c
theorem good_one : ∀ D ∈ goodL, ∀ t ∈ ([1, 3] : List Int), (consL D t).length = 2 ∧ cf D ((consL D t).getD 0 0) = [] ∧ (cf D ((consL D t).getD 1 0)).contains t = true ∧ (cf D ((consL D t).getD 1 0)).length ≤ 3 ∧ (0 ≤ (consL D t).getD 0 0 ∧ (consL D t).getD 0 0 ≤ 100) := by decide
theorem good_two : ∀ D ∈ goodL, ∀ t ∈ ([2, 4] : List Int), (consL D t).length ≤ 3 ∧ ∀ c ∈ consL D t, (0 ≤ c ∧ c ≤ 100) ∧ (cf D c).contains t = false ∧ (cf D c).length ≤ 3 ∧ ∀ u ∈ cf D c, u = 0 ∨ u = 1 ∨ u = 3 := by decide
theorem good_zero : ∀ D ∈ goodL, consL D 0 = [] := by decide
theorem good_sig : ∀ D ∈ goodL, ∀ s ∈ sigL, ∀ t ∈ ([2, 4] : List Int), arrL (s.1.getD (s.1.length - 1) 0) s.2 D 0 = t → ∀ u ∈ s.1.take (s.1.length - 1), u = 0 ∨ u = 1 ∨ u = 3 := by decide
section
variable {ns : List Nat} (hns : ns.length ≤ 2000) {D : List DM} (hD : D ∈ goodL) {R : List PM} (hR : GR R)
include hns hD hR
theorem t_small_int {t : Int} (ht : ¬ 0 < t ∨ ∃ fs : List Int, spec_closable [pgC D R, .cell (.int t)] = rL fs ∧ fs = []) (hc : consL D t = []) {p : Nat} (hp : p + 4 ≤ 1000000) : EG ns p 4 1 (spec_smallest (Qr ns p) [pgC D R, .cell (.int t)]) := by
  obtain ⟨x, hx, h1⟩ := t_someInt hns hp
  have hcons := s_consL (good_dv hD) t
  rw [hc] at hcons
  refine ⟨0, x, [], p + 4, ?_, by omega, fit_node (by omega) (by omega) (by simp) (fun b hb => by cases hb), by simp [rsS_nil]⟩
  rcases ht with ht | ⟨fs, h2, rfl⟩
  · obtain ⟨fs, h2, _⟩ := t_closable (good_len hD) hR t
    exact spec_smallest_le (callS hcons (bifF rfl (callS h2 (bifF (decide_eq_false ht) (callTI h1 (callExpr (s_integer _) rfl))))))
  · by_cases h0 : 0 < t
    · exact spec_smallest_le (callS hcons (bifF rfl (callS h2 (bifT (decide_eq_true h0) (bifF rfl (callTI h1 (callExpr (s_integer _) rfl)))))))
    · exact spec_smallest_le (callS hcons (bifF rfl (callS h2 (bifF (decide_eq_false h0) (callTI h1 (callExpr (s_integer _) rfl))))))
theorem t_small_L0 {C : Nat} (hC : C ≤ 1000) {c : Int} (hc : 0 ≤ c ∧ c ≤ 100) {fs : List Int} (hl : fs.length ≤ 3) {P : Nat} (hP : P ≤ 900000) (hsm : ∀ u ∈ fs, ∀ p, p ≤ P → EG ns p C 1 (spec_smallest (Qr ns p) [pgC D R, .cell (.int u)])) {z1 z2 : Int} {z3 : List (List AC)} :
    ∀ m k : Nat, k + m = fs.length → ∀ (acc : List (List AC)) (p : Nat), KidsOk acc → acc.length + rsS acc ≤ k → p + m * C ≤ P → EG ns p (m * C) 4 (spec_smallest_L0 (decsC D) (pmsC R) z1 z2 z3 c acc (intsC fs) (k : Int) (Qr ns p)) := by
  intro m
  induction m with
  | zero =>
    intro k hk acc p ha hs hp
    refine ⟨6, c, acc, p, spec_smallest_L0_le (bifF (decide_eq_false (by rw [intsC_len]; omega)) (callExpr (s_node _ _ _) rfl)), by omega, fit_node (by omega) (by omega) (by omega) ha, by omega⟩
  | succ m ih =>
    intro k hk acc p ha hs hp
    have hlt : k < fs.length := by omega
    have hmul : (m + 1) * C = m * C + C := Nat.succ_mul _ _
    obtain ⟨o, n, l, p', h1, h2, h3, h4⟩ := hsm fs[k] (List.getElem_mem hlt) p (by omega)
    have hsz := kids_size (kids := acc) (o := o) (n := n) (l := l)
    obtain ⟨o2, n2, l2, p2, g1, g2, g3, g4⟩ := ih (k + 1) (by omega) (acc ++ [[.int o, .int n, .sl 3 l]]) p' (kids_snoc ha h3) (by omega) (by omega)
    refine ⟨o2, n2, l2, p2, spec_smallest_L0_le (bifT (decide_eq_true (by rw [intsC_len]; omega)) (atNum hlt (callTE h1 (appTo (by simp; omega) ?_)))), by omega, g3, g4⟩
    rw [wrk (by unfold maxI; omega)]
    exact g1
theorem t_small_L2 {C : Nat} (hC : C ≤ 1000) {c : Int} (hc : 0 ≤ c ∧ c ≤ 100) {fs : List Int} (hl : fs.length ≤ 3) {P : Nat} (hP : P ≤ 900000) (hsm : ∀ u ∈ fs.take (fs.length - 1), ∀ p, p ≤ P → EG ns p C 1 (spec_smallest (Qr ns p) [pgC D R, .cell (.int u)])) {z1 z2 : Int} {z3 : List (List AC)} :
    ∀ m k : Nat, k + m = fs.length → ∀ (acc : List (List AC)) (p : Nat), KidsOk acc → acc.length + rsS acc ≤ k → p + m * C ≤ P → EG ns p (m * C) 4 (spec_smallest_L2 (decsC D) (pmsC R) z1 z2 z3 c (intsC fs) acc (k : Int) (Qr ns p)) := by
  intro m
  induction m with
  | zero =>
    intro k hk acc p ha hs hp
    refine ⟨10, c, acc, p, spec_smallest_L2_le (bifF (decide_eq_false (by rw [intsC_len, wrk (by unfold maxI; omega)]; omega)) (callExpr (s_node _ _ _) rfl)), by omega, fit_node (by omega) (by omega) (by omega) ha, by omega⟩
  | succ m ih =>
    intro k hk acc p ha hs hp
    have hlt : k < fs.length := by omega
    have hmul : (m + 1) * C = m * C + C := Nat.succ_mul _ _
    by_cases hlast : k + 1 < fs.length
    · have hmem : fs[k] ∈ fs.take (fs.length - 1) := by
        rw [List.mem_take_iff_getElem]
        exact ⟨k, by omega, rfl⟩
      obtain ⟨o, n, l, p', h1, h2, h3, h4⟩ := hsm fs[k] hmem p (by omega)
      have hsz := kids_size (kids := acc) (o := o) (n := n) (l := l)
      obtain ⟨o2, n2, l2, p2, g1, g2, g3, g4⟩ := ih (k + 1) (by omega) (acc ++ [[.int o, .int n, .sl 3 l]]) p' (kids_snoc ha h3) (by omega) (by omega)
      refine ⟨o2, n2, l2, p2, spec_smallest_L2_le (bifT (decide_eq_true (by rw [intsC_len, wrk (by unfold maxI; omega)]; omega)) (atNum hlt (callTE h1 (appTo (by simp; omega) ?_)))), by omega, g3, g4⟩
      rw [wrk (by unfold maxI; omega)]
      exact g1
    · refine ⟨10, c, acc, p, spec_smallest_L2_le (bifF (decide_eq_false (by rw [intsC_len, wrk (by unfold maxI; omega)]; omega)) (callExpr (s_node _ _ _) rfl)), by omega, fit_node (by omega) (by omega) (by omega) ha, by omega⟩
theorem t_small0 {p : Nat} (hp : p + 4 ≤ 1000000) : EG ns p 4 1 (spec_smallest (Qr ns p) [pgC D R, .cell (.int 0)]) := t_small_int hns hD hR (.inl (by omega)) (good_zero D hD) hp
theorem t_small1 {t : Int} (ht : t = 1 ∨ t = 3) {p : Nat} (hp : p + 4 ≤ 1000000) : EG ns p 4 1 (spec_smallest (Qr ns p) [pgC D R, .cell (.int t)]) := by
  obtain ⟨g1, g2, g3, g4, g5⟩ := good_one D hD t (by rcases ht with rfl | rfl <;> simp)
  have hdv := good_dv hD
  have hcons := s_consL hdv t
  obtain ⟨x, hx, h1⟩ := t_pick hns (p := p) (by omega) (m := 4) (by omega)
  obtain ⟨c0, c1, e⟩ : ∃ c0 c1, consL D t = [c0, c1] := by
    match h : consL D t, g1 with
    | [a, b], _ => exact ⟨a, b, rfl⟩
  rw [e] at g1 g2 g3 g4 g5 hcons
  simp only [List.getD_cons_zero, List.getD_cons_succ] at g2 g3 g4 g5
  have hf0 := s_cf hdv c0
  have hf1 := s_cf hdv c1
  rw [g2] at hf0
  have hL : ∀ q, spec_smallest_L0 (decsC D) (pmsC R) 0 0 [] c0 [] (intsC []) 0 q = some (.v (.agg [.int 6, .int c0, .sl 3 []]), q) := fun q => spec_smallest_L0_le (bifF rfl (callExpr (s_node _ _ _) rfl))
  have hfin : ∀ X, X = some (.v (.agg [.int 6, .int c0, .sl 3 []]), Qr ns (p + 1)) → EG ns p 4 1 X := fun X hX => ⟨6, c0, [], p + 1, hX, by omega, fit_node (by omega) (by omega) (by simp) (fun b hb => by cases hb), by simp [rsS_nil]⟩
  have hin0 := s_isInM [] t (by simp)
  refine hfin _ (spec_smallest_le (callS hcons (bifT rfl (atNum (xs := [c0, c1]) (k := 0) (by simp) (bifT rfl (callTI h1 ?_))))))
  by_cases hx0 : x = 0
  · subst hx0
    exact bifT rfl (atNum (xs := [c0, c1]) (k := 1) (by simp) (callS hf1 (callB (s_isInM _ t (by omega)) (bifT g3 (atNum (xs := [c0, c1]) (k := 0) (by simp) (callS hf0 (hL _)))))))
  · exact bifF (by rw [beq_eq_false_iff_ne]; omega) (callS hf0 (callB hin0 (bifF rfl (callS hf0 (hL _)))))
theorem t_small_low {u : Int} (hu : u = 0 ∨ u = 1 ∨ u = 3) {p : Nat} (hp : p + 4 ≤ 1000000) : EG ns p 4 1 (spec_smallest (Qr ns p) [pgC D R, .cell (.int u)]) := by
  rcases hu with rfl | rfl | rfl
  · exact t_small0 hns hD hR hp
  · exact t_small1 hns hD hR (.inl rfl) hp
  · exact t_small1 hns hD hR (.inr rfl) hp
theorem EG.put {p p1 C C1 M : Nat} {x : Option (AV × List AC)} (h : EG ns p1 C1 M x) (h1 : p1 + C1 ≤ p + C) : EG ns p C M x := by
  obtain ⟨o, n, kids, p', e, a, b, c⟩ := h
  exact ⟨o, n, kids, p', e, by omega, b, c⟩
theorem t_small2 {t : Int} (ht : t = 2 ∨ t = 4) {p : Nat} (hp : p + 20 ≤ 900000) : EG ns p 14 4 (spec_smallest (Qr ns p) [pgC D R, .cell (.int t)]) := by
  have hm : t ∈ ([2, 4] : List Int) := by rcases ht with rfl | rfl <;> simp
  obtain ⟨g1, g2⟩ := good_two D hD t hm
  have hdv := good_dv hD
  have hcons := s_consL hdv t
  have hL : ∀ c ∈ consL D t, ∀ p', p' ≤ p + 1 → EG ns p' 12 4 (spec_smallest_L0 (decsC D) (pmsC R) 0 0 [] c [] (intsC (cf D c)) 0 (Qr ns p')) := fun c hc p' hp' => by
    obtain ⟨a1, a2, a3, a4⟩ := g2 c hc
    have := t_small_L0 hns hD hR (C := 4) (by omega) a1 a3 (P := 900000) (by omega) (fun u hu q hq => t_small_low hns hD hR (a4 u hu) (by omega)) (z1 := 0) (z2 := 0) (z3 := []) (cf D c).length 0 (by omega) [] p' (fun b hb => by cases hb) (by simp [rsS_nil]) (by omega)
    exact this.le (by omega) (by omega)
  by_cases hz : 0 < (consL D t).length
  · have hm0 : (consL D t)[0] ∈ consL D t := List.getElem_mem hz
    have b0 := (g2 _ hm0).2.1
    have l0 := (g2 _ hm0).2.2.1
    have hz' : decide (((((intsC (consL D t)).length : Nat) : Int)) > 0) = true := decide_eq_true (by rw [intsC_len]; omega)
    by_cases h1 : 1 < (consL D t).length
    · have hm1 : (consL D t)[1] ∈ consL D t := List.getElem_mem h1
      have b1 := (g2 _ hm1).2.1
      have l1 := (g2 _ hm1).2.2.1
      obtain ⟨x, hx, hpk⟩ := t_pick hns (p := p) (by omega) (m := 4) (by omega)
      by_cases hx0 : x = 0
      · subst hx0
        obtain ⟨o, n, l, p', e1, e2, e3, e4⟩ := hL _ hm1 (p + 1) (by omega)
        exact ⟨o, n, l, p', spec_smallest_le (callS hcons (bifT hz' (atNum (k := 0) hz (bifT (decide_eq_true (by rw [intsC_len]; omega)) (callTI hpk (bifT rfl (atNum (k := 1) h1 (callS (s_cf hdv _) (callB (s_isInM _ t (by omega)) (bifF b1 (callS (s_cf hdv _) e1))))))))))), by omega, e3, e4⟩
      · obtain ⟨o, n, l, p', e1, e2, e3, e4⟩ := hL _ hm0 (p + 1) (by omega)
        exact ⟨o, n, l, p', spec_smallest_le (callS hcons (bifT hz' (atNum (k := 0) hz (bifT (decide_eq_true (by rw [intsC_len]; omega)) (callTI hpk (bifF (by rw [beq_eq_false_iff_ne]; omega) (callS (s_cf hdv _) (callB (s_isInM _ t (by omega)) (bifF b0 (callS (s_cf hdv _) e1)))))))))), by omega, e3, e4⟩
    · obtain ⟨o, n, l, p', e1, e2, e3, e4⟩ := hL _ hm0 p (by omega)
      exact ⟨o, n, l, p', spec_smallest_le (callS hcons (bifT hz' (atNum (k := 0) hz (bifF (decide_eq_false (by rw [intsC_len]; omega)) (callS (s_cf hdv _) (callB (s_isInM _ t (by omega)) (bifF b0 (callS (s_cf hdv _) e1)))))))), by omega, e3, e4⟩
  · have hnil : consL D t = [] := List.eq_nil_of_length_eq_zero (by omega)
    obtain ⟨fs, h1, h2, h3⟩ := t_closable (good_len hD) hR t
    by_cases hf : 0 < fs.length
    · obtain ⟨x, hx, hpk⟩ := t_pick hns (p := p) (by omega) (m := fs.length) hf
      obtain ⟨k, hk, hfk, hps, harr⟩ := h3 fs[x] (List.getElem_mem hx)
      have hsm := good_sig D hD _ (hR.at hk) t hm harr
      have hl3 := (hR.small hk).1
      have hklt := hR.len
      have := t_small_L2 hns hD hR (C := 4) (by omega) (c := (k : Int)) (by omega) hl3 (P := 900000) (by omega) (fun u hu q hq => t_small_low hns hD hR (hsm u hu) (by omega)) (z1 := 0) (z2 := 0) (z3 := []) (gP R k).ps.length 0 (by omega) [] (p + 1) (fun b hb => by cases hb) (by simp [rsS_nil]) (by omega)
      obtain ⟨o, n, l, p', e1, e2, e3, e4⟩ := this
      rw [hnil] at hcons
      refine ⟨o, n, l, p', spec_smallest_le (callS hcons (bifF rfl (callS h1 (bifT (decide_eq_true (by omega)) (bifT (decide_eq_true (by rw [intsC_len]; omega)) ?_))))), by omega, e3, e4⟩
      rw [intsC_len]
      refine callTI hpk (atNum hx ?_)
      rw [hfk]
      exact atPmI rfl hk e1
    · exact (t_small_int hns hD hR (.inr ⟨fs, h1, List.eq_nil_of_length_eq_zero (by omega)⟩) hnil (by omega)).le (by omega) (by omega)
theorem t_smallest {t : Int} (ht : 0 ≤ t ∧ t ≤ 4) {p : Nat} (hp : p + 20 ≤ 900000) : EG ns p 14 4 (spec_smallest (Qr ns p) [pgC D R, .cell (.int t)]) := by
  rcases (by omega : t = 0 ∨ t = 1 ∨ t = 3 ∨ (t = 2 ∨ t = 4)) with rfl | rfl | rfl | h
  · exact (t_small0 hns hD hR (by omega)).le (by omega) (by omega)
  · exact (t_small1 hns hD hR (.inl rfl) (by omega)).le (by omega) (by omega)
  · exact (t_small1 hns hD hR (.inr rfl) (by omega)).le (by omega) (by omega)
  · exact t_small2 hns hD hR h hp
theorem t_leaf {V : List Int} (hV : V.length ≤ 1048576) {t : Int} (ht : 0 ≤ t ∧ t ≤ 4) {p : Nat} (hp : p + 30 ≤ 900000) : EG ns p 16 4 (spec_leaf (Qr ns p) [pgC D R, .cell (.sl 1 (intsC V)), .cell (.int t)]) := by
  obtain ⟨fs, h1, h2, h3⟩ := t_varsOfType hV t
  have hvar : ∀ (x : Nat) (hx : x < fs.length), Fit .expr [.int 12, .int fs[x], .sl 3 []] := fun x hx => by
    have := h3 fs[x] (List.getElem_mem hx)
    exact fit_node (by omega) (by omega) (by simp) (fun b hb => by cases hb)
  by_cases hf : 0 < fs.length
  · have hf' : decide (((((intsC fs).length : Nat) : Int)) > 0) = true := decide_eq_true (by rw [intsC_len]; omega)
    obtain ⟨x, hx, hp1⟩ := t_pick hns (p := p) (by omega) (m := 6) (by omega)
    by_cases hx0 : 0 < x
    · obtain ⟨y, hy, hp2⟩ := t_pick hns (p := p + 1) (by omega) (m := fs.length) hf
      refine ⟨12, fs[y], [], p + 1 + 1, spec_leaf_le (callS h1 (bifT hf' (callTI hp1 (bifT (decide_eq_true (by omega)) ?_)))), by omega, hvar y hy, by simp [rsS_nil]⟩
      rw [intsC_len]
      exact callTI hp2 (atNum hy (callExpr (s_variable _) rfl))
    · obtain ⟨b, hb⟩ := t_canMake (good_len hD) hR (V := []) (by simp) t
      cases b with
      | false =>
        obtain ⟨y, hy, hp2⟩ := t_pick hns (p := p + 1) (by omega) (m := fs.length) hf
        refine ⟨12, fs[y], [], p + 1 + 1, spec_leaf_le (callS h1 (bifT hf' (callTI hp1 (bifF (decide_eq_false (by omega)) (callB hb (bifT rfl ?_)))))), by omega, hvar y hy, by simp [rsS_nil]⟩
        rw [intsC_len]
        exact callTI hp2 (atNum hy (callExpr (s_variable _) rfl))
      | true =>
        obtain ⟨o, n, l, p', e1, e2, e3, e4⟩ := t_smallest hns hD hR ht (p := p + 1) (by omega)
        exact ⟨o, n, l, p', spec_leaf_le (callS h1 (bifT hf' (callTI hp1 (bifF (decide_eq_false (by omega)) (callB hb (bifF rfl (callTE e1 rfl))))))), by omega, e3, e4⟩
  · obtain ⟨o, n, l, p', e1, e2, e3, e4⟩ := t_smallest hns hD hR ht (p := p) (by omega)
    exact ⟨o, n, l, p', spec_leaf_le (callS h1 (bifF (decide_eq_false (by rw [intsC_len]; omega)) (callTE e1 rfl))), by omega, e3, e4⟩
end
end Go.Proofs.Ytbodfaghedolbaa
