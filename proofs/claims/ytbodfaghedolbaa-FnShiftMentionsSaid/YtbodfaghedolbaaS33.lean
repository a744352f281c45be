/- Generic texts and models for the proofs of this seat: part 33. -/
import Derived.Test.YtbodfaghedolbaaS32
set_option linter.unusedVariables false
set_option linter.unusedSimpArgs false
set_option linter.unusedSectionVars false
namespace Go.Proofs.Ytbodfaghedolbaa
open Go
def LG (ns : List Nat) (p C M l : Nat) (x : Option (AV × List AC)) : Prop := ∃ (kids : List (List AC)) (p' : Nat), x = some (.v (.cell (.sl 3 kids)), Qr ns p') ∧ p' ≤ p + C ∧ KidsOk kids ∧ kids.length + rsS kids ≤ M ∧ kids.length = l
def TyOk (T : List Int) : Prop := ∀ t ∈ T, 0 ≤ t ∧ t ≤ 4
theorem s_extM (xs ys : List Int) (hx : xs.length + ys.length ≤ 68719476736) : spec_extend [.cell (.sl 1 (intsC xs)), .cell (.sl 1 (intsC ys))] = rL (xs ++ ys) := s_extend xs ys hx
theorem good_cf : ∀ D ∈ goodL, ∀ t ∈ ([0, 1, 2, 3, 4] : List Int), (consL D t).length ≤ 3 ∧ ∀ c ∈ consL D t, (0 ≤ c ∧ c ≤ 100) ∧ (cf D c).length ≤ 3 ∧ ∀ u ∈ cf D c, 0 ≤ u ∧ u ≤ 4 := by decide
theorem good_arr : ∀ D ∈ goodL, ∀ k, k < D.length → (0 ≤ (gD D k).f ∧ (gD D k).f ≤ 4) := by decide
def cC (b : Nat) : Nat := if b < 3 then 16 else 100 * b - 20
def cM (b : Nat) : Nat := if b < 3 then 4 else 40 * b - 10
theorem cC_le (b : Nat) : cC b ≤ 100 * b + 16 ∧ (3 ≤ b → cC b = 100 * b - 20) ∧ (b < 3 → cC b = 16) := by
  unfold cC
  split <;> exact ⟨by omega, fun h => by omega, fun h => by omega⟩
theorem cM_le (b : Nat) : cM b ≤ 40 * b + 4 ∧ (3 ≤ b → cM b = 40 * b - 10) ∧ (b < 3 → cM b = 4) := by
  unfold cM
  split <;> exact ⟨by omega, fun h => by omega, fun h => by omega⟩
def Gen (ns : List Nat) (D : List DM) (R : List PM) (b : Nat) : Prop := ∀ (V : List Int) (t : Int) (p : Nat), V.length + 3 * b ≤ 1000000 → 0 ≤ t ∧ t ≤ 4 → p + 100 * b + 100 ≤ 800000 → EG ns p (cC b) (cM b) (spec_gen (Qr ns p) [pgC D R, .cell (.sl 1 (intsC V)), .cell (.int t), .cell (.int (b : Int))])
theorem EG.same {ns : List Nat} {p p1 C M C1 M1 : Nat} {x X : Option (AV × List AC)} (h : EG ns p1 C M x) (hC : p1 + C ≤ p + C1) (hM : M ≤ M1)
    (hX : ∀ o n kids q, x = some (.v (.agg [.int o, .int n, .sl 3 kids]), q) → X = some (.v (.agg [.int o, .int n, .sl 3 kids]), q)) : EG ns p C1 M1 X := by
  obtain ⟨o, n, kids, p', h1, h2, h3, h4⟩ := h
  exact ⟨o, n, kids, p', hX o n kids _ h1, by omega, h3, by omega⟩
section
variable {ns : List Nat} (hns : ns.length ≤ 2000) {D : List DM} (hD : D ∈ goodL) {R : List PM} (hR : GR R)
include hns hD hR
theorem t_genAll {T : List Int} (hl : T.length ≤ 3) (hT : TyOk T) {B : Nat} (hB : B ≤ 1000) (hG : 0 < T.length → Gen ns D R (B / T.length)) {V : List Int} (hV : V.length + 3 * B ≤ 1000000) {p : Nat} (hp : p + 100 * B + 132 ≤ 800000) :
    LG ns p (100 * B + 48) (40 * B + 12) T.length (spec_genAll (Qr ns p) [pgC D R, .cell (.sl 1 (intsC V)), .cell (.sl 1 (intsC T)), .cell (.int (B : Int))]) := by
  obtain ⟨n, hn⟩ : ∃ n, n = T.length := ⟨_, rfl⟩
  obtain ⟨d, hd⟩ : ∃ d, d = B / T.length := ⟨_, rfl⟩
  have hdb : n * d ≤ B := by rw [hn, hd]; exact Nat.mul_div_le B T.length
  obtain ⟨C, hC⟩ : ∃ C, C = 100 * d + 16 := ⟨_, rfl⟩
  obtain ⟨M, hM⟩ : ∃ M, M = 40 * d + 4 := ⟨_, rfl⟩
  have hd1 : 0 < n → d ≤ B := fun h0 => by rw [hd]; exact Nat.div_le_self _ _
  have hnC : n * C ≤ 100 * B + 48 := by
    rcases (by omega : n = 0 ∨ n = 1 ∨ n = 2 ∨ n = 3) with h | h | h | h <;> rw [h] at hdb ⊢ <;> omega
  have hnM : n * M ≤ 40 * B + 12 := by
    rcases (by omega : n = 0 ∨ n = 1 ∨ n = 2 ∨ n = 3) with h | h | h | h <;> rw [h] at hdb ⊢ <;> omega
  have key : ∀ m k : Nat, k + m = T.length → ∀ (acc : List (List AC)) (p' : Nat), KidsOk acc → acc.length = k → acc.length + rsS acc ≤ k * M → p' ≤ p + k * C → ∃ (kids : List (List AC)) (p2 : Nat), spec_genAll_L0 (intsC V) (intsC T) (B : Int) (decsC D) (pmsC R) acc (k : Int) (Qr ns p') = some (.v (.cell (.sl 3 kids)), Qr ns p2) ∧ p2 ≤ p + n * C ∧ KidsOk kids ∧ kids.length + rsS kids ≤ n * M ∧ kids.length = T.length := by
    intro m
    induction m with
    | zero =>
      intro k hk acc p' ha hal hs hp'
      have hkn : k = n := by omega
      subst hkn
      exact ⟨acc, p', spec_genAll_L0_le (bifF (decide_eq_false (by rw [intsC_len]; omega)) rfl), hp', ha, hs, by omega⟩
    | succ m ih =>
      intro k hk acc p' ha hal hs hp'
      have hlt : k < T.length := by omega
      have hkC : (k + 1) * C ≤ n * C := Nat.mul_le_mul_right _ (by omega)
      have hkC' : (k + 1) * C = k * C + C := Nat.succ_mul _ _
      have hkM' : (k + 1) * M = k * M + M := Nat.succ_mul _ _
      have hdB := hd1 (by omega)
      have hcC := (cC_le d).1
      have hcM := (cM_le d).1
      obtain ⟨o, x, l, p1, h1, h2, h3, h4⟩ := hG (by omega) V T[k] p' (by rw [← hd]; omega) (hT _ (List.getElem_mem hlt)) (by rw [← hd]; omega)
      rw [← hd] at h1 h2 h4
      have hsz := kids_size (kids := acc) (o := o) (n := x) (l := l)
      have hlen : (acc ++ [[AC.int o, .int x, .sl 3 l]]).length = k + 1 := by simp; omega
      obtain ⟨kids, p2, g1, g2, g3, g4, g5⟩ := ih (k + 1) (by omega) (acc ++ [[.int o, .int x, .sl 3 l]]) p1 (kids_snoc ha h3) hlen (by omega) (by omega)
      refine ⟨kids, p2, spec_genAll_L0_le (bifT (decide_eq_true (by rw [intsC_len]; omega)) (atNum hlt ?_)), g2, g3, g4, g5⟩
      rw [intsC_len]
      refine quoTo (n := d) (by omega) (by omega) (by omega) (by rw [hd]; rfl) (callTE h1 (appTo (by simp; omega) ?_))
      rw [wrk (by unfold maxI; omega)]
      exact g1
  obtain ⟨kids, p2, h1, h2, h3, h4, h5⟩ := key T.length 0 (by omega) [] p (fun b hb => by cases hb) rfl (by simp [rsS_nil]) (by omega)
  exact ⟨kids, p2, spec_genAll_le h1, by omega, h3, by omega, h5⟩
theorem t_genMatch_L0 {b : Nat} (hb : 3 ≤ b) (hb2 : b ≤ 1000) (hG : ∀ b', b' < b → Gen ns D R b') {V : List Int} (hV : V.length + 3 * b ≤ 1000000) {t : Int} (ht : 0 ≤ t ∧ t ≤ 4) {d : Int} (hd : 0 ≤ d ∧ d ≤ 4) {c0 c1 : Int} {c2 : List (List AC)} {o0 n0 : Int} {l0 : List (List AC)} (h0 : Fit .expr [.int o0, .int n0, .sl 3 l0]) (hs0 : 1 + l0.length + rsS l0 ≤ 4)
    {p : Nat} (hp : p + 100 * b + 10 ≤ 800000) : EG ns p (100 * (b - 2) + 48) (40 * (b - 2) + 17) (spec_genMatch_L0 (intsC V) t (b : Int) (decsC D) (pmsC R) c0 c1 c2 d (intsC (consL D d)) [[.int o0, .int n0, .sl 3 l0]] 0 (Qr ns p)) := by
  have hm : d ∈ ([0, 1, 2, 3, 4] : List Int) := by
    rcases (by omega : d = 0 ∨ d = 1 ∨ d = 2 ∨ d = 3 ∨ d = 4) with rfl | rfl | rfl | rfl | rfl <;> simp
  obtain ⟨gl, gc⟩ := good_cf D hD d hm
  obtain ⟨n, hn⟩ : ∃ n, n = (consL D d).length := ⟨_, rfl⟩
  obtain ⟨e, he⟩ : ∃ e, e = (b - 2) / (consL D d).length := ⟨_, rfl⟩
  have hdb : n * e ≤ b - 2 := by rw [hn, he]; exact Nat.mul_div_le _ _
  obtain ⟨C, hC⟩ : ∃ C, C = 100 * e + 16 := ⟨_, rfl⟩
  obtain ⟨M, hM⟩ : ∃ M, M = 40 * e + 4 := ⟨_, rfl⟩
  have hd1 : e ≤ b - 2 := by rw [he]; exact Nat.div_le_self _ _
  have hnC : n * C ≤ 100 * (b - 2) + 48 := by
    rcases (by omega : n = 0 ∨ n = 1 ∨ n = 2 ∨ n = 3) with h | h | h | h <;> rw [h] at hdb ⊢ <;> omega
  have hnM : n * M ≤ 40 * (b - 2) + 12 := by
    rcases (by omega : n = 0 ∨ n = 1 ∨ n = 2 ∨ n = 3) with h | h | h | h <;> rw [h] at hdb ⊢ <;> omega
  have key : ∀ m k : Nat, k + m = (consL D d).length → ∀ (acc : List (List AC)) (p' : Nat), KidsOk acc → acc.length = k + 1 → acc.length + rsS acc ≤ 4 + k * M → p' ≤ p + k * C → ∃ (o x : Int) (kids : List (List AC)) (p2 : Nat), spec_genMatch_L0 (intsC V) t (b : Int) (decsC D) (pmsC R) c0 c1 c2 d (intsC (consL D d)) acc (k : Int) (Qr ns p') = some (.v (.agg [.int o, .int x, .sl 3 kids]), Qr ns p2) ∧ p2 ≤ p + n * C ∧ Fit .expr [.int o, .int x, .sl 3 kids] ∧ kids.length + rsS kids ≤ 4 + n * M := by
    intro m
    induction m with
    | zero =>
      intro k hk acc p' ha hal hs hp'
      have hkn : k = n := by omega
      subst hkn
      exact ⟨8, d, acc, p', spec_genMatch_L0_le (bifF (decide_eq_false (by rw [intsC_len]; omega)) (callExpr (s_node _ _ _) rfl)), hp', fit_node (by omega) (by omega) (by omega) ha, hs⟩
    | succ m ih =>
      intro k hk acc p' ha hal hs hp'
      have hlt : k < (consL D d).length := by omega
      obtain ⟨q1, q2, q3⟩ := gc _ (List.getElem_mem hlt)
      have hkC : (k + 1) * C ≤ n * C := Nat.mul_le_mul_right _ (by omega)
      have hkC' : (k + 1) * C = k * C + C := Nat.succ_mul _ _
      have hkM' : (k + 1) * M = k * M + M := Nat.succ_mul _ _
      have hcC := (cC_le e).1
      have hcM := (cM_le e).1
      obtain ⟨o, x, l, p1, h1, h2, h3, h4⟩ := hG e (by omega) (V ++ cf D (consL D d)[k]) t p' (by rw [List.length_append]; omega) ht (by omega)
      have hsz := kids_size (kids := acc) (o := o) (n := x) (l := l)
      have hlen : (acc ++ [[AC.int o, .int x, .sl 3 l]]).length = k + 1 + 1 := by simp; omega
      obtain ⟨o2, x2, kids, p2, g1, g2, g3, g4⟩ := ih (k + 1) (by omega) (acc ++ [[.int o, .int x, .sl 3 l]]) p1 (kids_snoc ha h3) hlen (by omega) (by omega)
      refine ⟨o2, x2, kids, p2, spec_genMatch_L0_le (bifT (decide_eq_true (by rw [intsC_len]; omega)) (atNum hlt (callS (s_cf (good_dv hD) _) (callS (s_extM _ _ (by omega)) ?_)))), g2, g3, g4⟩
      rw [intsC_len, show wrapI ((b : Int) - 2) = ((b - 2 : Nat) : Int) by rw [wr (by omega) (by omega)]; omega]
      refine quoTo (n := e) (by omega) (by omega) (by omega) (by rw [he]; rfl) (callTE h1 (appTo (by simp; omega) ?_))
      rw [wrk (by unfold maxI; omega)]
      exact g1
  obtain ⟨o, x, kids, p2, h1, h2, h3, h4⟩ := key (consL D d).length 0 (by omega) [[.int o0, .int n0, .sl 3 l0]] p (fun b hb => by simp only [List.mem_singleton] at hb; rw [hb]; exact h0) rfl (by
    rw [rsS_cons, rsS_nil, cS_ex]
    simp
    omega) (by omega)
  exact ⟨o, x, kids, p2, h1, by omega, h3, by omega⟩
theorem t_genMatch {b : Nat} (hb : 3 ≤ b) (hb2 : b ≤ 1000) (hG : ∀ b', b' < b → Gen ns D R b') {V : List Int} (hV : V.length + 3 * b ≤ 1000000) {t : Int} (ht : 0 ≤ t ∧ t ≤ 4)
    {p : Nat} (hp : p + 100 * b + 40 ≤ 800000) : EG ns p (100 * (b - 2) + 65) (40 * (b - 2) + 17) (spec_genMatch (Qr ns p) [pgC D R, .cell (.sl 1 (intsC V)), .cell (.int t), .cell (.int (b : Int))]) := by
  obtain ⟨d, hd, h1⟩ := t_one hns (p := p) (by omega) (xs := [1, 1, 3, 4]) (by simp) (by simp)
  have hd4 : 0 ≤ d ∧ d ≤ 4 := by
    simp only [List.mem_cons, List.not_mem_nil, or_false] at hd
    omega
  have fin : ∀ (u : Int) (hu : 0 ≤ u ∧ u ≤ 4), ∃ (o n : Int) (l : List (List AC)) (p1 : Nat), spec_leaf (Qr ns (p + 1)) [pgC D R, .cell (.sl 1 (intsC V)), .cell (.int u)] = some (.v (.agg [.int o, .int n, .sl 3 l]), Qr ns p1) ∧ ∃ (o2 n2 : Int) (l2 : List (List AC)) (p2 : Nat), spec_genMatch_L0 (intsC V) t (b : Int) (decsC D) (pmsC R) 0 0 [] u (intsC (consL D u)) [[.int o, .int n, .sl 3 l]] 0 (Qr ns p1) = some (.v (.agg [.int o2, .int n2, .sl 3 l2]), Qr ns p2) ∧ p2 ≤ p + (100 * (b - 2) + 65) ∧ Fit .expr [.int o2, .int n2, .sl 3 l2] ∧ 1 + l2.length + rsS l2 ≤ 40 * (b - 2) + 17 := fun u hu => by
    obtain ⟨o, n, l, p1, g1, g2, g3, g4⟩ := t_leaf hns hD hR (V := V) (by omega) hu (p := p + 1) (by omega)
    obtain ⟨o2, n2, l2, p2, k1, k2, k3, k4⟩ := t_genMatch_L0 hns hD hR hb hb2 hG hV ht hu (c0 := 0) (c1 := 0) (c2 := []) g3 g4 (p := p1) (by omega)
    exact ⟨o, n, l, p1, g1, o2, n2, l2, p2, k1, by omega, k3, k4⟩
  have hdv := good_dv hD
  by_cases hl : d > (((decsC D).length : Nat) : Int)
  · obtain ⟨o, n, l, p1, g1, o2, n2, l2, p2, k1, k2, k3, k4⟩ := fin 1 (by omega)
    exact ⟨o2, n2, l2, p2, spec_genMatch_le (callTI h1 (bifT (decide_eq_true hl) (callS (s_consL hdv 1) (callTE g1 k1)))), k2, k3, k4⟩
  · rcases ha : isAr D d with _ | _
    · obtain ⟨o, n, l, p1, g1, o2, n2, l2, p2, k1, k2, k3, k4⟩ := fin d hd4
      exact ⟨o2, n2, l2, p2, spec_genMatch_le (callTI h1 (bifF (decide_eq_false hl) (callB (s_isArrow (by have := hdv.len; omega) d) (bifF ha (callS (s_consL hdv d) (callTE g1 k1)))))), k2, k3, k4⟩
    · obtain ⟨o, n, l, p1, g1, o2, n2, l2, p2, k1, k2, k3, k4⟩ := fin 1 (by omega)
      exact ⟨o2, n2, l2, p2, spec_genMatch_le (callTI h1 (bifF (decide_eq_false hl) (callB (s_isArrow (by have := hdv.len; omega) d) (bifT ha (callS (s_consL hdv 1) (callTE g1 k1)))))), k2, k3, k4⟩
theorem t_genOther_L0 {b : Nat} (hb : 3 ≤ b) (hb2 : b ≤ 1000) (hG : ∀ b', b' < b → Gen ns D R b') {V : List Int} (hV : V.length + 3 * b ≤ 1000000) {t : Int} (ht : 0 ≤ t ∧ t ≤ 4) {c0 c1 : Int} {c2 : List (List AC)} :
    ∀ m a : Nat, a + m = D.length + 1 → 1 ≤ a → ∀ p : Nat, p + 100 * b + 50 ≤ 800000 → EG ns p (100 * b - 40) (40 * b - 20) (spec_genOther_L0 (intsC V) t (b : Int) (decsC D) (pmsC R) c0 c1 c2 (a : Int) (Qr ns p)) := by
  have hm : t ∈ ([0, 1, 2, 3, 4] : List Int) := by
    rcases (by omega : t = 0 ∨ t = 1 ∨ t = 2 ∨ t = 3 ∨ t = 4) with rfl | rfl | rfl | rfl | rfl <;> simp
  obtain ⟨gl, gc⟩ := good_cf D hD t hm
  have hdv := good_dv hD
  have hb1 : wrapI ((b : Int) - 1) = ((b - 1 : Nat) : Int) := by rw [wr (by omega) (by omega)]; omega
  have h4 := hdv.len
  intro m
  induction m with
  | zero =>
    intro a ha ha1 p hp
    have hend : decide ((a : Int) ≤ (((decsC D).length : Nat) : Int)) = false := decide_eq_false (by rw [decsC_len]; omega)
    by_cases hz : 0 < (consL D t).length
    · obtain ⟨x, hx, h1⟩ := t_pick hns (p := p) (by omega) (m := (consL D t).length) hz
      obtain ⟨q1, q2, q3⟩ := gc _ (List.getElem_mem hx)
      obtain ⟨kids, p', g1, g2, g3, g4, g5⟩ := t_genAll hns hD hR q2 q3 (B := b - 1) (by omega) (fun h0 => hG _ (by have := Nat.div_le_self (b - 1) (cf D (consL D t)[x]).length; omega)) (V := V) (by omega) (p := p + 1) (by omega)
      refine ⟨6, (consL D t)[x], kids, p', spec_genOther_L0_le (bifF hend (callS (s_consL hdv t) (bifT (decide_eq_true (by rw [intsC_len]; omega)) ?_))), by omega, fit_node (by omega) (by omega) (by omega) g3, by omega⟩
      rw [intsC_len, hb1]
      exact callTI h1 (atNum hx (callS (s_cf hdv _) (callTS g1 (callExpr (s_node _ _ _) rfl))))
    · by_cases ht0 : t > 0
      · obtain ⟨o, n, l, p', g1, g2, g3, g4⟩ := t_leaf hns hD hR (V := V) (by omega) ht (p := p) (by omega)
        exact ⟨o, n, l, p', spec_genOther_L0_le (bifF hend (callS (s_consL hdv t) (bifF (decide_eq_false (by rw [intsC_len]; omega)) (bifT (decide_eq_true ht0) (callTE g1 rfl))))), by omega, g3, by omega⟩
      · obtain ⟨x, hx, h1⟩ := t_pick hns (p := p) (by omega) (m := 3) (by omega)
        by_cases hx0 : x = 0
        · subst hx0
          obtain ⟨kids, p', g1, g2, g3, g4, g5⟩ := t_genAll hns hD hR (T := [0]) (by simp) (fun u hu => by simp at hu; omega) (B := b - 1) (by omega) (fun h0 => hG _ (by simp; omega)) (V := V) (by omega) (p := p + 1) (by omega)
          refine ⟨5, 0, kids, p', spec_genOther_L0_le (bifF hend (callS (s_consL hdv t) (bifF (decide_eq_false (by rw [intsC_len]; omega)) (bifF (decide_eq_false ht0) (callTI h1 (bifT rfl ?_)))))), by omega, fit_node (by omega) (by omega) (by rw [g5]; simp) g3, by omega⟩
          rw [hb1]
          exact callTS g1 (callExpr (s_node _ _ _) rfl)
        · obtain ⟨op, hop, h2⟩ := t_one hns (p := p + 1) (by omega) (xs := [1, 2, 3, 4]) (by simp) (by simp)
          have hop4 : 1 ≤ op ∧ op ≤ 4 := by
            simp only [List.mem_cons, List.not_mem_nil, or_false] at hop
            omega
          obtain ⟨kids, p', g1, g2, g3, g4, g5⟩ := t_genAll hns hD hR (T := [0, 0]) (by simp) (fun u hu => by simp at hu; omega) (B := b - 1) (by omega) (fun h0 => hG _ (by simp; omega)) (V := V) (by omega) (p := p + 1 + 1) (by omega)
          refine ⟨op, 0, kids, p', spec_genOther_L0_le (bifF hend (callS (s_consL hdv t) (bifF (decide_eq_false (by rw [intsC_len]; omega)) (bifF (decide_eq_false ht0) (callTI h1 (bifF (by rw [beq_eq_false_iff_ne]; omega) (callTI h2 ?_))))))), by omega, fit_node (by omega) (by omega) (by rw [g5]; simp) g3, by omega⟩
          rw [hb1]
          exact callTS g1 (callExpr (s_node _ _ _) rfl)
  | succ m ih =>
    intro a ha ha1 p hp
    have hlt : a - 1 < D.length := by omega
    have hgo : decide ((a : Int) ≤ (((decsC D).length : Nat) : Int)) = true := decide_eq_true (by rw [decsC_len]; omega)
    have hnext := ih (a + 1) (by omega) (by omega) p hp
    rw [← wrk (by unfold maxI; omega)] at hnext
    have hw : wrapI ((a : Int) - 1) = ((a - 1 : Nat) : Int) := by rw [wr (by omega) (by omega)]; omega
    rcases hA : isAr D (a : Int) with _ | _
    · exact EG.same hnext (Nat.le_refl _) (Nat.le_refl _) fun o n kids q h => spec_genOther_L0_le (bifT hgo (callB (s_isArrow (by omega) _) (bifF hA h)))
    · by_cases hto : (gD D (a - 1)).t = t
      · obtain ⟨c, hc⟩ := t_canMake (good_len hD) hR (V := V) (by omega) (a : Int)
        cases c with
        | false => exact EG.same hnext (Nat.le_refl _) (Nat.le_refl _) fun o n kids q h => spec_genOther_L0_le (bifT hgo (callB (s_isArrow (by omega) _) (bifT hA (atDecI hw hlt (bifT (by rw [beq_iff_eq]; exact hto) (callB hc (bifF rfl h)))))))
        | true =>
          obtain ⟨o, n, l, p1, g1, g2, g3, g4⟩ := t_leaf hns hD hR (V := V) (by omega) (t := (a : Int)) (by omega) (p := p) (by omega)
          have hcC := (cC_le (b - 2)).1
          have hcM := (cM_le (b - 2)).1
          obtain ⟨o2, n2, l2, p2, k1, k2, k3, k4⟩ := hG (b - 2) (by omega) V (gD D (a - 1)).f p1 (by omega) (good_arr D hD (a - 1) hlt) (by omega)
          rw [show ((b - 2 : Nat) : Int) = wrapI ((b : Int) - 2) by rw [wr (by omega) (by omega)]; omega] at k1
          refine ⟨11, 0, [[.int o, .int n, .sl 3 l], [.int o2, .int n2, .sl 3 l2]], p2, spec_genOther_L0_le (bifT hgo (callB (s_isArrow (by omega) _) (bifT hA (atDecI hw hlt (bifT (by rw [beq_iff_eq]; exact hto) (callB hc (bifT rfl (callTE g1 (atDecI hw hlt (callTE k1 (callExpr (s_node _ _ _) rfl))))))))))), by omega, fit_node (by omega) (by omega) (by simp) (fun x hx => ?_), ?_⟩
          · simp only [List.mem_cons, List.not_mem_nil, or_false] at hx
            rcases hx with rfl | rfl
            · exact g3
            · exact k3
          · rw [rsS_cons, rsS_cons, rsS_nil, cS_ex, cS_ex]
            simp
            omega
      · exact EG.same hnext (Nat.le_refl _) (Nat.le_refl _) fun o n kids q h => spec_genOther_L0_le (bifT hgo (callB (s_isArrow (by omega) _) (bifT hA (atDecI hw hlt (bifF (by rw [beq_eq_false_iff_ne]; exact hto) h)))))
theorem t_genOther {b : Nat} (hb : 3 ≤ b) (hb2 : b ≤ 1000) (hG : ∀ b', b' < b → Gen ns D R b') {V : List Int} (hV : V.length + 3 * b ≤ 1000000) {t : Int} (ht : 0 ≤ t ∧ t ≤ 4) {p : Nat} (hp : p + 100 * b + 60 ≤ 800000) : EG ns p (100 * b - 39) (40 * b - 20) (spec_genOther (Qr ns p) [pgC D R, .cell (.sl 1 (intsC V)), .cell (.int t), .cell (.int (b : Int))]) := by
  obtain ⟨y, hy, h0⟩ := t_pick hns (p := p) (by omega) (m := 4) (by omega)
  by_cases hy0 : y = 0
  · subst hy0
    exact EG.same (t_genOther_L0 hns hD hR hb hb2 hG hV ht (c0 := 0) (c1 := 0) (c2 := []) D.length 1 (by omega) (by omega) (p + 1) (by omega)) (by omega) (Nat.le_refl _) fun o n kids q h => spec_genOther_le (callTI h0 (bifT rfl h))
  have hne : (((y : Nat) : Int) == 0) = false := by rw [beq_eq_false_iff_ne]; omega
  have hm : t ∈ ([0, 1, 2, 3, 4] : List Int) := by
    rcases (by omega : t = 0 ∨ t = 1 ∨ t = 2 ∨ t = 3 ∨ t = 4) with rfl | rfl | rfl | rfl | rfl <;> simp
  obtain ⟨gl, gc⟩ := good_cf D hD t hm
  have hdv := good_dv hD
  have hb1 : wrapI ((b : Int) - 1) = ((b - 1 : Nat) : Int) := by rw [wr (by omega) (by omega)]; omega
  by_cases hz : 0 < (consL D t).length
  · obtain ⟨x, hx, h1⟩ := t_pick hns (p := p + 1) (by omega) (m := (consL D t).length) hz
    obtain ⟨q1, q2, q3⟩ := gc _ (List.getElem_mem hx)
    obtain ⟨kids, p', g1, g2, g3, g4, g5⟩ := t_genAll hns hD hR q2 q3 (B := b - 1) (by omega) (fun h0 => hG _ (by have := Nat.div_le_self (b - 1) (cf D (consL D t)[x]).length; omega)) (V := V) (by omega) (p := p + 1 + 1) (by omega)
    refine ⟨6, (consL D t)[x], kids, p', spec_genOther_le (callTI h0 (bifF hne (callS (s_consL hdv t) (bifT (decide_eq_true (by rw [intsC_len]; omega)) ?_)))), by omega, fit_node (by omega) (by omega) (by omega) g3, by omega⟩
    rw [intsC_len, hb1]
    exact callTI h1 (atNum hx (callS (s_cf hdv _) (callTS g1 (callExpr (s_node _ _ _) rfl))))
  · by_cases ht0 : t > 0
    · obtain ⟨o, n, l, p', g1, g2, g3, g4⟩ := t_leaf hns hD hR (V := V) (by omega) ht (p := p + 1) (by omega)
      exact ⟨o, n, l, p', spec_genOther_le (callTI h0 (bifF hne (callS (s_consL hdv t) (bifF (decide_eq_false (by rw [intsC_len]; omega)) (bifT (decide_eq_true ht0) (callTE g1 rfl)))))), by omega, g3, by omega⟩
    · obtain ⟨x, hx, h1⟩ := t_pick hns (p := p + 1) (by omega) (m := 3) (by omega)
      by_cases hx0 : x = 0
      · subst hx0
        obtain ⟨kids, p', g1, g2, g3, g4, g5⟩ := t_genAll hns hD hR (T := [0]) (by simp) (fun u hu => by simp at hu; omega) (B := b - 1) (by omega) (fun h0 => hG _ (by simp; omega)) (V := V) (by omega) (p := p + 1 + 1) (by omega)
        refine ⟨5, 0, kids, p', spec_genOther_le (callTI h0 (bifF hne (callS (s_consL hdv t) (bifF (decide_eq_false (by rw [intsC_len]; omega)) (bifF (decide_eq_false ht0) (callTI h1 (bifT rfl ?_))))))), by omega, fit_node (by omega) (by omega) (by rw [g5]; simp) g3, by omega⟩
        rw [hb1]
        exact callTS g1 (callExpr (s_node _ _ _) rfl)
      · obtain ⟨op, hop, h2⟩ := t_one hns (p := p + 1 + 1) (by omega) (xs := [1, 2, 3, 4]) (by simp) (by simp)
        have hop4 : 1 ≤ op ∧ op ≤ 4 := by
          simp only [List.mem_cons, List.not_mem_nil, or_false] at hop
          omega
        obtain ⟨kids, p', g1, g2, g3, g4, g5⟩ := t_genAll hns hD hR (T := [0, 0]) (by simp) (fun u hu => by simp at hu; omega) (B := b - 1) (by omega) (fun h0 => hG _ (by simp; omega)) (V := V) (by omega) (p := p + 1 + 1 + 1) (by omega)
        refine ⟨op, 0, kids, p', spec_genOther_le (callTI h0 (bifF hne (callS (s_consL hdv t) (bifF (decide_eq_false (by rw [intsC_len]; omega)) (bifF (decide_eq_false ht0) (callTI h1 (bifF (by rw [beq_eq_false_iff_ne]; omega) (callTI h2 ?_)))))))), by omega, fit_node (by omega) (by omega) (by rw [g5]; simp) g3, by omega⟩
        rw [hb1]
        exact callTS g1 (callExpr (s_node _ _ _) rfl)
theorem t_gen : ∀ b : Nat, b ≤ 1000 → Gen ns D R b := by
  intro b
  induction b using Nat.strongRecOn with
  | ind b ih =>
  intro hb2 V t p hV ht hp
  have hG : ∀ b', b' < b → Gen ns D R b' := fun b' h => ih b' h (by omega)
  by_cases hb3 : b < 3
  · exact EG.same (t_leaf hns hD hR (V := V) (by omega) ht (p := p) (by omega)) (by have := cC_le b; omega) (by have := cM_le b; omega) fun o n kids q h => spec_gen_le (bifT (decide_eq_true (by omega)) (callTE h rfl))
  have hb3 : 3 ≤ b := by omega
  have hlt : decide ((b : Int) < 3) = false := decide_eq_false (by omega)
  rw [(cC_le b).2.1 hb3, (cM_le b).2.1 hb3]
  have hc2 := cC_le (b / 2)
  have hm2 := cM_le (b / 2)
  have hb1 : wrapI ((b : Int) - 1) = ((b - 1 : Nat) : Int) := by rw [wr (by omega) (by omega)]; omega
  obtain ⟨x, hx, h1⟩ := t_pick hns (p := p) (by omega) (m := 12) (by omega)
  rcases (by omega : x = 0 ∨ x = 1 ∨ x = 2 ∨ x = 3 ∨ x = 4 ∨ x = 5 ∨ x = 6 ∨ x = 7 ∨ x = 8 ∨ x = 9 ∨ x = 10 ∨ x = 11) with rfl | rfl | rfl | rfl | rfl | rfl | rfl | rfl | rfl | rfl | rfl | rfl
  · exact EG.same (t_leaf hns hD hR (V := V) (by omega) ht (p := p + 1) (by omega)) (by omega) (by omega) fun o n kids q h => spec_gen_le (bifF hlt (callTI h1 (bifT rfl (callTE h rfl))))
  · obtain ⟨u, hu, h2⟩ := t_anyType (good_len hD) hR (V := V) (by omega) hns (p := p + 1) (by omega)
    obtain ⟨o, n, l, p1, g1, g2, g3, g4⟩ := hG (b / 2) (by omega) V u (p + 1 + 1) (by omega) hu (by omega)
    obtain ⟨o2, n2, l2, p2, k1, k2, k3, k4⟩ := hG (b / 2) (by omega) (V ++ [u]) t p1 (by rw [List.length_append]; simp; omega) ht (by omega)
    refine ⟨13, 0, [[.int o, .int n, .sl 3 l], [.int o2, .int n2, .sl 3 l2]], p2, spec_gen_le (bifF hlt (callTI h1 (bifF rfl (bifT rfl (bifT rfl (callTI h2 (quoTo (n := b / 2) (by omega) (by omega) (by omega) rfl (callTE g1 (callS (s_extM V [u] (by simp; omega)) (quoTo (n := b / 2) (by omega) (by omega) (by omega) rfl (callTE k1 (callExpr (s_node _ _ _) rfl)))))))))))), by omega, fit_node (by omega) (by omega) (by simp) (fun x hx => ?_), ?_⟩
    · simp only [List.mem_cons, List.not_mem_nil, or_false] at hx
      rcases hx with rfl | rfl
      · exact g3
      · exact k3
    · rw [rsS_cons, rsS_cons, rsS_nil, cS_ex, cS_ex]
      simp
      omega
  · obtain ⟨u, hu, h2⟩ := t_anyType (good_len hD) hR (V := V) (by omega) hns (p := p + 1) (by omega)
    obtain ⟨o, n, l, p1, g1, g2, g3, g4⟩ := hG (b / 2) (by omega) V u (p + 1 + 1) (by omega) hu (by omega)
    obtain ⟨o2, n2, l2, p2, k1, k2, k3, k4⟩ := hG (b / 2) (by omega) (V ++ [u]) t p1 (by rw [List.length_append]; simp; omega) ht (by omega)
    refine ⟨13, 0, [[.int o, .int n, .sl 3 l], [.int o2, .int n2, .sl 3 l2]], p2, spec_gen_le (bifF hlt (callTI h1 (bifF rfl (bifF rfl (bifT rfl (callTI h2 (quoTo (n := b / 2) (by omega) (by omega) (by omega) rfl (callTE g1 (callS (s_extM V [u] (by simp; omega)) (quoTo (n := b / 2) (by omega) (by omega) (by omega) rfl (callTE k1 (callExpr (s_node _ _ _) rfl)))))))))))), by omega, fit_node (by omega) (by omega) (by simp) (fun x hx => ?_), ?_⟩
    · simp only [List.mem_cons, List.not_mem_nil, or_false] at hx
      rcases hx with rfl | rfl
      · exact g3
      · exact k3
    · rw [rsS_cons, rsS_cons, rsS_nil, cS_ex, cS_ex]
      simp
      omega
  · obtain ⟨kids, p', g1, g2, g3, g4, g5⟩ := t_genAll hns hD hR (T := [0, t, t]) (by simp) (fun u hu => by simp at hu; omega) (B := b - 1) (by omega) (fun h0 => hG _ (by simp; omega)) (V := V) (by omega) (p := p + 1) (by omega)
    refine ⟨7, 0, kids, p', spec_gen_le (bifF hlt (callTI h1 (bifF rfl (bifF rfl (bifF rfl (bifT rfl ?_)))))), by omega, fit_node (by omega) (by omega) (by rw [g5]; simp) g3, by omega⟩
    rw [hb1]
    exact callTS g1 (callExpr (s_node _ _ _) rfl)
  · exact EG.same (t_genMatch hns hD hR hb3 hb2 hG hV ht (p := p + 1) (by omega)) (by omega) (by omega) fun o n kids q h => spec_gen_le (bifF hlt (callTI h1 (bifF rfl (bifF rfl (bifF rfl (bifF rfl (bifT rfl (bifT rfl (callTE h rfl)))))))))
  · exact EG.same (t_genMatch hns hD hR hb3 hb2 hG hV ht (p := p + 1) (by omega)) (by omega) (by omega) fun o n kids q h => spec_gen_le (bifF hlt (callTI h1 (bifF rfl (bifF rfl (bifF rfl (bifF rfl (bifF rfl (bifT rfl (bifT rfl (callTE h rfl))))))))))
  · exact EG.same (t_genMatch hns hD hR hb3 hb2 hG hV ht (p := p + 1) (by omega)) (by omega) (by omega) fun o n kids q h => spec_gen_le (bifF hlt (callTI h1 (bifF rfl (bifF rfl (bifF rfl (bifF rfl (bifF rfl (bifF rfl (bifT rfl (callTE h rfl))))))))))
  · obtain ⟨fs, h2, h3, h5⟩ := t_callable (good_len hD) hR t
    by_cases hz : 0 < fs.length
    · obtain ⟨y, hy, h6⟩ := t_pick hns (p := p + 1) (by omega) (m := fs.length) hz
      obtain ⟨k, hk, hfk⟩ := h5 _ (List.getElem_mem hy)
      obtain ⟨s1, s2, s3⟩ := hR.small hk
      have hk4 := hR.len
      obtain ⟨kids, p', g1, g2, g3, g4, g5⟩ := t_genAll hns hD hR s1 (fun u hu => by have := s3 u hu; omega) (B := b - 1) (by omega) (fun h0 => hG _ (by have := Nat.div_le_self (b - 1) (gP R k).ps.length; omega)) (V := V) (by omega) (p := p + 1 + 1) (by omega)
      refine ⟨9, (k : Int), kids, p', spec_gen_le (bifF hlt (callTI h1 (bifF rfl (bifF rfl (bifF rfl (bifF rfl (bifF rfl (bifF rfl (bifF rfl (bifT rfl (bifT rfl (callS h2 (bifT (decide_eq_true (by rw [intsC_len]; omega)) ?_))))))))))))), by omega, fit_node (by omega) (by omega) (by omega) g3, by omega⟩
      rw [intsC_len, hb1]
      refine callTI h6 (atNum hy ?_)
      rw [hfk]
      exact atPmI rfl hk (callTS g1 (callExpr (s_node _ _ _) rfl))
    · exact EG.same (t_genOther hns hD hR hb3 hb2 hG hV ht (p := p + 1) (by omega)) (by omega) (by omega) fun o n kids q h => spec_gen_le (bifF hlt (callTI h1 (bifF rfl (bifF rfl (bifF rfl (bifF rfl (bifF rfl (bifF rfl (bifF rfl (bifT rfl (bifT rfl (callS h2 (bifF (decide_eq_false (by rw [intsC_len]; omega)) (callTE h rfl))))))))))))))
  · obtain ⟨fs, h2, h3, h5⟩ := t_callable (good_len hD) hR t
    by_cases hz : 0 < fs.length
    · obtain ⟨y, hy, h6⟩ := t_pick hns (p := p + 1) (by omega) (m := fs.length) hz
      obtain ⟨k, hk, hfk⟩ := h5 _ (List.getElem_mem hy)
      obtain ⟨s1, s2, s3⟩ := hR.small hk
      have hk4 := hR.len
      obtain ⟨kids, p', g1, g2, g3, g4, g5⟩ := t_genAll hns hD hR s1 (fun u hu => by have := s3 u hu; omega) (B := b - 1) (by omega) (fun h0 => hG _ (by have := Nat.div_le_self (b - 1) (gP R k).ps.length; omega)) (V := V) (by omega) (p := p + 1 + 1) (by omega)
      refine ⟨9, (k : Int), kids, p', spec_gen_le (bifF hlt (callTI h1 (bifF rfl (bifF rfl (bifF rfl (bifF rfl (bifF rfl (bifF rfl (bifF rfl (bifF rfl (bifT rfl (callS h2 (bifT (decide_eq_true (by rw [intsC_len]; omega)) ?_))))))))))))), by omega, fit_node (by omega) (by omega) (by omega) g3, by omega⟩
      rw [intsC_len, hb1]
      refine callTI h6 (atNum hy ?_)
      rw [hfk]
      exact atPmI rfl hk (callTS g1 (callExpr (s_node _ _ _) rfl))
    · exact EG.same (t_genOther hns hD hR hb3 hb2 hG hV ht (p := p + 1) (by omega)) (by omega) (by omega) fun o n kids q h => spec_gen_le (bifF hlt (callTI h1 (bifF rfl (bifF rfl (bifF rfl (bifF rfl (bifF rfl (bifF rfl (bifF rfl (bifF rfl (bifT rfl (callS h2 (bifF (decide_eq_false (by rw [intsC_len]; omega)) (callTE h rfl))))))))))))))
  · exact EG.same (t_genOther hns hD hR hb3 hb2 hG hV ht (p := p + 1) (by omega)) (by omega) (by omega) fun o n kids q h => spec_gen_le (bifF hlt (callTI h1 (bifF rfl (bifF rfl (bifF rfl (bifF rfl (bifF rfl (bifF rfl (bifF rfl (bifF rfl (bifF rfl (callTE h rfl))))))))))))
  · exact EG.same (t_genOther hns hD hR hb3 hb2 hG hV ht (p := p + 1) (by omega)) (by omega) (by omega) fun o n kids q h => spec_gen_le (bifF hlt (callTI h1 (bifF rfl (bifF rfl (bifF rfl (bifF rfl (bifF rfl (bifF rfl (bifF rfl (bifF rfl (bifF rfl (callTE h rfl))))))))))))
  · exact EG.same (t_genOther hns hD hR hb3 hb2 hG hV ht (p := p + 1) (by omega)) (by omega) (by omega) fun o n kids q h => spec_gen_le (bifF hlt (callTI h1 (bifF rfl (bifF rfl (bifF rfl (bifF rfl (bifF rfl (bifF rfl (bifF rfl (bifF rfl (bifF rfl (callTE h rfl))))))))))))
end
end Go.Proofs.Ytbodfaghedolbaa
