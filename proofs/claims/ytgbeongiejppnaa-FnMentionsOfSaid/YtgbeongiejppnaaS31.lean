/- Generic texts and models for the proofs of this seat: part 31. -/
import Derived.Test.YtgbeongiejppnaaS30
set_option linter.unusedVariables false
set_option linter.unusedSimpArgs false
namespace Go.Proofs.Ytgbeongiejppnaa
open Go
def Qr (ns : List Nat) (p : Nat) : List AC := [.sl 1 (ns.map fun (u : Nat) => [.bool true, .int (u : Int)]), .int (p : Int)]
section
variable {ρ : Type} {r : ρ}
theorem callTI {x : Option (AV × List AC)} {n : Int} {q : List AC} (h : x = some (.v (.cell (.int n)), q)) {K : List AC → Fn (Option ρ) (shapesOf [(false, [.int 0])])} (h2 : (K q : Int → Option ρ) n = some r) : callRT x false [(false, [.int 0])] K = some r := by rw [h]; exact h2
theorem callTE {x : Option (AV × List AC)} {o n : Int} {l : List (List AC)} {q : List AC} (h : x = some (.v (.agg [.int o, .int n, .sl 3 l]), q)) {K : List AC → Fn (Option ρ) (shapesOf [(true, [.int 0, .int 0, .sl 3 []])])} (h2 : (K q : Int → Int → List (List AC) → Option ρ) o n l = some r) : callRT x false [(true, [.int 0, .int 0, .sl 3 []])] K = some r := by rw [h]; exact h2
theorem callTS {x : Option (AV × List AC)} {k : Nat} {l : List (List AC)} {q : List AC} (h : x = some (.v (.cell (.sl k l)), q)) {K : List AC → Fn (Option ρ) (shapesOf [(false, [.sl k []])])} (h2 : (K q : List (List AC) → Option ρ) l = some r) : callRT x false [(false, [.sl k []])] K = some r := by
  rw [h]
  exact callS rfl h2
theorem quoTo {a b : Int} {n : Nat} (ha : 0 ≤ a) (hb : 0 < b) (hle : a ≤ 9223372036854775807) (h : a / b = (n : Int)) {K : Int → Option ρ} (h2 : K (n : Int) = some r) : quoR a b K = some r := by
  unfold quoR
  rw [show (b == 0) = false by rw [beq_eq_false_iff_ne]; omega, Int.tdiv_eq_ediv_of_nonneg ha, h]
  have : a / b ≤ a := Int.ediv_le_self _ ha
  rw [wr (by omega) (by omega)]
  exact h2
end
theorem t_pick {ns : List Nat} (hns : ns.length ≤ 2000) {p : Nat} (hp : p ≤ 1000000) {m : Nat} (hm : 1 ≤ m) : ∃ x : Nat, x < m ∧ spec_reader_pick (Qr ns p) [.cell (.int (m : Int))] = some (.v (.cell (.int (x : Int))), Qr ns (p + 1)) := by
  have hrun : pickRun (Qr ns p) [.cell (.int (m : Int))] = some (.v (.cell (.int (pickN ns p m))), Qr ns (p + 1)) := by
    unfold Qr pickRun
    simp only [bytesOf_map, Option.bind_some]
    rw [if_pos ⟨by omega, by omega, hns⟩]
    simp
  have hrange : ∃ x : Nat, x < m ∧ pickN ns p m = (x : Int) := by
    unfold pickN
    split
    · exact ⟨0, by omega, rfl⟩
    · split
      · have h1 := Int.emod_nonneg ((ns.getD p 0 : Nat) : Int) (show (m : Int) ≠ 0 by omega)
        have h2 := Int.emod_lt_of_pos ((ns.getD p 0 : Nat) : Int) (show (0 : Int) < m by omega)
        exact ⟨(((ns.getD p 0 : Nat) : Int) % m).toNat, by omega, by omega⟩
      · generalize bits .xor .i64 _ _ = z
        have h1 := Int.emod_nonneg z (show (m : Int) ≠ 0 by omega)
        have h2 := Int.emod_lt_of_pos z (show (0 : Int) < m by omega)
        exact ⟨(z % m).toNat, by omega, by omega⟩
  obtain ⟨x, hx, e⟩ := hrange
  rw [e] at hrun
  exact ⟨x, hx, TV_ext (by kernel_rfl) (by kernel_rfl : extT 44 = some pickE) hrun⟩
theorem t_one {ns : List Nat} (hns : ns.length ≤ 2000) {p : Nat} (hp : p ≤ 1000000) {xs : List Int} (hx : xs ≠ []) (hl : xs.length ≤ 1000000) : ∃ x ∈ xs, spec_reader_one (Qr ns p) [.cell (.sl 1 (intsC xs))] = some (.v (.cell (.int x)), Qr ns (p + 1)) := by
  have hpos := List.length_pos_iff.2 hx
  obtain ⟨k, hk, h⟩ := t_pick hns hp (m := xs.length) hpos
  refine ⟨xs[k], List.getElem_mem hk, spec_reader_one_le ?_⟩
  rw [intsC_len]
  exact callTI h (atNum hk rfl)
theorem s_node (o n : Int) (l : List (List AC)) : spec_node [.cell (.int o), .cell (.int n), .cell (.sl 3 l)] = some (.v (.agg [.int o, .int n, .sl 3 l])) := spec_node_le rfl
theorem s_integer (n : Int) : spec_integer [.cell (.int n)] = some (.v (.agg [.int 0, .int n, .sl 3 []])) := spec_integer_le rfl
theorem s_variable (n : Int) : spec_variable [.cell (.int n)] = some (.v (.agg [.int 12, .int n, .sl 3 []])) := spec_variable_le rfl
theorem s_con (l : List (List AC)) : spec_con [.cell (.sl 1 l)] = some (.v (.agg [.sl 1 l])) := spec_con_le rfl
theorem t_someInt {ns : List Nat} (hns : ns.length ≤ 2000) {p : Nat} (hp : p + 4 ≤ 1000000) : ∃ x : Int, (-1000 ≤ x ∧ x ≤ 1000) ∧ spec_someInt (Qr ns p) [] = some (.v (.cell (.int x)), Qr ns (p + 4)) := by
  obtain ⟨a, ha, h1⟩ := t_pick hns (p := p) (by omega) (m := 6) (by omega)
  obtain ⟨b, hb, h2⟩ := t_pick hns (p := p + 1) (by omega) (m := 6) (by omega)
  obtain ⟨c, hc, h3⟩ := t_pick hns (p := p + 1 + 1) (by omega) (m := 40) (by omega)
  obtain ⟨x, hx, h4⟩ := t_one hns (p := p + 1 + 1 + 1) (by omega) (xs := [(a : Int), (b : Int), 0, 1, 2, -1, 3, (c : Int), 999, -998]) (by simp) (by simp)
  refine ⟨x, ?_, spec_someInt_le (callTI h1 (callTI h2 (callTI h3 (callTI h4 rfl))))⟩
  simp only [List.mem_cons, List.not_mem_nil, or_false] at hx
  omega
theorem s_isInM (xs : List Int) (n : Int) (hx : xs.length ≤ 1048576) : spec_isIn [.cell (.sl 1 (intsC xs)), .cell (.int n)] = rB (xs.contains n) := by
  have key : ∀ m k : Nat, k + m = xs.length → spec_isIn_L0 (intsC xs) n (k : Int) = some (.v (.cell (.bool ((xs.drop k).contains n)))) := by
    intro m
    induction m with
    | zero =>
      intro k hk
      rw [List.drop_eq_nil_of_le (by omega)]
      exact spec_isIn_L0_le (bifF (decide_eq_false (by rw [intsC_len]; omega)) rfl)
    | succ m ih =>
      intro k hk
      have hlt : k < xs.length := by omega
      have hnext := ih (k + 1) (by omega)
      rw [← wrk (by unfold maxI; omega)] at hnext
      rw [List.drop_eq_getElem_cons hlt, List.contains_cons]
      refine spec_isIn_L0_le (bifT (decide_eq_true (by rw [intsC_len]; omega)) (atNum hlt ?_))
      rcases e : (xs[k] == n) with _ | _
      · rw [show (n == xs[k]) = false by rw [beq_eq_false_iff_ne] at e ⊢; exact fun h => e h.symm, Bool.false_or]
        exact bifF rfl hnext
      · rw [show (n == xs[k]) = true by rw [beq_iff_eq] at e ⊢; exact e.symm, Bool.true_or]
        exact bifT rfl rfl
  exact spec_isIn_le (key xs.length 0 (by omega))
def consL (D : List DM) (t : Int) : List Int := if 1 ≤ t ∧ t ≤ D.length then (List.range (gD D (t.toNat - 1)).cs.length).map fun i => (((sumC (D.take (t.toNat - 1)) + i : Nat)) : Int) else []
theorem s_consL {D : List DM} (hv : DV D) (t : Int) : spec_consOf [.cell (.sl 3 (decsC D)), .cell (.int t)] = rL (consL D t) := by
  have h4 := hv.len
  refine spec_consOf_le (callB (s_inRange _ _ _) ?_)
  rw [decsC_len]
  unfold consL
  by_cases h : 1 ≤ t ∧ t ≤ (D.length : Int)
  rotate_left
  · rw [if_neg h, show (decide (1 ≤ t) && decide (t ≤ (D.length : Int))) = false by rw [← Bool.decide_and]; exact decide_eq_false h]
    exact bifT rfl rfl
  rw [if_pos h, show (decide (1 ≤ t) && decide (t ≤ (D.length : Int))) = true by rw [← Bool.decide_and]; exact decide_eq_true h]
  refine bifF rfl ?_
  have hk : t.toNat - 1 < D.length := by omega
  have h3 := hv.cs _ hk
  have hsum := sumC_le hv.cs (t.toNat - 1) (by omega)
  have key : ∀ m i : Nat, i + m = (gD D (t.toNat - 1)).cs.length → spec_consOf_L0 (decsC D) t (intsC ((List.range i).map fun i => (((sumC (D.take (t.toNat - 1)) + i : Nat)) : Int))) (i : Int) = rL ((List.range (gD D (t.toNat - 1)).cs.length).map fun i => (((sumC (D.take (t.toNat - 1)) + i : Nat)) : Int)) := by
    intro m
    induction m with
    | zero =>
      intro i hi
      refine spec_consOf_L0_le (atDecI (k := t.toNat - 1) (by rw [wr (by omega) (by omega)]; omega) hk ?_)
      rw [consC_len]
      exact bifF (decide_eq_false (by omega)) (by rw [show i = (gD D (t.toNat - 1)).cs.length by omega])
    | succ m ih =>
      intro i hi
      refine spec_consOf_L0_le (atDecI (k := t.toNat - 1) (by rw [wr (by omega) (by omega)]; omega) hk ?_)
      rw [consC_len]
      refine bifT (decide_eq_true (by omega)) ?_
      rw [show wrapI (t - 1) = ((t.toNat - 1 : Nat) : Int) by rw [wr (by omega) (by omega)]; omega]
      refine callI (s_firstCon hv (by omega)) (appTo (by rw [intsC_len]; simp; omega) ?_)
      have hn := ih (i + 1) (by omega)
      rw [List.range_succ, List.map_append] at hn
      rw [wrk (by unfold maxI; omega)]
      rw [show intsC ((List.range i).map fun i => (((sumC (D.take (t.toNat - 1)) + i : Nat)) : Int)) ++ [[AC.int (wrapI (((sumC (D.take (t.toNat - 1)) : Nat) : Int) + (i : Int)))]] = intsC ((List.range i).map (fun i => (((sumC (D.take (t.toNat - 1)) + i : Nat)) : Int)) ++ [i].map (fun i => (((sumC (D.take (t.toNat - 1)) + i : Nat)) : Int))) by
        rw [wr (by omega) (by omega)]
        simp [intsC]]
      exact hn
  exact key (gD D (t.toNat - 1)).cs.length 0 (by omega)
end Go.Proofs.Ytgbeongiejppnaa
namespace Go.Proofs.Ytgbeongiejppnaa
open Go
def decls0 : List DM := [⟨0, 0, [[], [0, 1]]⟩, ⟨0, 0, []⟩, ⟨0, 0, [[], [3, 0, 3]]⟩]
def goodL : List (List DM) := [decls0 ++ [⟨0, 0, [[1, 3]]⟩], decls0 ++ [⟨1, 0, []⟩], decls0 ++ [⟨0, 0, [[1, 1, 0], [0], [3]]⟩], decls0 ++ [⟨0, 1, []⟩], decls0]
theorem good_types : ∀ D ∈ goodL, typesOk D = true := by decide
theorem good_dv {D : List DM} (h : D ∈ goodL) : DV D := dv_of (good_types D h)
theorem good_len {D : List DM} (h : D ∈ goodL) : D.length ≤ 4 := (good_dv h).len
theorem t_goodDecls {ns : List Nat} (hns : ns.length ≤ 2000) {p : Nat} (hp : p ≤ 1000000) : ∃ D ∈ goodL, spec_goodDecls (Qr ns p) [] = some (.v (.cell (.sl 3 (decsC D))), Qr ns (p + 1)) := by
  obtain ⟨x, hx, h1⟩ := t_pick hns hp (m := 5) (by omega)
  rcases (by omega : x = 0 ∨ x = 1 ∨ x = 2 ∨ x = 3 ∨ x = 4) with rfl | rfl | rfl | rfl | rfl
  · exact ⟨decls0 ++ [⟨0, 0, [[1, 3]]⟩], by simp [goodL], spec_goodDecls_le (callCon (s_con _) (callCon (s_con _) (callCon (s_con _) (callCon (s_con _) (callCon (s_con _) (callCon (s_con _) (callCon (s_con _) (callCon (s_con _) (callTI h1 (bifT rfl (atDecl (k := 0) (by decide) rfl (appTo (by decide) rfl))))))))))))⟩
  · exact ⟨decls0 ++ [⟨1, 0, []⟩], by simp [goodL], spec_goodDecls_le (callCon (s_con _) (callCon (s_con _) (callCon (s_con _) (callCon (s_con _) (callCon (s_con _) (callCon (s_con _) (callCon (s_con _) (callCon (s_con _) (callTI h1 (bifT rfl (atDecl (k := 1) (by decide) rfl (appTo (by decide) rfl))))))))))))⟩
  · exact ⟨decls0 ++ [⟨0, 0, [[1, 1, 0], [0], [3]]⟩], by simp [goodL], spec_goodDecls_le (callCon (s_con _) (callCon (s_con _) (callCon (s_con _) (callCon (s_con _) (callCon (s_con _) (callCon (s_con _) (callCon (s_con _) (callCon (s_con _) (callTI h1 (bifT rfl (atDecl (k := 2) (by decide) rfl (appTo (by decide) rfl))))))))))))⟩
  · exact ⟨decls0 ++ [⟨0, 1, []⟩], by simp [goodL], spec_goodDecls_le (callCon (s_con _) (callCon (s_con _) (callCon (s_con _) (callCon (s_con _) (callCon (s_con _) (callCon (s_con _) (callCon (s_con _) (callCon (s_con _) (callTI h1 (bifT rfl (atDecl (k := 3) (by decide) rfl (appTo (by decide) rfl))))))))))))⟩
  · exact ⟨decls0, by simp [goodL], spec_goodDecls_le (callCon (s_con _) (callCon (s_con _) (callCon (s_con _) (callCon (s_con _) (callCon (s_con _) (callCon (s_con _) (callCon (s_con _) (callCon (s_con _) (callTI h1 (bifF rfl rfl))))))))))⟩
def sigL : List (List Int × Int) := [([], 0), ([1], 0), ([1, 1], 1), ([1], 1), ([1, 0], 1), ([2, 1], 1), ([1, 1], 0), ([3], 0), ([0], 1), ([0, 1], 1), ([3, 0], 3), ([3], 1), ([1, 3, 0], 0), ([0], 0), ([0, 0], 0), ([1, 0], 0)]
structure GR (R : List PM) : Prop where
  len : R.length ≤ 4
  sg : ∀ x ∈ R, (x.ps, x.r) ∈ sigL
theorem sig_small : ∀ s ∈ sigL, s.1.length ≤ 3 ∧ (0 ≤ s.2 ∧ s.2 ≤ 3) ∧ ∀ t ∈ s.1, 0 ≤ t ∧ t ≤ 3 := by decide
theorem GR.at {R : List PM} (h : GR R) {k : Nat} (hk : k < R.length) : ((gP R k).ps, (gP R k).r) ∈ sigL := h.sg _ (gP_mem hk)
theorem GR.small {R : List PM} (h : GR R) {k : Nat} (hk : k < R.length) : (gP R k).ps.length ≤ 3 ∧ (0 ≤ (gP R k).r ∧ (gP R k).r ≤ 3) ∧ ∀ t ∈ (gP R k).ps, 0 ≤ t ∧ t ≤ 3 := sig_small _ (h.at hk)
abbrev pgC (D : List DM) (R : List PM) : SV := .agg [.sl 3 (decsC D), .sl 5 (pmsC R)]
def ClOk (D : List DM) (R : List PM) (t : Int) (fs : List Int) : Prop := ∀ f ∈ fs, ∃ k, k < R.length ∧ f = (k : Int) ∧ 0 < (gP R k).ps.length ∧ arrL ((gP R k).ps.getD ((gP R k).ps.length - 1) 0) (gP R k).r D 0 = t
theorem snoc_int (xs : List Int) (x : Int) : intsC xs ++ [[AC.int x]] = intsC (xs ++ [x]) := by simp [intsC]
theorem t_closable {D : List DM} (hD : D.length ≤ 4) {R : List PM} (hR : GR R) (t : Int) : ∃ fs, spec_closable [pgC D R, .cell (.int t)] = rL fs ∧ fs.length ≤ 4 ∧ ClOk D R t fs := by
  have h4 := hR.len
  have key : ∀ m k : Nat, k + m = R.length → ∀ acc : List Int, acc.length ≤ k → ClOk D R t acc → ∃ fs, spec_closable_L0 t (decsC D) (pmsC R) (intsC acc) (k : Int) = rL fs ∧ fs.length ≤ 4 ∧ ClOk D R t fs := by
    intro m
    induction m with
    | zero =>
      intro k hk acc hl ha
      exact ⟨acc, spec_closable_L0_le (bifF (decide_eq_false (by rw [pmsC_len]; omega)) rfl), by omega, ha⟩
    | succ m ih =>
      intro k hk acc hl ha
      have hlt : k < R.length := by omega
      have h3 := (hR.small hlt).1
      have hw : wrapI ((k : Int) + 1) = ((k + 1 : Nat) : Int) := wrk (by unfold maxI; omega)
      by_cases hz : 0 < (gP R k).ps.length
      · by_cases he : arrL ((gP R k).ps.getD ((gP R k).ps.length - 1) 0) (gP R k).r D 0 = t
        · obtain ⟨fs, h1, h2, h5⟩ := ih (k + 1) (by omega) (acc ++ [(k : Int)]) (by simp; omega) (fun f hf => by
            rcases List.mem_append.1 hf with hf | hf
            · exact ha f hf
            · simp only [List.mem_singleton] at hf
              exact ⟨k, hlt, hf, hz, he⟩)
          refine ⟨fs, spec_closable_L0_le (bifT (decide_eq_true (by rw [pmsC_len]; omega)) (atPmI rfl hlt (bifT (decide_eq_true (by rw [intsC_len]; omega)) (atPmI rfl hlt ?_)))), h2, h5⟩
          rw [intsC_len, show wrapI ((((gP R k).ps.length : Nat) : Int) - 1) = (((gP R k).ps.length - 1 : Nat) : Int) by rw [wr (by omega) (by omega)]; omega]
          refine atNum (by omega) (atPmI rfl hlt (callI (s_arrow D (by omega) _ _) ?_))
          rw [List.getD, List.getElem?_eq_getElem (by omega), Option.getD_some] at he
          refine bifT (by rw [he]; simp) (appTo (by rw [intsC_len]; simp; omega) ?_)
          rw [snoc_int, hw]
          exact h1
        · obtain ⟨fs, h1, h2, h5⟩ := ih (k + 1) (by omega) acc (by omega) ha
          refine ⟨fs, spec_closable_L0_le (bifT (decide_eq_true (by rw [pmsC_len]; omega)) (atPmI rfl hlt (bifT (decide_eq_true (by rw [intsC_len]; omega)) (atPmI rfl hlt ?_)))), h2, h5⟩
          rw [intsC_len, show wrapI ((((gP R k).ps.length : Nat) : Int) - 1) = (((gP R k).ps.length - 1 : Nat) : Int) by rw [wr (by omega) (by omega)]; omega]
          refine atNum (by omega) (atPmI rfl hlt (callI (s_arrow D (by omega) _ _) ?_))
          rw [List.getD, List.getElem?_eq_getElem (by omega), Option.getD_some] at he
          refine bifF (by rw [beq_eq_false_iff_ne]; exact he) ?_
          rw [hw]
          exact h1
      · obtain ⟨fs, h1, h2, h5⟩ := ih (k + 1) (by omega) acc (by omega) ha
        refine ⟨fs, spec_closable_L0_le (bifT (decide_eq_true (by rw [pmsC_len]; omega)) (atPmI rfl hlt (bifF (decide_eq_false (by rw [intsC_len]; omega)) ?_))), h2, h5⟩
        rw [hw]
        exact h1
  obtain ⟨fs, h1, h2, h3⟩ := key R.length 0 (by omega) [] (by simp) (fun f hf => by cases hf)
  exact ⟨fs, spec_closable_le h1, h2, h3⟩
theorem t_canMake {D : List DM} (hD : D.length ≤ 4) {R : List PM} (hR : GR R) {V : List Int} (hV : V.length ≤ 1048576) (t : Int) : ∃ b, spec_canMake [pgC D R, .cell (.sl 1 (intsC V)), .cell (.int t)] = rB b := by
  rcases ha : isAr D t with _ | _
  · exact ⟨true, spec_canMake_le (callB (s_isArrow (by omega) t) (bifT (by rw [ha]; rfl) rfl))⟩
  · obtain ⟨fs, h1, h2, h3⟩ := t_closable hD hR t
    by_cases hz : 0 < fs.length
    · exact ⟨true, spec_canMake_le (callB (s_isArrow (by omega) t) (bifF (by rw [ha]; rfl) (callS h1 (bifT (decide_eq_true (by rw [intsC_len]; omega)) rfl))))⟩
    · exact ⟨V.contains t, spec_canMake_le (callB (s_isArrow (by omega) t) (bifF (by rw [ha]; rfl) (callS h1 (bifF (decide_eq_false (by rw [intsC_len]; omega)) (callB (s_isInM V t hV) rfl)))))⟩
theorem t_varsOfType {V : List Int} (hV : V.length ≤ 1048576) (t : Int) : ∃ fs, spec_varsOfType [.cell (.sl 1 (intsC V)), .cell (.int t)] = rL fs ∧ fs.length ≤ V.length ∧ ∀ f ∈ fs, 0 ≤ f ∧ f ≤ 1048576 := by
  have key : ∀ m k : Nat, k + m = V.length → ∀ acc : List Int, acc.length ≤ k → (∀ f ∈ acc, 0 ≤ f ∧ f ≤ 1048576) → ∃ fs, spec_varsOfType_L0 (intsC V) t (intsC acc) (k : Int) = rL fs ∧ fs.length ≤ V.length ∧ ∀ f ∈ fs, 0 ≤ f ∧ f ≤ 1048576 := by
    intro m
    induction m with
    | zero =>
      intro k hk acc hl ha
      exact ⟨acc, spec_varsOfType_L0_le (bifF (decide_eq_false (by rw [intsC_len]; omega)) rfl), by omega, ha⟩
    | succ m ih =>
      intro k hk acc hl ha
      have hlt : k < V.length := by omega
      have hw : wrapI ((k : Int) + 1) = ((k + 1 : Nat) : Int) := wrk (by unfold maxI; omega)
      rcases he : (V[k] == t) with _ | _
      · obtain ⟨fs, h1, h2, h5⟩ := ih (k + 1) (by omega) acc (by omega) ha
        refine ⟨fs, spec_varsOfType_L0_le (bifT (decide_eq_true (by rw [intsC_len]; omega)) (atNum hlt (bifF he ?_))), h2, h5⟩
        rw [hw]
        exact h1
      · obtain ⟨fs, h1, h2, h5⟩ := ih (k + 1) (by omega) (acc ++ [(k : Int)]) (by simp; omega) (fun f hf => by
          rcases List.mem_append.1 hf with hf | hf
          · exact ha f hf
          · simp only [List.mem_singleton] at hf
            omega)
        refine ⟨fs, spec_varsOfType_L0_le (bifT (decide_eq_true (by rw [intsC_len]; omega)) (atNum hlt (bifT he (appTo (by rw [intsC_len]; simp; omega) ?_)))), h2, h5⟩
        rw [snoc_int, hw]
        exact h1
  obtain ⟨fs, h1, h2, h3⟩ := key V.length 0 (by omega) [] (by simp) (fun f hf => by cases hf)
  exact ⟨fs, spec_varsOfType_le h1, h2, h3⟩
theorem t_anyType {D : List DM} (hD : D.length ≤ 4) {R : List PM} (hR : GR R) {V : List Int} (hV : V.length ≤ 1048576) {ns : List Nat} (hns : ns.length ≤ 2000) {p : Nat} (hp : p ≤ 1000000) :
    ∃ t : Int, (0 ≤ t ∧ t ≤ 4) ∧ spec_anyType (Qr ns p) [pgC D R, .cell (.sl 1 (intsC V))] = some (.v (.cell (.int t)), Qr ns (p + 1)) := by
  obtain ⟨x, hx, h1⟩ := t_one hns hp (xs := [1, 1, 3, 0, 2, 4, 3]) (by simp) (by simp)
  have hx4 : 0 ≤ x ∧ x ≤ 4 := by
    simp only [List.mem_cons, List.not_mem_nil, or_false] at hx
    omega
  by_cases hl : x > (((decsC D).length : Nat) : Int)
  · exact ⟨1, by omega, spec_anyType_le (callTI h1 (bifT (decide_eq_true hl) rfl))⟩
  · obtain ⟨b, hb⟩ := t_canMake hD hR hV x
    rcases b with _ | _
    · exact ⟨1, by omega, spec_anyType_le (callTI h1 (bifF (decide_eq_false hl) (callB hb (bifT rfl rfl))))⟩
    · exact ⟨x, hx4, spec_anyType_le (callTI h1 (bifF (decide_eq_false hl) (callB hb (bifF rfl rfl))))⟩
def IxOk (R : List PM) (fs : List Int) : Prop := ∀ f ∈ fs, ∃ k, k < R.length ∧ f = (k : Int)
theorem t_callable {D : List DM} (hD : D.length ≤ 4) {R : List PM} (hR : GR R) (t : Int) : ∃ fs, spec_callable [pgC D R, .cell (.int t)] = rL fs ∧ fs.length ≤ 4 ∧ IxOk R fs := by
  have h4 := hR.len
  have key : ∀ m k : Nat, k + m = R.length → ∀ acc : List Int, acc.length ≤ k → IxOk R acc → ∃ fs, spec_callable_L0 t (decsC D) (pmsC R) (intsC acc) (k : Int) = rL fs ∧ fs.length ≤ 4 ∧ IxOk R fs := by
    intro m
    induction m with
    | zero =>
      intro k hk acc hl ha
      exact ⟨acc, spec_callable_L0_le (bifF (decide_eq_false (by rw [pmsC_len]; omega)) rfl), by omega, ha⟩
    | succ m ih =>
      intro k hk acc hl ha
      have hlt : k < R.length := by omega
      have h3 := (hR.small hlt).1
      have hw : wrapI ((k : Int) + 1) = ((k + 1 : Nat) : Int) := wrk (by unfold maxI; omega)
      have inner : ∀ n i : Nat, i + n = (gP R k).ps.length → ∀ b : Bool, ∃ fs, spec_callable_L2 t (decsC D) (pmsC R) (intsC acc) (k : Int) b (i : Int) = rL fs ∧ fs.length ≤ 4 ∧ IxOk R fs := by
        intro n
        induction n with
        | zero =>
          intro i hi b
          cases b with
          | false =>
            obtain ⟨fs, h1, h2, h5⟩ := ih (k + 1) (by omega) acc (by omega) ha
            refine ⟨fs, spec_callable_L2_le (atPmI rfl hlt (bifF (decide_eq_false (by rw [intsC_len]; omega)) (bifF rfl ?_))), h2, h5⟩
            rw [hw]
            exact h1
          | true =>
            obtain ⟨fs, h1, h2, h5⟩ := ih (k + 1) (by omega) (acc ++ [(k : Int)]) (by simp; omega) (fun f hf => by
              rcases List.mem_append.1 hf with hf | hf
              · exact ha f hf
              · simp only [List.mem_singleton] at hf
                exact ⟨k, hlt, hf⟩)
            refine ⟨fs, spec_callable_L2_le (atPmI rfl hlt (bifF (decide_eq_false (by rw [intsC_len]; omega)) (bifT rfl (appTo (by rw [intsC_len]; simp; omega) ?_)))), h2, h5⟩
            rw [snoc_int, hw]
            exact h1
        | succ n ihn =>
          intro i hi b
          have hil : i < (gP R k).ps.length := by omega
          have hwi : wrapI ((i : Int) + 1) = ((i + 1 : Nat) : Int) := wrk (by unfold maxI; omega)
          cases b with
          | false =>
            obtain ⟨fs, h1, h2, h5⟩ := ihn (i + 1) (by omega) false
            refine ⟨fs, spec_callable_L2_le (atPmI rfl hlt (bifT (decide_eq_true (by rw [intsC_len]; omega)) (bifF rfl ?_))), h2, h5⟩
            rw [hwi]
            exact h1
          | true =>
            obtain ⟨c, hc⟩ := t_canMake hD hR (V := []) (by simp) (gP R k).ps[i]
            obtain ⟨fs, h1, h2, h5⟩ := ihn (i + 1) (by omega) c
            refine ⟨fs, spec_callable_L2_le (atPmI rfl hlt (bifT (decide_eq_true (by rw [intsC_len]; omega)) (bifT rfl (atPmI rfl hlt (atNum hil (callB hc ?_)))))), h2, h5⟩
            rw [hwi]
            exact h1
      obtain ⟨fs, h1, h2, h5⟩ := inner (gP R k).ps.length 0 (by omega) ((gP R k).r == t)
      exact ⟨fs, spec_callable_L0_le (bifT (decide_eq_true (by rw [pmsC_len]; omega)) (atPmI rfl hlt h1)), h2, h5⟩
  rcases Nat.lt_or_ge R.length 1 with h0 | h0
  · exact ⟨[], spec_callable_le (spec_callable_L0_le (bifF (decide_eq_false (by rw [pmsC_len]; omega)) rfl)), by simp, fun f hf => by cases hf⟩
  · obtain ⟨fs, h1, h2, h3⟩ := key (R.length - 1) 1 (by omega) [] (by simp) (fun f hf => by cases hf)
    exact ⟨fs, spec_callable_le h1, h2, h3⟩
end Go.Proofs.Ytgbeongiejppnaa
set_option linter.unusedSectionVars false
namespace Go.Proofs.Ytgbeongiejppnaa
open Go
def EG (ns : List Nat) (p C M : Nat) (x : Option (AV × List AC)) : Prop := ∃ (o n : Int) (kids : List (List AC)) (p' : Nat), x = some (.v (.agg [.int o, .int n, .sl 3 kids]), Qr ns p') ∧ p' ≤ p + C ∧ Fit .expr [.int o, .int n, .sl 3 kids] ∧ 1 + kids.length + rsS kids ≤ M
theorem EG.le {ns : List Nat} {p C M C' M' : Nat} {x : Option (AV × List AC)} (h : EG ns p C M x) (h1 : C ≤ C') (h2 : M ≤ M') : EG ns p C' M' x := by
  obtain ⟨o, n, kids, p', e, a, b, c⟩ := h
  exact ⟨o, n, kids, p', e, by omega, b, by omega⟩
def KidsOk (kids : List (List AC)) : Prop := ∀ b ∈ kids, Fit .expr b
theorem fit_node {o n : Int} {kids : List (List AC)} (ho : -1000000 ≤ o ∧ o ≤ 1000000) (hn : -10000000 ≤ n ∧ n ≤ 10000000) (hl : kids.length ≤ 1000000) (hk : KidsOk kids) : Fit .expr [.int o, .int n, .sl 3 kids] :=
  .expr o n kids ⟨by omega, by omega⟩ ⟨by omega, by omega⟩ (by unfold maxI; omega) hk
theorem rsS_append (a b : List (List AC)) : rsS (a ++ b) = rsS a + rsS b := by
  induction a with
  | nil => simp [rsS_nil]
  | cons x a ih => rw [List.cons_append, rsS_cons, rsS_cons, ih]; omega
theorem kids_snoc {kids : List (List AC)} {o n : Int} {l : List (List AC)} (hk : KidsOk kids) (h : Fit .expr [.int o, .int n, .sl 3 l]) : KidsOk (kids ++ [[.int o, .int n, .sl 3 l]]) := fun b hb => by
  rcases List.mem_append.1 hb with hb | hb
  · exact hk b hb
  · simp only [List.mem_singleton] at hb; rw [hb]; exact h
theorem kids_size {kids : List (List AC)} {o n : Int} {l : List (List AC)} : (kids ++ [[AC.int o, .int n, .sl 3 l]]).length + rsS (kids ++ [[AC.int o, .int n, .sl 3 l]]) = kids.length + rsS kids + (1 + l.length + rsS l) := by
  rw [rsS_append, rsS_cons, rsS_nil, cS_ex]
  simp
  omega
def cf (D : List DM) (c : Int) : List Int := if conT D c < 1 then [] else fld D c
theorem s_cf {D : List DM} (hv : DV D) (c : Int) : spec_conFields [.cell (.sl 3 (decsC D)), .cell (.int c)] = rL (cf D c) := s_conFields hv c
theorem good_one : ∀ D ∈ goodL, ∀ t ∈ ([1, 3] : List Int), (consL D t).length = 2 ∧ cf D ((consL D t).getD 0 0) = [] ∧ (cf D ((consL D t).getD 1 0)).contains t = true ∧ (cf D ((consL D t).getD 1 0)).length ≤ 3 ∧ (0 ≤ (consL D t).getD 0 0 ∧ (consL D t).getD 0 0 ≤ 100) := by decide
theorem good_two : ∀ D ∈ goodL, ∀ t ∈ ([2, 4] : List Int), (consL D t).length ≤ 3 ∧ ∀ c ∈ consL D t, (0 ≤ c ∧ c ≤ 100) ∧ (cf D c).contains t = false ∧ (cf D c).length ≤ 3 ∧ ∀ u ∈ cf D c, u = 0 ∨ u = 1 ∨ u = 3 := by decide
theorem good_zero : ∀ D ∈ goodL, consL D 0 = [] := by decide
theorem good_sig : ∀ D ∈ goodL, ∀ s ∈ sigL, ∀ t ∈ ([2, 4] : List Int), arrL (s.1.getD (s.1.length - 1) 0) s.2 D 0 = t → ∀ u ∈ s.1.take (s.1.length - 1), u = 0 ∨ u = 1 ∨ u = 3 := by decide
section
variable {ns : List Nat} (hns : ns.length ≤ 2000) {D : List DM} (hD : D ∈ goodL) {R : List PM} (hR : GR R)
include hns hD hR
theorem t_small_int {t : Int} (ht : ¬ 0 < t ∨ ∃ fs : List Int, spec_closable [pgC D R, .cell (.int t)] = rL fs ∧ fs = []) (hc : consL D t = []) {p : Nat} (hp : p + 4 ≤ 1000000) : EG ns p 4 1 (spec_smallest (Qr ns p) [pgC D R, .cell (.int t)]) := by
  obtain ⟨x, hx, h1⟩ := t_someInt hns hp
  have hcons := s_consL (good_dv hD) t
  rw [hc] at hcons
  refine ⟨0, x, [], p + 4, ?_, by omega, fit_node (by omega) (by omega) (by simp) (fun b hb => by cases hb), by simp [rsS_nil]⟩
  rcases ht with ht | ⟨fs, h2, rfl⟩
  · obtain ⟨fs, h2, _⟩ := t_closable (good_len hD) hR t
    exact spec_smallest_le (callS hcons (bifF rfl (callS h2 (bifF (decide_eq_false ht) (callTI h1 (callExpr (s_integer _) rfl))))))
  · by_cases h0 : 0 < t
    · exact spec_smallest_le (callS hcons (bifF rfl (callS h2 (bifT (decide_eq_true h0) (bifF rfl (callTI h1 (callExpr (s_integer _) rfl)))))))
    · exact spec_smallest_le (callS hcons (bifF rfl (callS h2 (bifF (decide_eq_false h0) (callTI h1 (callExpr (s_integer _) rfl))))))
theorem t_small_L0 {C : Nat} (hC : C ≤ 1000) {c : Int} (hc : 0 ≤ c ∧ c ≤ 100) {fs : List Int} (hl : fs.length ≤ 3) {P : Nat} (hP : P ≤ 900000) (hsm : ∀ u ∈ fs, ∀ p, p ≤ P → EG ns p C 1 (spec_smallest (Qr ns p) [pgC D R, .cell (.int u)])) {z1 z2 : Int} {z3 : List (List AC)} :
    ∀ m k : Nat, k + m = fs.length → ∀ (acc : List (List AC)) (p : Nat), KidsOk acc → acc.length + rsS acc ≤ k → p + m * C ≤ P → EG ns p (m * C) 4 (spec_smallest_L0 (decsC D) (pmsC R) z1 z2 z3 c acc (intsC fs) (k : Int) (Qr ns p)) := by
  intro m
  induction m with
  | zero =>
    intro k hk acc p ha hs hp
    refine ⟨6, c, acc, p, spec_smallest_L0_le (bifF (decide_eq_false (by rw [intsC_len]; omega)) (callExpr (s_node _ _ _) rfl)), by omega, fit_node (by omega) (by omega) (by omega) ha, by omega⟩
  | succ m ih =>
    intro k hk acc p ha hs hp
    have hlt : k < fs.length := by omega
    have hmul : (m + 1) * C = m * C + C := Nat.succ_mul _ _
    obtain ⟨o, n, l, p', h1, h2, h3, h4⟩ := hsm fs[k] (List.getElem_mem hlt) p (by omega)
    have hsz := kids_size (kids := acc) (o := o) (n := n) (l := l)
    obtain ⟨o2, n2, l2, p2, g1, g2, g3, g4⟩ := ih (k + 1) (by omega) (acc ++ [[.int o, .int n, .sl 3 l]]) p' (kids_snoc ha h3) (by omega) (by omega)
    refine ⟨o2, n2, l2, p2, spec_smallest_L0_le (bifT (decide_eq_true (by rw [intsC_len]; omega)) (atNum hlt (callTE h1 (appTo (by simp; omega) ?_)))), by omega, g3, g4⟩
    rw [wrk (by unfold maxI; omega)]
    exact g1
theorem t_small_L2 {C : Nat} (hC : C ≤ 1000) {c : Int} (hc : 0 ≤ c ∧ c ≤ 100) {fs : List Int} (hl : fs.length ≤ 3) {P : Nat} (hP : P ≤ 900000) (hsm : ∀ u ∈ fs.take (fs.length - 1), ∀ p, p ≤ P → EG ns p C 1 (spec_smallest (Qr ns p) [pgC D R, .cell (.int u)])) {z1 z2 : Int} {z3 : List (List AC)} :
    ∀ m k : Nat, k + m = fs.length → ∀ (acc : List (List AC)) (p : Nat), KidsOk acc → acc.length + rsS acc ≤ k → p + m * C ≤ P → EG ns p (m * C) 4 (spec_smallest_L2 (decsC D) (pmsC R) z1 z2 z3 c (intsC fs) acc (k : Int) (Qr ns p)) := by
  intro m
  induction m with
  | zero =>
    intro k hk acc p ha hs hp
    refine ⟨10, c, acc, p, spec_smallest_L2_le (bifF (decide_eq_false (by rw [intsC_len, wrk (by unfold maxI; omega)]; omega)) (callExpr (s_node _ _ _) rfl)), by omega, fit_node (by omega) (by omega) (by omega) ha, by omega⟩
  | succ m ih =>
    intro k hk acc p ha hs hp
    have hlt : k < fs.length := by omega
    have hmul : (m + 1) * C = m * C + C := Nat.succ_mul _ _
    by_cases hlast : k + 1 < fs.length
    · have hmem : fs[k] ∈ fs.take (fs.length - 1) := by
        rw [List.mem_take_iff_getElem]
        exact ⟨k, by omega, rfl⟩
      obtain ⟨o, n, l, p', h1, h2, h3, h4⟩ := hsm fs[k] hmem p (by omega)
      have hsz := kids_size (kids := acc) (o := o) (n := n) (l := l)
      obtain ⟨o2, n2, l2, p2, g1, g2, g3, g4⟩ := ih (k + 1) (by omega) (acc ++ [[.int o, .int n, .sl 3 l]]) p' (kids_snoc ha h3) (by omega) (by omega)
      refine ⟨o2, n2, l2, p2, spec_smallest_L2_le (bifT (decide_eq_true (by rw [intsC_len, wrk (by unfold maxI; omega)]; omega)) (atNum hlt (callTE h1 (appTo (by simp; omega) ?_)))), by omega, g3, g4⟩
      rw [wrk (by unfold maxI; omega)]
      exact g1
    · refine ⟨10, c, acc, p, spec_smallest_L2_le (bifF (decide_eq_false (by rw [intsC_len, wrk (by unfold maxI; omega)]; omega)) (callExpr (s_node _ _ _) rfl)), by omega, fit_node (by omega) (by omega) (by omega) ha, by omega⟩
theorem t_small0 {p : Nat} (hp : p + 4 ≤ 1000000) : EG ns p 4 1 (spec_smallest (Qr ns p) [pgC D R, .cell (.int 0)]) := t_small_int hns hD hR (.inl (by omega)) (good_zero D hD) hp
theorem t_small1 {t : Int} (ht : t = 1 ∨ t = 3) {p : Nat} (hp : p + 4 ≤ 1000000) : EG ns p 4 1 (spec_smallest (Qr ns p) [pgC D R, .cell (.int t)]) := by
  obtain ⟨g1, g2, g3, g4, g5⟩ := good_one D hD t (by rcases ht with rfl | rfl <;> simp)
  have hdv := good_dv hD
  have hcons := s_consL hdv t
  obtain ⟨x, hx, h1⟩ := t_pick hns (p := p) (by omega) (m := 4) (by omega)
  obtain ⟨c0, c1, e⟩ : ∃ c0 c1, consL D t = [c0, c1] := by
    match h : consL D t, g1 with
    | [a, b], _ => exact ⟨a, b, rfl⟩
  rw [e] at g1 g2 g3 g4 g5 hcons
  simp only [List.getD_cons_zero, List.getD_cons_succ] at g2 g3 g4 g5
  have hf0 := s_cf hdv c0
  have hf1 := s_cf hdv c1
  rw [g2] at hf0
  have hL : ∀ q, spec_smallest_L0 (decsC D) (pmsC R) 0 0 [] c0 [] (intsC []) 0 q = some (.v (.agg [.int 6, .int c0, .sl 3 []]), q) := fun q => spec_smallest_L0_le (bifF rfl (callExpr (s_node _ _ _) rfl))
  have hfin : ∀ X, X = some (.v (.agg [.int 6, .int c0, .sl 3 []]), Qr ns (p + 1)) → EG ns p 4 1 X := fun X hX => ⟨6, c0, [], p + 1, hX, by omega, fit_node (by omega) (by omega) (by simp) (fun b hb => by cases hb), by simp [rsS_nil]⟩
  have hin0 := s_isInM [] t (by simp)
  refine hfin _ (spec_smallest_le (callS hcons (bifT rfl (atNum (xs := [c0, c1]) (k := 0) (by simp) (bifT rfl (callTI h1 ?_))))))
  by_cases hx0 : x = 0
  · subst hx0
    exact bifT rfl (atNum (xs := [c0, c1]) (k := 1) (by simp) (callS hf1 (callB (s_isInM _ t (by omega)) (bifT g3 (atNum (xs := [c0, c1]) (k := 0) (by simp) (callS hf0 (hL _)))))))
  · exact bifF (by rw [beq_eq_false_iff_ne]; omega) (callS hf0 (callB hin0 (bifF rfl (callS hf0 (hL _)))))
theorem t_small_low {u : Int} (hu : u = 0 ∨ u = 1 ∨ u = 3) {p : Nat} (hp : p + 4 ≤ 1000000) : EG ns p 4 1 (spec_smallest (Qr ns p) [pgC D R, .cell (.int u)]) := by
  rcases hu with rfl | rfl | rfl
  · exact t_small0 hns hD hR hp
  · exact t_small1 hns hD hR (.inl rfl) hp
  · exact t_small1 hns hD hR (.inr rfl) hp
theorem EG.put {p p1 C C1 M : Nat} {x : Option (AV × List AC)} (h : EG ns p1 C1 M x) (h1 : p1 + C1 ≤ p + C) : EG ns p C M x := by
  obtain ⟨o, n, kids, p', e, a, b, c⟩ := h
  exact ⟨o, n, kids, p', e, by omega, b, c⟩
theorem t_small2 {t : Int} (ht : t = 2 ∨ t = 4) {p : Nat} (hp : p + 20 ≤ 900000) : EG ns p 14 4 (spec_smallest (Qr ns p) [pgC D R, .cell (.int t)]) := by
  have hm : t ∈ ([2, 4] : List Int) := by rcases ht with rfl | rfl <;> simp
  obtain ⟨g1, g2⟩ := good_two D hD t hm
  have hdv := good_dv hD
  have hcons := s_consL hdv t
  have hL : ∀ c ∈ consL D t, ∀ p', p' ≤ p + 1 → EG ns p' 12 4 (spec_smallest_L0 (decsC D) (pmsC R) 0 0 [] c [] (intsC (cf D c)) 0 (Qr ns p')) := fun c hc p' hp' => by
    obtain ⟨a1, a2, a3, a4⟩ := g2 c hc
    have := t_small_L0 hns hD hR (C := 4) (by omega) a1 a3 (P := 900000) (by omega) (fun u hu q hq => t_small_low hns hD hR (a4 u hu) (by omega)) (z1 := 0) (z2 := 0) (z3 := []) (cf D c).length 0 (by omega) [] p' (fun b hb => by cases hb) (by simp [rsS_nil]) (by omega)
    exact this.le (by omega) (by omega)
  by_cases hz : 0 < (consL D t).length
  · have hm0 : (consL D t)[0] ∈ consL D t := List.getElem_mem hz
    have b0 := (g2 _ hm0).2.1
    have l0 := (g2 _ hm0).2.2.1
    have hz' : decide (((((intsC (consL D t)).length : Nat) : Int)) > 0) = true := decide_eq_true (by rw [intsC_len]; omega)
    by_cases h1 : 1 < (consL D t).length
    · have hm1 : (consL D t)[1] ∈ consL D t := List.getElem_mem h1
      have b1 := (g2 _ hm1).2.1
      have l1 := (g2 _ hm1).2.2.1
      obtain ⟨x, hx, hpk⟩ := t_pick hns (p := p) (by omega) (m := 4) (by omega)
      by_cases hx0 : x = 0
      · subst hx0
        obtain ⟨o, n, l, p', e1, e2, e3, e4⟩ := hL _ hm1 (p + 1) (by omega)
        exact ⟨o, n, l, p', spec_smallest_le (callS hcons (bifT hz' (atNum (k := 0) hz (bifT (decide_eq_true (by rw [intsC_len]; omega)) (callTI hpk (bifT rfl (atNum (k := 1) h1 (callS (s_cf hdv _) (callB (s_isInM _ t (by omega)) (bifF b1 (callS (s_cf hdv _) e1))))))))))), by omega, e3, e4⟩
      · obtain ⟨o, n, l, p', e1, e2, e3, e4⟩ := hL _ hm0 (p + 1) (by omega)
        exact ⟨o, n, l, p', spec_smallest_le (callS hcons (bifT hz' (atNum (k := 0) hz (bifT (decide_eq_true (by rw [intsC_len]; omega)) (callTI hpk (bifF (by rw [beq_eq_false_iff_ne]; omega) (callS (s_cf hdv _) (callB (s_isInM _ t (by omega)) (bifF b0 (callS (s_cf hdv _) e1)))))))))), by omega, e3, e4⟩
    · obtain ⟨o, n, l, p', e1, e2, e3, e4⟩ := hL _ hm0 p (by omega)
      exact ⟨o, n, l, p', spec_smallest_le (callS hcons (bifT hz' (atNum (k := 0) hz (bifF (decide_eq_false (by rw [intsC_len]; omega)) (callS (s_cf hdv _) (callB (s_isInM _ t (by omega)) (bifF b0 (callS (s_cf hdv _) e1)))))))), by omega, e3, e4⟩
  · have hnil : consL D t = [] := List.eq_nil_of_length_eq_zero (by omega)
    obtain ⟨fs, h1, h2, h3⟩ := t_closable (good_len hD) hR t
    by_cases hf : 0 < fs.length
    · obtain ⟨x, hx, hpk⟩ := t_pick hns (p := p) (by omega) (m := fs.length) hf
      obtain ⟨k, hk, hfk, hps, harr⟩ := h3 fs[x] (List.getElem_mem hx)
      have hsm := good_sig D hD _ (hR.at hk) t hm harr
      have hl3 := (hR.small hk).1
      have hklt := hR.len
      have := t_small_L2 hns hD hR (C := 4) (by omega) (c := (k : Int)) (by omega) hl3 (P := 900000) (by omega) (fun u hu q hq => t_small_low hns hD hR (hsm u hu) (by omega)) (z1 := 0) (z2 := 0) (z3 := []) (gP R k).ps.length 0 (by omega) [] (p + 1) (fun b hb => by cases hb) (by simp [rsS_nil]) (by omega)
      obtain ⟨o, n, l, p', e1, e2, e3, e4⟩ := this
      rw [hnil] at hcons
      refine ⟨o, n, l, p', spec_smallest_le (callS hcons (bifF rfl (callS h1 (bifT (decide_eq_true (by omega)) (bifT (decide_eq_true (by rw [intsC_len]; omega)) ?_))))), by omega, e3, e4⟩
      rw [intsC_len]
      refine callTI hpk (atNum hx ?_)
      rw [hfk]
      exact atPmI rfl hk e1
    · exact (t_small_int hns hD hR (.inr ⟨fs, h1, List.eq_nil_of_length_eq_zero (by omega)⟩) hnil (by omega)).le (by omega) (by omega)
theorem t_smallest {t : Int} (ht : 0 ≤ t ∧ t ≤ 4) {p : Nat} (hp : p + 20 ≤ 900000) : EG ns p 14 4 (spec_smallest (Qr ns p) [pgC D R, .cell (.int t)]) := by
  rcases (by omega : t = 0 ∨ t = 1 ∨ t = 3 ∨ (t = 2 ∨ t = 4)) with rfl | rfl | rfl | h
  · exact (t_small0 hns hD hR (by omega)).le (by omega) (by omega)
  · exact (t_small1 hns hD hR (.inl rfl) (by omega)).le (by omega) (by omega)
  · exact (t_small1 hns hD hR (.inr rfl) (by omega)).le (by omega) (by omega)
  · exact t_small2 hns hD hR h hp
theorem t_leaf {V : List Int} (hV : V.length ≤ 1048576) {t : Int} (ht : 0 ≤ t ∧ t ≤ 4) {p : Nat} (hp : p + 30 ≤ 900000) : EG ns p 16 4 (spec_leaf (Qr ns p) [pgC D R, .cell (.sl 1 (intsC V)), .cell (.int t)]) := by
  obtain ⟨fs, h1, h2, h3⟩ := t_varsOfType hV t
  have hvar : ∀ (x : Nat) (hx : x < fs.length), Fit .expr [.int 12, .int fs[x], .sl 3 []] := fun x hx => by
    have := h3 fs[x] (List.getElem_mem hx)
    exact fit_node (by omega) (by omega) (by simp) (fun b hb => by cases hb)
  by_cases hf : 0 < fs.length
  · have hf' : decide (((((intsC fs).length : Nat) : Int)) > 0) = true := decide_eq_true (by rw [intsC_len]; omega)
    obtain ⟨x, hx, hp1⟩ := t_pick hns (p := p) (by omega) (m := 6) (by omega)
    by_cases hx0 : 0 < x
    · obtain ⟨y, hy, hp2⟩ := t_pick hns (p := p + 1) (by omega) (m := fs.length) hf
      refine ⟨12, fs[y], [], p + 1 + 1, spec_leaf_le (callS h1 (bifT hf' (callTI hp1 (bifT (decide_eq_true (by omega)) ?_)))), by omega, hvar y hy, by simp [rsS_nil]⟩
      rw [intsC_len]
      exact callTI hp2 (atNum hy (callExpr (s_variable _) rfl))
    · obtain ⟨b, hb⟩ := t_canMake (good_len hD) hR (V := []) (by simp) t
      cases b with
      | false =>
        obtain ⟨y, hy, hp2⟩ := t_pick hns (p := p + 1) (by omega) (m := fs.length) hf
        refine ⟨12, fs[y], [], p + 1 + 1, spec_leaf_le (callS h1 (bifT hf' (callTI hp1 (bifF (decide_eq_false (by omega)) (callB hb (bifT rfl ?_)))))), by omega, hvar y hy, by simp [rsS_nil]⟩
        rw [intsC_len]
        exact callTI hp2 (atNum hy (callExpr (s_variable _) rfl))
      | true =>
        obtain ⟨o, n, l, p', e1, e2, e3, e4⟩ := t_smallest hns hD hR ht (p := p + 1) (by omega)
        exact ⟨o, n, l, p', spec_leaf_le (callS h1 (bifT hf' (callTI hp1 (bifF (decide_eq_false (by omega)) (callB hb (bifF rfl (callTE e1 rfl))))))), by omega, e3, e4⟩
  · obtain ⟨o, n, l, p', e1, e2, e3, e4⟩ := t_smallest hns hD hR ht (p := p) (by omega)
    exact ⟨o, n, l, p', spec_leaf_le (callS h1 (bifF (decide_eq_false (by rw [intsC_len]; omega)) (callTE e1 rfl))), by omega, e3, e4⟩
end
end Go.Proofs.Ytgbeongiejppnaa
