/- Generic texts and models for the proofs of this seat: part 31. -/
import Derived.Test.YtbodfaghedolbaaS30
set_option linter.unusedVariables false
set_option linter.unusedSimpArgs false
namespace Go.Proofs.Ytbodfaghedolbaa
open Go
theorem rI_cong {a b : Int} (h : a = b) : rI a = rI b := by rw [h]
theorem cS_ex (o n : Int) (kids : List (List AC)) : cS [.int o, .int n, .sl 3 kids] = kids.length + rsS kids := by
  rw [cS_int, cS_int, cS_sl, cS_nil]
  omega
theorem fit_ex {o n : Int} {kids : List (List AC)} (h : Fit .expr [.int o, .int n, .sl 3 kids]) : inI o ∧ inI n ∧ kids.length ≤ maxI ∧ ∀ b ∈ kids, Fit .expr b := by
  generalize ht : Ty.expr = t at h
  generalize hx : [AC.int o, AC.int n, AC.sl 3 kids] = x at h
  cases h with
  | expr o' n' kids' ho hn hl h =>
    simp only [List.cons.injEq, AC.int.injEq, AC.sl.injEq, true_and, and_true] at hx
    obtain ⟨rfl, rfl, rfl⟩ := hx
    exact ⟨ho, hn, hl, h⟩
  | _ => cases ht
theorem fit_shape {x : List AC} (h : Fit .expr x) : ∃ o n kids, x = [.int o, .int n, .sl 3 kids] := by
  generalize ht : Ty.expr = t at h
  cases h with
  | expr o n kids _ _ _ _ => exact ⟨o, n, kids, rfl⟩
  | _ => cases ht
theorem fit_kid {kids : List (List AC)} (h : ∀ b ∈ kids, Fit .expr b) {k : Nat} (hk : k < kids.length) : ∃ o n ks, kids.getD k [] = [.int o, .int n, .sl 3 ks] ∧ Fit .expr [.int o, .int n, .sl 3 ks] := by
  have h1 := h _ (mem_getD hk [])
  obtain ⟨o, n, ks, e⟩ := fit_shape h1
  exact ⟨o, n, ks, e, e ▸ h1⟩
theorem kid_lt {kids : List (List AC)} {k : Nat} (hk : k < kids.length) {o n : Int} : cS (kids.getD k []) < cS [.int o, .int n, .sl 3 kids] := by
  rw [cS_ex]
  have := rsS_mem (mem_getD hk [])
  omega
def remN (kids : List (List AC)) (k : Nat) : Nat := (kids.length - k) + rsS (kids.drop k)
theorem remN_succ {kids : List (List AC)} {k : Nat} (hk : k < kids.length) : remN kids k = 1 + cS (kids.getD k []) + remN kids (k + 1) := by
  unfold remN
  rw [rsS_drop hk]
  omega
theorem remN_end (kids : List (List AC)) : remN kids kids.length = 0 := by
  unfold remN
  rw [List.drop_eq_nil_of_le (Nat.le_refl _), rsS_nil]
  omega
theorem remN_zero (o n : Int) (kids : List (List AC)) : remN kids 0 = cS [.int o, .int n, .sl 3 kids] := by
  rw [cS_ex]
  unfold remN
  simp
def minN (a b : Nat) : Nat := if a ≤ b then a else b
theorem i_upTo : ∀ (s : Nat) (o n : Int) (kids : List (List AC)), cS [.int o, .int n, .sl 3 kids] < s → Fit .expr [.int o, .int n, .sl 3 kids] → ∀ L : Nat, L ≤ 30 →
    impl_nodesUpTo [.agg [.int o, .int n, .sl 3 kids], .cell (.int (L : Int))] = rI ((minN (1 + cS [.int o, .int n, .sl 3 kids]) (L + 1) : Nat) : Int) := by
  intro s
  induction s with
  | zero => intro o n kids h; omega
  | succ s ihs =>
    intro o n kids hs hf L hL
    obtain ⟨_, _, hl, hk⟩ := fit_ex hf
    have key : ∀ m k : Nat, k + m = kids.length → ∀ c : Nat, 1 ≤ c → c ≤ L + 1 → impl_nodesUpTo_L0 (L : Int) (c : Int) kids ((kids.length : Nat) : Int) (k : Int) = rI ((minN (c + remN kids k) (L + 1) : Nat) : Int) := by
      intro m
      induction m with
      | zero =>
        intro k hk c h1 h2
        obtain rfl : k = kids.length := by omega
        refine impl_nodesUpTo_L0_le (bifF (decide_eq_false (by omega)) ?_)
        rw [remN_end]
        unfold minN
        rw [if_pos (by omega)]
        rfl
      | succ m ih =>
        intro k hkm c h1 h2
        have hlt : k < kids.length := by omega
        obtain ⟨o', n', ks, e, hf'⟩ := fit_kid hk hlt
        have hr := remN_succ hlt
        have hlt' := kid_lt hlt (o := o) (n := n)
        rw [e] at hr hlt'
        refine impl_nodesUpTo_L0_le (bifT (decide_eq_true (by omega)) (atExpr hlt e ?_))
        by_cases hc : c = L + 1
        · refine bifT (decide_eq_true (by omega)) ?_
          unfold minN
          split
          · have : c + remN kids k = c := by omega
            rw [this]
          · rw [hc]
        refine bifF (decide_eq_false (by omega)) ?_
        have w1 : wrapI ((L : Int) - (c : Int)) = ((L - c : Nat) : Int) := by rw [wr (by omega) (by omega)]; omega
        rw [w1]
        refine callI (ihs o' n' ks (by omega) hf' (L - c) (by omega)) ?_
        generalize cS [.int o', .int n', .sl 3 ks] = z at hr
        have hm : minN (1 + z) (L - c + 1) ≤ L - c + 1 ∧ 1 ≤ minN (1 + z) (L - c + 1) := by unfold minN; split <;> omega
        have w2 : wrapI ((c : Int) + ((minN (1 + z) (L - c + 1) : Nat) : Int)) = ((c + minN (1 + z) (L - c + 1) : Nat) : Int) := by rw [wr (by omega) (by omega)]; omega
        rw [w2, wrk (by omega)]
        rw [ih (k + 1) (by omega) _ (by omega) (by omega), hr]
        refine rI_cong ?_
        unfold minN
        split <;> split <;> split <;> omega
    have := key kids.length 0 (by omega) 1 (by omega) (by omega)
    rw [remN_zero o n] at this
    exact impl_nodesUpTo_le this
def nodV (x : List AC) : Int := if cS x ≤ 29 then ((1 + cS x : Nat) : Int) else -1
theorem i_nodesOf {o n : Int} {kids : List (List AC)} (hf : Fit .expr [.int o, .int n, .sl 3 kids]) : impl_NodesOf [.agg [.int o, .int n, .sl 3 kids]] = rI (nodV [.int o, .int n, .sl 3 kids]) := by
  refine impl_NodesOf_le (callI (i_upTo _ o n kids (Nat.lt_succ_self _) hf 30 (by omega)) ?_)
  unfold nodV minN
  generalize cS [.int o, .int n, .sl 3 kids] = z
  by_cases h : z ≤ 29
  · rw [if_pos (show 1 + z ≤ 30 + 1 by omega), if_pos h]
    exact bifF (decide_eq_false (by omega)) rfl
  · rw [if_neg h]
    refine bifT (decide_eq_true ?_) rfl
    split <;> omega
theorem s_left : ∀ (s : Nat) (o n : Int) (kids : List (List AC)), cS [.int o, .int n, .sl 3 kids] < s → Fit .expr [.int o, .int n, .sl 3 kids] → ∀ L : Nat, L ≤ 30 →
    spec_nodesLeft [.agg [.int o, .int n, .sl 3 kids], .cell (.int (L : Int))] = rI (if 1 + cS [.int o, .int n, .sl 3 kids] ≤ L then ((L - (1 + cS [.int o, .int n, .sl 3 kids]) : Nat) : Int) else -1) := by
  intro s
  induction s with
  | zero => intro o n kids h; omega
  | succ s ihs =>
    intro o n kids hs hf L hL
    obtain ⟨_, _, hl, hk⟩ := fit_ex hf
    have key : ∀ m k : Nat, k + m = kids.length → ∀ c : Nat, c ≤ 30 → spec_nodesLeft_L0 (c : Int) o n kids (k : Int) = rI (if remN kids k ≤ c then ((c - remN kids k : Nat) : Int) else -1) := by
      intro m
      induction m with
      | zero =>
        intro k hk c h2
        obtain rfl : k = kids.length := by omega
        refine spec_nodesLeft_L0_le (bifF (decide_eq_false (by omega)) ?_)
        rw [remN_end, if_pos (by omega)]
        rfl
      | succ m ih =>
        intro k hkm c h2
        have hlt : k < kids.length := by omega
        obtain ⟨o', n', ks, e, hf'⟩ := fit_kid hk hlt
        have hr := remN_succ hlt
        have hlt' := kid_lt hlt (o := o) (n := n)
        rw [e] at hr hlt'
        refine spec_nodesLeft_L0_le (bifT (decide_eq_true (by omega)) (atExpr hlt e (callI (ihs o' n' ks (by omega) hf' c h2) ?_)))
        generalize cS [.int o', .int n', .sl 3 ks] = z at hr
        by_cases hc : 1 + z ≤ c
        · rw [if_pos hc]
          refine bifF (decide_eq_false (by omega)) ?_
          rw [wrk (by omega), ih (k + 1) (by omega) _ (by omega)]
          refine rI_cong ?_
          split <;> split <;> omega
        · rw [if_neg hc, if_neg (by omega)]
          exact bifT rfl rfl
    refine spec_nodesLeft_le ?_
    by_cases h1 : L = 0
    · rw [if_neg (by omega)]
      exact bifT (decide_eq_true (by omega)) rfl
    refine bifF (decide_eq_false (by omega)) ?_
    have w1 : wrapI ((L : Int) - 1) = ((L - 1 : Nat) : Int) := by rw [wr (by omega) (by omega)]; omega
    have := key kids.length 0 (by omega) (L - 1) (by omega)
    rw [remN_zero o n] at this
    rw [w1, show ((0 : Nat) : Int) = 0 from rfl] at *
    refine Eq.trans this ?_
    refine rI_cong ?_
    split <;> split <;> omega
theorem s_nodesOf {o n : Int} {kids : List (List AC)} (hf : Fit .expr [.int o, .int n, .sl 3 kids]) : spec_nodesOf [.agg [.int o, .int n, .sl 3 kids]] = rI (nodV [.int o, .int n, .sl 3 kids]) := by
  refine spec_nodesOf_le (callI (s_left _ o n kids (Nat.lt_succ_self _) hf 30 (by omega)) ?_)
  unfold nodV
  generalize cS [.int o, .int n, .sl 3 kids] = z
  by_cases h : z ≤ 29
  · rw [if_pos (by omega), if_pos h]
    refine bifF (decide_eq_false (by omega)) ?_
    rw [wr (by omega) (by omega)]
    refine rI_cong ?_
    omega
  · rw [if_neg (by omega), if_neg h]
    exact bifT rfl rfl
end Go.Proofs.Ytbodfaghedolbaa
namespace Go.Proofs.Ytbodfaghedolbaa
open Go
def Qr (ns : List Nat) (p : Nat) : List AC := [.sl 1 (ns.map fun (u : Nat) => [.bool true, .int (u : Int)]), .int (p : Int)]
section
variable {ρ : Type} {r : ρ}
theorem callTI {x : Option (AV × List AC)} {n : Int} {q : List AC} (h : x = some (.v (.cell (.int n)), q)) {K : List AC → Fn (Option ρ) (shapesOf [(false, [.int 0])])} (h2 : (K q : Int → Option ρ) n = some r) : callRT x false [(false, [.int 0])] K = some r := by rw [h]; exact h2
theorem callTE {x : Option (AV × List AC)} {o n : Int} {l : List (List AC)} {q : List AC} (h : x = some (.v (.agg [.int o, .int n, .sl 3 l]), q)) {K : List AC → Fn (Option ρ) (shapesOf [(true, [.int 0, .int 0, .sl 3 []])])} (h2 : (K q : Int → Int → List (List AC) → Option ρ) o n l = some r) : callRT x false [(true, [.int 0, .int 0, .sl 3 []])] K = some r := by rw [h]; exact h2
theorem callTS {x : Option (AV × List AC)} {k : Nat} {l : List (List AC)} {q : List AC} (h : x = some (.v (.cell (.sl k l)), q)) {K : List AC → Fn (Option ρ) (shapesOf [(false, [.sl k []])])} (h2 : (K q : List (List AC) → Option ρ) l = some r) : callRT x false [(false, [.sl k []])] K = some r := by
  rw [h]
  exact callS rfl h2
theorem quoTo {a b : Int} {n : Nat} (ha : 0 ≤ a) (hb : 0 < b) (hle : a ≤ 9223372036854775807) (h : a / b = (n : Int)) {K : Int → Option ρ} (h2 : K (n : Int) = some r) : quoR a b K = some r := by
  unfold quoR
  rw [show (b == 0) = false by rw [beq_eq_false_iff_ne]; omega, Int.tdiv_eq_ediv_of_nonneg ha, h]
  have : a / b ≤ a := Int.ediv_le_self _ ha
  rw [wr (by omega) (by omega)]
  exact h2
end
theorem t_pick {ns : List Nat} (hns : ns.length ≤ 2000) {p : Nat} (hp : p ≤ 1000000) {m : Nat} (hm : 1 ≤ m) : ∃ x : Nat, x < m ∧ spec_reader_pick (Qr ns p) [.cell (.int (m : Int))] = some (.v (.cell (.int (x : Int))), Qr ns (p + 1)) := by
  have hrun : pickRun (Qr ns p) [.cell (.int (m : Int))] = some (.v (.cell (.int (pickN ns p m))), Qr ns (p + 1)) := by
    unfold Qr pickRun
    simp only [bytesOf_map, Option.bind_some]
    rw [if_pos ⟨by omega, by omega, hns⟩]
    simp
  have hrange : ∃ x : Nat, x < m ∧ pickN ns p m = (x : Int) := by
    unfold pickN
    split
    · exact ⟨0, by omega, rfl⟩
    · split
      · have h1 := Int.emod_nonneg ((ns.getD p 0 : Nat) : Int) (show (m : Int) ≠ 0 by omega)
        have h2 := Int.emod_lt_of_pos ((ns.getD p 0 : Nat) : Int) (show (0 : Int) < m by omega)
        exact ⟨(((ns.getD p 0 : Nat) : Int) % m).toNat, by omega, by omega⟩
      · generalize bits .xor .i64 _ _ = z
        have h1 := Int.emod_nonneg z (show (m : Int) ≠ 0 by omega)
        have h2 := Int.emod_lt_of_pos z (show (0 : Int) < m by omega)
        exact ⟨(z % m).toNat, by omega, by omega⟩
  obtain ⟨x, hx, e⟩ := hrange
  rw [e] at hrun
  exact ⟨x, hx, TV_ext (by kernel_rfl) (by kernel_rfl : extT 55 = some pickE) hrun⟩
theorem t_one {ns : List Nat} (hns : ns.length ≤ 2000) {p : Nat} (hp : p ≤ 1000000) {xs : List Int} (hx : xs ≠ []) (hl : xs.length ≤ 1000000) : ∃ x ∈ xs, spec_reader_one (Qr ns p) [.cell (.sl 1 (intsC xs))] = some (.v (.cell (.int x)), Qr ns (p + 1)) := by
  have hpos := List.length_pos_iff.2 hx
  obtain ⟨k, hk, h⟩ := t_pick hns hp (m := xs.length) hpos
  refine ⟨xs[k], List.getElem_mem hk, spec_reader_one_le ?_⟩
  rw [intsC_len]
  exact callTI h (atNum hk rfl)
theorem s_node (o n : Int) (l : List (List AC)) : spec_node [.cell (.int o), .cell (.int n), .cell (.sl 3 l)] = some (.v (.agg [.int o, .int n, .sl 3 l])) := spec_node_le rfl
theorem s_integer (n : Int) : spec_integer [.cell (.int n)] = some (.v (.agg [.int 0, .int n, .sl 3 []])) := spec_integer_le rfl
theorem s_variable (n : Int) : spec_variable [.cell (.int n)] = some (.v (.agg [.int 12, .int n, .sl 3 []])) := spec_variable_le rfl
theorem s_con (l : List (List AC)) : spec_con [.cell (.sl 1 l)] = some (.v (.agg [.sl 1 l])) := spec_con_le rfl
theorem t_someInt {ns : List Nat} (hns : ns.length ≤ 2000) {p : Nat} (hp : p + 4 ≤ 1000000) : ∃ x : Int, (-1000 ≤ x ∧ x ≤ 1000) ∧ spec_someInt (Qr ns p) [] = some (.v (.cell (.int x)), Qr ns (p + 4)) := by
  obtain ⟨a, ha, h1⟩ := t_pick hns (p := p) (by omega) (m := 6) (by omega)
  obtain ⟨b, hb, h2⟩ := t_pick hns (p := p + 1) (by omega) (m := 6) (by omega)
  obtain ⟨c, hc, h3⟩ := t_pick hns (p := p + 1 + 1) (by omega) (m := 40) (by omega)
  obtain ⟨x, hx, h4⟩ := t_one hns (p := p + 1 + 1 + 1) (by omega) (xs := [(a : Int), (b : Int), 0, 1, 2, -1, 3, (c : Int), 999, -998]) (by simp) (by simp)
  refine ⟨x, ?_, spec_someInt_le (callTI h1 (callTI h2 (callTI h3 (callTI h4 rfl))))⟩
  simp only [List.mem_cons, List.not_mem_nil, or_false] at hx
  omega
theorem s_isInM (xs : List Int) (n : Int) (hx : xs.length ≤ 1048576) : spec_isIn [.cell (.sl 1 (intsC xs)), .cell (.int n)] = rB (xs.contains n) := by
  have key : ∀ m k : Nat, k + m = xs.length → spec_isIn_L0 (intsC xs) n (k : Int) = some (.v (.cell (.bool ((xs.drop k).contains n)))) := by
    intro m
    induction m with
    | zero =>
      intro k hk
      rw [List.drop_eq_nil_of_le (by omega)]
      exact spec_isIn_L0_le (bifF (decide_eq_false (by rw [intsC_len]; omega)) rfl)
    | succ m ih =>
      intro k hk
      have hlt : k < xs.length := by omega
      have hnext := ih (k + 1) (by omega)
      rw [← wrk (by unfold maxI; omega)] at hnext
      rw [List.drop_eq_getElem_cons hlt, List.contains_cons]
      refine spec_isIn_L0_le (bifT (decide_eq_true (by rw [intsC_len]; omega)) (atNum hlt ?_))
      rcases e : (xs[k] == n) with _ | _
      · rw [show (n == xs[k]) = false by rw [beq_eq_false_iff_ne] at e ⊢; exact fun h => e h.symm, Bool.false_or]
        exact bifF rfl hnext
      · rw [show (n == xs[k]) = true by rw [beq_iff_eq] at e ⊢; exact e.symm, Bool.true_or]
        exact bifT rfl rfl
  exact spec_isIn_le (key xs.length 0 (by omega))
def consL (D : List DM) (t : Int) : List Int := if 1 ≤ t ∧ t ≤ D.length then (List.range (gD D (t.toNat - 1)).cs.length).map fun i => (((sumC (D.take (t.toNat - 1)) + i : Nat)) : Int) else []
theorem s_consL {D : List DM} (hv : DV D) (t : Int) : spec_consOf [.cell (.sl 3 (decsC D)), .cell (.int t)] = rL (consL D t) := by
  have h4 := hv.len
  refine spec_consOf_le (callB (s_inRange _ _ _) ?_)
  rw [decsC_len]
  unfold consL
  by_cases h : 1 ≤ t ∧ t ≤ (D.length : Int)
  rotate_left
  · rw [if_neg h, show (decide (1 ≤ t) && decide (t ≤ (D.length : Int))) = false by rw [← Bool.decide_and]; exact decide_eq_false h]
    exact bifT rfl rfl
  rw [if_pos h, show (decide (1 ≤ t) && decide (t ≤ (D.length : Int))) = true by rw [← Bool.decide_and]; exact decide_eq_true h]
  refine bifF rfl ?_
  have hk : t.toNat - 1 < D.length := by omega
  have h3 := hv.cs _ hk
  have hsum := sumC_le hv.cs (t.toNat - 1) (by omega)
  have key : ∀ m i : Nat, i + m = (gD D (t.toNat - 1)).cs.length → spec_consOf_L0 (decsC D) t (intsC ((List.range i).map fun i => (((sumC (D.take (t.toNat - 1)) + i : Nat)) : Int))) (i : Int) = rL ((List.range (gD D (t.toNat - 1)).cs.length).map fun i => (((sumC (D.take (t.toNat - 1)) + i : Nat)) : Int)) := by
    intro m
    induction m with
    | zero =>
      intro i hi
      refine spec_consOf_L0_le (atDecI (k := t.toNat - 1) (by rw [wr (by omega) (by omega)]; omega) hk ?_)
      rw [consC_len]
      exact bifF (decide_eq_false (by omega)) (by rw [show i = (gD D (t.toNat - 1)).cs.length by omega])
    | succ m ih =>
      intro i hi
      refine spec_consOf_L0_le (atDecI (k := t.toNat - 1) (by rw [wr (by omega) (by omega)]; omega) hk ?_)
      rw [consC_len]
      refine bifT (decide_eq_true (by omega)) ?_
      rw [show wrapI (t - 1) = ((t.toNat - 1 : Nat) : Int) by rw [wr (by omega) (by omega)]; omega]
      refine callI (s_firstCon hv (by omega)) (appTo (by rw [intsC_len]; simp; omega) ?_)
      have hn := ih (i + 1) (by omega)
      rw [List.range_succ, List.map_append] at hn
      rw [wrk (by unfold maxI; omega)]
      rw [show intsC ((List.range i).map fun i => (((sumC (D.take (t.toNat - 1)) + i : Nat)) : Int)) ++ [[AC.int (wrapI (((sumC (D.take (t.toNat - 1)) : Nat) : Int) + (i : Int)))]] = intsC ((List.range i).map (fun i => (((sumC (D.take (t.toNat - 1)) + i : Nat)) : Int)) ++ [i].map (fun i => (((sumC (D.take (t.toNat - 1)) + i : Nat)) : Int))) by
        rw [wr (by omega) (by omega)]
        simp [intsC]]
      exact hn
  exact key (gD D (t.toNat - 1)).cs.length 0 (by omega)
end Go.Proofs.Ytbodfaghedolbaa
namespace Go.Proofs.Ytbodfaghedolbaa
open Go
def decls0 : List DM := [⟨0, 0, [[], [0, 1]]⟩, ⟨0, 0, []⟩, ⟨0, 0, [[], [3, 0, 3]]⟩]
def goodL : List (List DM) := [decls0 ++ [⟨0, 0, [[1, 3]]⟩], decls0 ++ [⟨1, 0, []⟩], decls0 ++ [⟨0, 0, [[1, 1, 0], [0], [3]]⟩], decls0 ++ [⟨0, 1, []⟩], decls0]
theorem good_types : ∀ D ∈ goodL, typesOk D = true := by decide
theorem good_dv {D : List DM} (h : D ∈ goodL) : DV D := dv_of (good_types D h)
theorem good_len {D : List DM} (h : D ∈ goodL) : D.length ≤ 4 := (good_dv h).len
theorem t_goodDecls {ns : List Nat} (hns : ns.length ≤ 2000) {p : Nat} (hp : p ≤ 1000000) : ∃ D ∈ goodL, spec_goodDecls (Qr ns p) [] = some (.v (.cell (.sl 3 (decsC D))), Qr ns (p + 1)) := by
  obtain ⟨x, hx, h1⟩ := t_pick hns hp (m := 5) (by omega)
  rcases (by omega : x = 0 ∨ x = 1 ∨ x = 2 ∨ x = 3 ∨ x = 4) with rfl | rfl | rfl | rfl | rfl
  · exact ⟨decls0 ++ [⟨0, 0, [[1, 3]]⟩], by simp [goodL], spec_goodDecls_le (callCon (s_con _) (callCon (s_con _) (callCon (s_con _) (callCon (s_con _) (callCon (s_con _) (callCon (s_con _) (callCon (s_con _) (callCon (s_con _) (callTI h1 (bifT rfl (atDecl (k := 0) (by decide) rfl (appTo (by decide) rfl))))))))))))⟩
  · exact ⟨decls0 ++ [⟨1, 0, []⟩], by simp [goodL], spec_goodDecls_le (callCon (s_con _) (callCon (s_con _) (callCon (s_con _) (callCon (s_con _) (callCon (s_con _) (callCon (s_con _) (callCon (s_con _) (callCon (s_con _) (callTI h1 (bifT rfl (atDecl (k := 1) (by decide) rfl (appTo (by decide) rfl))))))))))))⟩
  · exact ⟨decls0 ++ [⟨0, 0, [[1, 1, 0], [0], [3]]⟩], by simp [goodL], spec_goodDecls_le (callCon (s_con _) (callCon (s_con _) (callCon (s_con _) (callCon (s_con _) (callCon (s_con _) (callCon (s_con _) (callCon (s_con _) (callCon (s_con _) (callTI h1 (bifT rfl (atDecl (k := 2) (by decide) rfl (appTo (by decide) rfl))))))))))))⟩
  · exact ⟨decls0 ++ [⟨0, 1, []⟩], by simp [goodL], spec_goodDecls_le (callCon (s_con _) (callCon (s_con _) (callCon (s_con _) (callCon (s_con _) (callCon (s_con _) (callCon (s_con _) (callCon (s_con _) (callCon (s_con _) (callTI h1 (bifT rfl (atDecl (k := 3) (by decide) rfl (appTo (by decide) rfl))))))))))))⟩
  · exact ⟨decls0, by simp [goodL], spec_goodDecls_le (callCon (s_con _) (callCon (s_con _) (callCon (s_con _) (callCon (s_con _) (callCon (s_con _) (callCon (s_con _) (callCon (s_con _) (callCon (s_con _) (callTI h1 (bifF rfl rfl))))))))))⟩
def sigL : List (List Int × Int) := [([], 0), ([1], 0), ([1, 1], 1), ([1], 1), ([1, 0], 1), ([2, 1], 1), ([1, 1], 0), ([3], 0), ([0], 1), ([0, 1], 1), ([3, 0], 3), ([3], 1), ([1, 3, 0], 0), ([0], 0), ([0, 0], 0), ([1, 0], 0)]
structure GR (R : List PM) : Prop where
  len : R.length ≤ 4
  sg : ∀ x ∈ R, (x.ps, x.r) ∈ sigL
theorem sig_small : ∀ s ∈ sigL, s.1.length ≤ 3 ∧ (0 ≤ s.2 ∧ s.2 ≤ 3) ∧ ∀ t ∈ s.1, 0 ≤ t ∧ t ≤ 3 := by decide
theorem GR.at {R : List PM} (h : GR R) {k : Nat} (hk : k < R.length) : ((gP R k).ps, (gP R k).r) ∈ sigL := h.sg _ (gP_mem hk)
theorem GR.small {R : List PM} (h : GR R) {k : Nat} (hk : k < R.length) : (gP R k).ps.length ≤ 3 ∧ (0 ≤ (gP R k).r ∧ (gP R k).r ≤ 3) ∧ ∀ t ∈ (gP R k).ps, 0 ≤ t ∧ t ≤ 3 := sig_small _ (h.at hk)
abbrev pgC (D : List DM) (R : List PM) : SV := .agg [.sl 3 (decsC D), .sl 5 (pmsC R)]
def ClOk (D : List DM) (R : List PM) (t : Int) (fs : List Int) : Prop := ∀ f ∈ fs, ∃ k, k < R.length ∧ f = (k : Int) ∧ 0 < (gP R k).ps.length ∧ arrL ((gP R k).ps.getD ((gP R k).ps.length - 1) 0) (gP R k).r D 0 = t
theorem snoc_int (xs : List Int) (x : Int) : intsC xs ++ [[AC.int x]] = intsC (xs ++ [x]) := by simp [intsC]
theorem t_closable {D : List DM} (hD : D.length ≤ 4) {R : List PM} (hR : GR R) (t : Int) : ∃ fs, spec_closable [pgC D R, .cell (.int t)] = rL fs ∧ fs.length ≤ 4 ∧ ClOk D R t fs := by
  have h4 := hR.len
  have key : ∀ m k : Nat, k + m = R.length → ∀ acc : List Int, acc.length ≤ k → ClOk D R t acc → ∃ fs, spec_closable_L0 t (decsC D) (pmsC R) (intsC acc) (k : Int) = rL fs ∧ fs.length ≤ 4 ∧ ClOk D R t fs := by
    intro m
    induction m with
    | zero =>
      intro k hk acc hl ha
      exact ⟨acc, spec_closable_L0_le (bifF (decide_eq_false (by rw [pmsC_len]; omega)) rfl), by omega, ha⟩
    | succ m ih =>
      intro k hk acc hl ha
      have hlt : k < R.length := by omega
      have h3 := (hR.small hlt).1
      have hw : wrapI ((k : Int) + 1) = ((k + 1 : Nat) : Int) := wrk (by unfold maxI; omega)
      by_cases hz : 0 < (gP R k).ps.length
      · by_cases he : arrL ((gP R k).ps.getD ((gP R k).ps.length - 1) 0) (gP R k).r D 0 = t
        · obtain ⟨fs, h1, h2, h5⟩ := ih (k + 1) (by omega) (acc ++ [(k : Int)]) (by simp; omega) (fun f hf => by
            rcases List.mem_append.1 hf with hf | hf
            · exact ha f hf
            · simp only [List.mem_singleton] at hf
              exact ⟨k, hlt, hf, hz, he⟩)
          refine ⟨fs, spec_closable_L0_le (bifT (decide_eq_true (by rw [pmsC_len]; omega)) (atPmI rfl hlt (bifT (decide_eq_true (by rw [intsC_len]; omega)) (atPmI rfl hlt ?_)))), h2, h5⟩
          rw [intsC_len, show wrapI ((((gP R k).ps.length : Nat) : Int) - 1) = (((gP R k).ps.length - 1 : Nat) : Int) by rw [wr (by omega) (by omega)]; omega]
          refine atNum (by omega) (atPmI rfl hlt (callI (s_arrow D (by omega) _ _) ?_))
          rw [List.getD, List.getElem?_eq_getElem (by omega), Option.getD_some] at he
          refine bifT (by rw [he]; simp) (appTo (by rw [intsC_len]; simp; omega) ?_)
          rw [snoc_int, hw]
          exact h1
        · obtain ⟨fs, h1, h2, h5⟩ := ih (k + 1) (by omega) acc (by omega) ha
          refine ⟨fs, spec_closable_L0_le (bifT (decide_eq_true (by rw [pmsC_len]; omega)) (atPmI rfl hlt (bifT (decide_eq_true (by rw [intsC_len]; omega)) (atPmI rfl hlt ?_)))), h2, h5⟩
          rw [intsC_len, show wrapI ((((gP R k).ps.length : Nat) : Int) - 1) = (((gP R k).ps.length - 1 : Nat) : Int) by rw [wr (by omega) (by omega)]; omega]
          refine atNum (by omega) (atPmI rfl hlt (callI (s_arrow D (by omega) _ _) ?_))
          rw [List.getD, List.getElem?_eq_getElem (by omega), Option.getD_some] at he
          refine bifF (by rw [beq_eq_false_iff_ne]; exact he) ?_
          rw [hw]
          exact h1
      · obtain ⟨fs, h1, h2, h5⟩ := ih (k + 1) (by omega) acc (by omega) ha
        refine ⟨fs, spec_closable_L0_le (bifT (decide_eq_true (by rw [pmsC_len]; omega)) (atPmI rfl hlt (bifF (decide_eq_false (by rw [intsC_len]; omega)) ?_))), h2, h5⟩
        rw [hw]
        exact h1
  obtain ⟨fs, h1, h2, h3⟩ := key R.length 0 (by omega) [] (by simp) (fun f hf => by cases hf)
  exact ⟨fs, spec_closable_le h1, h2, h3⟩
theorem t_canMake {D : List DM} (hD : D.length ≤ 4) {R : List PM} (hR : GR R) {V : List Int} (hV : V.length ≤ 1048576) (t : Int) : ∃ b, spec_canMake [pgC D R, .cell (.sl 1 (intsC V)), .cell (.int t)] = rB b := by
  rcases ha : isAr D t with _ | _
  · exact ⟨true, spec_canMake_le (callB (s_isArrow (by omega) t) (bifT (by rw [ha]; rfl) rfl))⟩
  · obtain ⟨fs, h1, h2, h3⟩ := t_closable hD hR t
    by_cases hz : 0 < fs.length
    · exact ⟨true, spec_canMake_le (callB (s_isArrow (by omega) t) (bifF (by rw [ha]; rfl) (callS h1 (bifT (decide_eq_true (by rw [intsC_len]; omega)) rfl))))⟩
    · exact ⟨V.contains t, spec_canMake_le (callB (s_isArrow (by omega) t) (bifF (by rw [ha]; rfl) (callS h1 (bifF (decide_eq_false (by rw [intsC_len]; omega)) (callB (s_isInM V t hV) rfl)))))⟩
theorem t_varsOfType {V : List Int} (hV : V.length ≤ 1048576) (t : Int) : ∃ fs, spec_varsOfType [.cell (.sl 1 (intsC V)), .cell (.int t)] = rL fs ∧ fs.length ≤ V.length ∧ ∀ f ∈ fs, 0 ≤ f ∧ f ≤ 1048576 := by
  have key : ∀ m k : Nat, k + m = V.length → ∀ acc : List Int, acc.length ≤ k → (∀ f ∈ acc, 0 ≤ f ∧ f ≤ 1048576) → ∃ fs, spec_varsOfType_L0 (intsC V) t (intsC acc) (k : Int) = rL fs ∧ fs.length ≤ V.length ∧ ∀ f ∈ fs, 0 ≤ f ∧ f ≤ 1048576 := by
    intro m
    induction m with
    | zero =>
      intro k hk acc hl ha
      exact ⟨acc, spec_varsOfType_L0_le (bifF (decide_eq_false (by rw [intsC_len]; omega)) rfl), by omega, ha⟩
    | succ m ih =>
      intro k hk acc hl ha
      have hlt : k < V.length := by omega
      have hw : wrapI ((k : Int) + 1) = ((k + 1 : Nat) : Int) := wrk (by unfold maxI; omega)
      rcases he : (V[k] == t) with _ | _
      · obtain ⟨fs, h1, h2, h5⟩ := ih (k + 1) (by omega) acc (by omega) ha
        refine ⟨fs, spec_varsOfType_L0_le (bifT (decide_eq_true (by rw [intsC_len]; omega)) (atNum hlt (bifF he ?_))), h2, h5⟩
        rw [hw]
        exact h1
      · obtain ⟨fs, h1, h2, h5⟩ := ih (k + 1) (by omega) (acc ++ [(k : Int)]) (by simp; omega) (fun f hf => by
          rcases List.mem_append.1 hf with hf | hf
          · exact ha f hf
          · simp only [List.mem_singleton] at hf
            omega)
        refine ⟨fs, spec_varsOfType_L0_le (bifT (decide_eq_true (by rw [intsC_len]; omega)) (atNum hlt (bifT he (appTo (by rw [intsC_len]; simp; omega) ?_)))), h2, h5⟩
        rw [snoc_int, hw]
        exact h1
  obtain ⟨fs, h1, h2, h3⟩ := key V.length 0 (by omega) [] (by simp) (fun f hf => by cases hf)
  exact ⟨fs, spec_varsOfType_le h1, h2, h3⟩
theorem t_anyType {D : List DM} (hD : D.length ≤ 4) {R : List PM} (hR : GR R) {V : List Int} (hV : V.length ≤ 1048576) {ns : List Nat} (hns : ns.length ≤ 2000) {p : Nat} (hp : p ≤ 1000000) :
    ∃ t : Int, (0 ≤ t ∧ t ≤ 4) ∧ spec_anyType (Qr ns p) [pgC D R, .cell (.sl 1 (intsC V))] = some (.v (.cell (.int t)), Qr ns (p + 1)) := by
  obtain ⟨x, hx, h1⟩ := t_one hns hp (xs := [1, 1, 3, 0, 2, 4, 3]) (by simp) (by simp)
  have hx4 : 0 ≤ x ∧ x ≤ 4 := by
    simp only [List.mem_cons, List.not_mem_nil, or_false] at hx
    omega
  by_cases hl : x > (((decsC D).length : Nat) : Int)
  · exact ⟨1, by omega, spec_anyType_le (callTI h1 (bifT (decide_eq_true hl) rfl))⟩
  · obtain ⟨b, hb⟩ := t_canMake hD hR hV x
    rcases b with _ | _
    · exact ⟨1, by omega, spec_anyType_le (callTI h1 (bifF (decide_eq_false hl) (callB hb (bifT rfl rfl))))⟩
    · exact ⟨x, hx4, spec_anyType_le (callTI h1 (bifF (decide_eq_false hl) (callB hb (bifF rfl rfl))))⟩
def IxOk (R : List PM) (fs : List Int) : Prop := ∀ f ∈ fs, ∃ k, k < R.length ∧ f = (k : Int)
theorem t_callable {D : List DM} (hD : D.length ≤ 4) {R : List PM} (hR : GR R) (t : Int) : ∃ fs, spec_callable [pgC D R, .cell (.int t)] = rL fs ∧ fs.length ≤ 4 ∧ IxOk R fs := by
  have h4 := hR.len
  have key : ∀ m k : Nat, k + m = R.length → ∀ acc : List Int, acc.length ≤ k → IxOk R acc → ∃ fs, spec_callable_L0 t (decsC D) (pmsC R) (intsC acc) (k : Int) = rL fs ∧ fs.length ≤ 4 ∧ IxOk R fs := by
    intro m
    induction m with
    | zero =>
      intro k hk acc hl ha
      exact ⟨acc, spec_callable_L0_le (bifF (decide_eq_false (by rw [pmsC_len]; omega)) rfl), by omega, ha⟩
    | succ m ih =>
      intro k hk acc hl ha
      have hlt : k < R.length := by omega
      have h3 := (hR.small hlt).1
      have hw : wrapI ((k : Int) + 1) = ((k + 1 : Nat) : Int) := wrk (by unfold maxI; omega)
      have inner : ∀ n i : Nat, i + n = (gP R k).ps.length → ∀ b : Bool, ∃ fs, spec_callable_L2 t (decsC D) (pmsC R) (intsC acc) (k : Int) b (i : Int) = rL fs ∧ fs.length ≤ 4 ∧ IxOk R fs := by
        intro n
        induction n with
        | zero =>
          intro i hi b
          cases b with
          | false =>
            obtain ⟨fs, h1, h2, h5⟩ := ih (k + 1) (by omega) acc (by omega) ha
            refine ⟨fs, spec_callable_L2_le (atPmI rfl hlt (bifF (decide_eq_false (by rw [intsC_len]; omega)) (bifF rfl ?_))), h2, h5⟩
            rw [hw]
            exact h1
          | true =>
            obtain ⟨fs, h1, h2, h5⟩ := ih (k + 1) (by omega) (acc ++ [(k : Int)]) (by simp; omega) (fun f hf => by
              rcases List.mem_append.1 hf with hf | hf
              · exact ha f hf
              · simp only [List.mem_singleton] at hf
                exact ⟨k, hlt, hf⟩)
            refine ⟨fs, spec_callable_L2_le (atPmI rfl hlt (bifF (decide_eq_false (by rw [intsC_len]; omega)) (bifT rfl (appTo (by rw [intsC_len]; simp; omega) ?_)))), h2, h5⟩
            rw [snoc_int, hw]
            exact h1
        | succ n ihn =>
          intro i hi b
          have hil : i < (gP R k).ps.length := by omega
          have hwi : wrapI ((i : Int) + 1) = ((i + 1 : Nat) : Int) := wrk (by unfold maxI; omega)
          cases b with
          | false =>
            obtain ⟨fs, h1, h2, h5⟩ := ihn (i + 1) (by omega) false
            refine ⟨fs, spec_callable_L2_le (atPmI rfl hlt (bifT (decide_eq_true (by rw [intsC_len]; omega)) (bifF rfl ?_))), h2, h5⟩
            rw [hwi]
            exact h1
          | true =>
            obtain ⟨c, hc⟩ := t_canMake hD hR (V := []) (by simp) (gP R k).ps[i]
            obtain ⟨fs, h1, h2, h5⟩ := ihn (i + 1) (by omega) c
            refine ⟨fs, spec_callable_L2_le (atPmI rfl hlt (bifT (decide_eq_true (by rw [intsC_len]; omega)) (bifT rfl (atPmI rfl hlt (atNum hil (callB hc ?_)))))), h2, h5⟩
            rw [hwi]
            exact h1
      obtain ⟨fs, h1, h2, h5⟩ := inner (gP R k).ps.length 0 (by omega) ((gP R k).r == t)
      exact ⟨fs, spec_callable_L0_le (bifT (decide_eq_true (by rw [pmsC_len]; omega)) (atPmI rfl hlt h1)), h2, h5⟩
  rcases Nat.lt_or_ge R.length 1 with h0 | h0
  · exact ⟨[], spec_callable_le (spec_callable_L0_le (bifF (decide_eq_false (by rw [pmsC_len]; omega)) rfl)), by simp, fun f hf => by cases hf⟩
  · obtain ⟨fs, h1, h2, h3⟩ := key (R.length - 1) 1 (by omega) [] (by simp) (fun f hf => by cases hf)
    exact ⟨fs, spec_callable_le h1, h2, h3⟩
end Go.Proofs.Ytbodfaghedolbaa
