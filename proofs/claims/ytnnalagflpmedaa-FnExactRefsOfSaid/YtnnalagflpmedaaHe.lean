/- Valid heaps; the laws of ValidHeap, LiveCells and RefsOf answer true wherever what comes in fits. -/
import Derived.Test.YtnnalagflpmedaaHd
import Derived.Test.YtnnalagflpmedaaDa
set_option linter.unusedVariables false
set_option linter.unusedSimpArgs false
namespace Go.Proofs.Ytnnalagflpmedaa
open Go
/-- Each live cell is counted at least as often as fields point to it. -/
def cntOk (H : List HM) (i : Nat) : Bool := decide ((gH H i).c ≤ 0) || decide (((allF H).count (1000 + (i : Int)) : Nat) ≤ (gH H i).c)
def lastOk (H : List HM) : Bool := decide (H.length = 0) || !((gH H (H.length - 1)).c == 0)
noncomputable def vH (H : List HM) : Bool := H.all (vc H) && (lastOk H && ((List.range H.length).all (cntOk H) && acyB H))
theorem range_drop {n k : Nat} (h : k < n) (f : Nat → Bool) : ((List.range n).drop k).all f = (f k && ((List.range n).drop (k + 1)).all f) := by
  have : k < (List.range n).length := by simpa using h
  rw [all_drop1 this, List.getElem_range]
theorem live_drop {H : List HM} {k : Nat} (hk : k < H.length) : (H.drop k).countP (fun m => decide (0 < m.c)) = (H.drop (k + 1)).countP (fun m => decide (0 < m.c)) + (if 0 < (gH H k).c then 1 else 0) := by
  rw [List.drop_eq_getElem_cons hk, List.countP_cons, ← gH_eq hk]
  by_cases h : 0 < (gH H k).c <;> simp [h]
section
variable {H : List HM} (h : HOk H)
include h
theorem HOk.ints : ∀ m ∈ H, IntsOk m.fs := fun m hm => (h.all m hm).2.2
theorem i_validHeap : impl_ValidHeap [.cell (.sl 3 (heapC H))] = oB (vH H) := by
  have hl := h.len
  have hlen : (((heapC H).length : Nat) : Int) = H.length := by rw [heapC_len]
  -- the counts
  have rest : H.all (vc H) = true → impl_ValidHeap_L2 (heapC H) (intsC (refsN (allF H) H.length)) (heapC H) (((heapC H).length : Nat) : Int) 0 = oB ((List.range H.length).all (cntOk H) && acyB H) := by
    intro hv
    have hf : FOk H := vc_fok h.ints (by simpa using hv)
    have key : ∀ m k : Nat, k + m = H.length → impl_ValidHeap_L2 (heapC H) (intsC (refsN (allF H) H.length)) (heapC H) (((heapC H).length : Nat) : Int) (k : Int) = oB (((List.range H.length).drop k).all (cntOk H) && acyB H) := by
      intro m
      induction m with
      | zero =>
        intro k hk
        rw [List.drop_eq_nil_of_le (by simp; omega)]
        refine impl_ValidHeap_L2_le (bifF (decide_eq_false (by omega)) (callB (i_hasCircle hl h.ints hf h.tot) ?_))
        rw [Bool.not_not, List.all_nil, Bool.true_and]
      | succ m ih =>
        intro k hk
        have hlt : k < H.length := by omega
        have hkr : k < (refsN (allF H) H.length).length := by rw [refsN_len]; exact hlt
        rw [range_drop hlt]
        have hnext := ih (k + 1) (by omega)
        rw [← wrk (by unfold maxI; omega)] at hnext
        refine impl_ValidHeap_L2_le (bifT (decide_eq_true (by omega)) (atCellH hlt (atNum hkr ?_)))
        rw [refsN_get hkr]
        unfold cntOk
        by_cases h1 : (((allF H).count (1000 + (k : Int)) : Nat) : Int) ≤ (gH H k).c
        · rw [decide_eq_true h1, Bool.or_true, Bool.true_and]
          exact bifF (decide_eq_false (by omega)) hnext
        · rw [decide_eq_false h1, Bool.or_false]
          refine bifT (decide_eq_true (by omega)) ?_
          by_cases h2 : (gH H k).c ≤ 0
          · rw [decide_eq_true h2, Bool.true_and]
            exact bifF (decide_eq_false (by omega)) hnext
          · rw [decide_eq_false h2]
            exact bifT (decide_eq_true (by omega)) rfl
    have := key H.length 0 (by omega)
    rwa [List.drop_zero] at this
  have key : ∀ m k : Nat, k + m = H.length → (H.take k).all (vc H) = true → impl_ValidHeap_L0 (heapC H) (heapC H) (((heapC H).length : Nat) : Int) (k : Int) = oB ((H.drop k).all (vc H) && (lastOk H && ((List.range H.length).all (cntOk H) && acyB H))) := by
    intro m
    induction m with
    | zero =>
      intro k hk hv
      have hkn : k = H.length := by omega
      rw [hkn, List.take_length] at hv
      have r2 := rest hv
      have hf : FOk H := vc_fok h.ints (by simpa using hv)
      rw [List.drop_eq_nil_of_le (by omega), List.all_nil, Bool.true_and]
      refine impl_ValidHeap_L0_le (bifF (decide_eq_false (by omega)) ?_)
      by_cases h0 : H.length = 0
      · refine bifF (decide_eq_false (by omega)) (callS (i_allRefs hl h.ints hf h.tot) ?_)
        rw [show lastOk H = true by unfold lastOk; simp [h0], Bool.true_and]
        exact r2
      · have hw : wrapI ((((heapC H).length : Nat) : Int) - 1) = ((H.length - 1 : Nat) : Int) := by
          rw [hlen, wr (by omega) (by omega)]
          omega
        refine bifT (decide_eq_true (by omega)) ?_
        rw [hw]
        refine atCellH (by omega) ?_
        unfold lastOk
        rw [decide_eq_false h0, Bool.false_or]
        rcases ((gH H (H.length - 1)).c == 0) with _ | _
        · refine bifF rfl (callS (i_allRefs hl h.ints hf h.tot) ?_)
          rw [Bool.not_false, Bool.true_and]
          exact r2
        · exact bifT rfl rfl
    | succ m ih =>
      intro k hk hv
      have hlt : k < H.length := by omega
      rw [all_drop1 hlt]
      refine impl_ValidHeap_L0_le (bifT (decide_eq_true (by omega)) (atCellH hlt (callB (i_validCell (h.ints _ (gH_mem hlt))) ?_)))
      rw [← gH_eq hlt]
      rcases hvk : vc H (gH H k) with _ | _
      · exact bifT rfl rfl
      · rw [wrk (by unfold maxI; omega), Bool.true_and]
        refine bifF rfl (ih (k + 1) (by omega) ?_)
        rw [List.take_succ_eq_append_getElem hlt, List.all_append, hv, ← gH_eq hlt]
        simp [hvk]
  have := key H.length 0 (by omega) rfl
  rw [List.drop_zero] at this
  exact impl_ValidHeap_le this
theorem s_validHeap : spec_validHeap [.cell (.sl 3 (heapC H))] = oB (vH H) := by
  have hl := h.len
  have hlen : (((heapC H).length : Nat) : Int) = H.length := by rw [heapC_len]
  have rest : H.all (vc H) = true → spec_validHeap_L2 (heapC H) (intsC (refsN (allF H) H.length)) 0 = oB ((List.range H.length).all (cntOk H) && acyB H) := by
    intro hv
    have hf : FOk H := vc_fok h.ints (by simpa using hv)
    have key : ∀ m k : Nat, k + m = H.length → spec_validHeap_L2 (heapC H) (intsC (refsN (allF H) H.length)) (k : Int) = oB (((List.range H.length).drop k).all (cntOk H) && acyB H) := by
      intro m
      induction m with
      | zero =>
        intro k hk
        rw [List.drop_eq_nil_of_le (by simp; omega)]
        refine spec_validHeap_L2_le (bifF (decide_eq_false (by omega)) (callB (s_isAcyclic hl h.ints hf) ?_))
        rw [List.all_nil, Bool.true_and]
      | succ m ih =>
        intro k hk
        have hlt : k < H.length := by omega
        have hkr : k < (refsN (allF H) H.length).length := by rw [refsN_len]; exact hlt
        rw [range_drop hlt]
        have hnext := ih (k + 1) (by omega)
        rw [← wrk (by unfold maxI; omega)] at hnext
        refine spec_validHeap_L2_le (bifT (decide_eq_true (by omega)) (atCellH hlt ?_))
        unfold cntOk
        by_cases h2 : (gH H k).c ≤ 0
        · rw [decide_eq_true h2, Bool.true_or, Bool.true_and]
          exact bifF (decide_eq_false (by omega)) hnext
        · rw [decide_eq_false h2, Bool.false_or]
          refine bifT (decide_eq_true (by omega)) (atCellH hlt (atNum hkr ?_))
          rw [refsN_get hkr]
          by_cases h1 : (((allF H).count (1000 + (k : Int)) : Nat) : Int) ≤ (gH H k).c
          · rw [decide_eq_true h1, Bool.true_and]
            exact bifF (decide_eq_false (by omega)) hnext
          · rw [decide_eq_false h1]
            exact bifT (decide_eq_true (by omega)) rfl
    have := key H.length 0 (by omega)
    rwa [List.drop_zero] at this
  have key : ∀ m k : Nat, k + m = H.length → (H.take k).all (vc H) = true → spec_validHeap_L0 (heapC H) (k : Int) = oB ((H.drop k).all (vc H) && ((List.range H.length).all (cntOk H) && acyB H)) := by
    intro m
    induction m with
    | zero =>
      intro k hk hv
      have hkn : k = H.length := by omega
      rw [hkn, List.take_length] at hv
      have hf : FOk H := vc_fok h.ints (by simpa using hv)
      rw [List.drop_eq_nil_of_le (by omega), List.all_nil, Bool.true_and]
      exact spec_validHeap_L0_le (bifF (decide_eq_false (by omega)) (callS (s_refsOf hl h.ints hf h.tot) (rest hv)))
    | succ m ih =>
      intro k hk hv
      have hlt : k < H.length := by omega
      rw [all_drop1 hlt]
      refine spec_validHeap_L0_le (bifT (decide_eq_true (by omega)) (atCellH hlt (callB (s_validCell hl (h.ints _ (gH_mem hlt))) ?_)))
      rw [← gH_eq hlt]
      rcases hvk : vc H (gH H k) with _ | _
      · exact bifT rfl rfl
      · rw [wrk (by unfold maxI; omega), Bool.true_and]
        refine bifF rfl (ih (k + 1) (by omega) ?_)
        rw [List.take_succ_eq_append_getElem hlt, List.all_append, hv, ← gH_eq hlt]
        simp [hvk]
  have start := key H.length 0 (by omega) rfl
  rw [List.drop_zero] at start
  unfold vH
  by_cases h0 : H.length = 0
  · rw [show lastOk H = true by unfold lastOk; simp [h0], Bool.true_and]
    exact spec_validHeap_le (bifF (decide_eq_false (by omega)) start)
  · have hw : wrapI ((((heapC H).length : Nat) : Int) - 1) = ((H.length - 1 : Nat) : Int) := by
      rw [hlen, wr (by omega) (by omega)]
      omega
    refine spec_validHeap_le (bifT (decide_eq_true (by omega)) ?_)
    rw [hw]
    refine atCellH (by omega) ?_
    have hlo : lastOk H = !((gH H (H.length - 1)).c == 0) := by unfold lastOk; rw [decide_eq_false h0, Bool.false_or]
    rw [hlo]
    rcases ((gH H (H.length - 1)).c == 0) with _ | _
    · rw [Bool.not_false, Bool.true_and]
      exact bifF rfl start
    · rw [Bool.not_true, Bool.false_and, Bool.and_false]
      exact bifT rfl rfl
/-! How many cells are live. -/
theorem i_liveCells : impl_LiveCells [.cell (.sl 3 (heapC H))] = oI (if vH H then ((H.countP fun m => decide (0 < m.c) : Nat) : Int) else -1) := by
  have hl := h.len
  refine impl_LiveCells_le (callB (i_validHeap h) ?_)
  rcases vH H with _ | _
  · exact bifT rfl rfl
  · have key : ∀ m k c : Nat, k + m = H.length → c + (H.drop k).countP (fun m => decide (0 < m.c)) = H.countP (fun m => decide (0 < m.c)) → impl_LiveCells_L0 (heapC H) (c : Int) (((heapC H).length : Nat) : Int) (k : Int) = oI ((H.countP fun m => decide (0 < m.c) : Nat) : Int) := by
      intro m
      induction m with
      | zero =>
        intro k c hk hc
        rw [List.drop_eq_nil_of_le (by omega)] at hc
        refine impl_LiveCells_L0_le (bifF (decide_eq_false (by rw [heapC_len]; omega)) ?_)
        rw [← hc]
        rfl
      | succ m ih =>
        intro k c hk hc
        have hlt : k < H.length := by omega
        have hb : H.countP (fun m => decide (0 < m.c)) ≤ H.length := List.countP_le_length
        rw [live_drop hlt] at hc
        have hlv : liveI H (k : Int) = decide (0 < (gH H k).c) := by
          unfold liveI
          rw [decide_eq_true (by omega), decide_eq_true (by omega)]
          rfl
        refine impl_LiveCells_L0_le (bifT (decide_eq_true (by rw [heapC_len]; omega)) (callB (i_isLive _) ?_))
        rw [hlv, wrk (k := k) (by unfold maxI; omega)]
        by_cases hp : 0 < (gH H k).c
        · rw [if_pos hp] at hc
          refine bifT (decide_eq_true hp) ?_
          rw [wrk (by unfold maxI; omega)]
          exact ih (k + 1) (c + 1) (by omega) (by omega)
        · rw [if_neg hp] at hc
          exact bifF (decide_eq_false hp) (ih (k + 1) c (by omega) (by omega))
    exact bifF rfl (key H.length 0 0 (by omega) (by simp))
theorem s_liveCells : spec_LiveCells [.cell (.sl 3 (heapC H))] = oI (if vH H then ((H.countP fun m => decide (0 < m.c) : Nat) : Int) else -1) := by
  have hl := h.len
  refine spec_LiveCells_le (callB (s_validHeap h) ?_)
  rcases vH H with _ | _
  · exact bifT rfl rfl
  · have key : ∀ m k c : Nat, k + m = H.length → c + (H.drop k).countP (fun m => decide (0 < m.c)) = H.countP (fun m => decide (0 < m.c)) → spec_liveCells_L0 (heapC H) (c : Int) (k : Int) = oI ((H.countP fun m => decide (0 < m.c) : Nat) : Int) := by
      intro m
      induction m with
      | zero =>
        intro k c hk hc
        rw [List.drop_eq_nil_of_le (by omega)] at hc
        refine spec_liveCells_L0_le (bifF (decide_eq_false (by rw [heapC_len]; omega)) ?_)
        rw [← hc]
        rfl
      | succ m ih =>
        intro k c hk hc
        have hlt : k < H.length := by omega
        have hb : H.countP (fun m => decide (0 < m.c)) ≤ H.length := List.countP_le_length
        rw [live_drop hlt] at hc
        refine spec_liveCells_L0_le (bifT (decide_eq_true (by rw [heapC_len]; omega)) (atCellH hlt ?_))
        rw [wrk (k := k) (by unfold maxI; omega)]
        by_cases hp : 0 < (gH H k).c
        · rw [if_pos hp] at hc
          refine bifT (decide_eq_true hp) ?_
          rw [wrk (by unfold maxI; omega)]
          exact ih (k + 1) (c + 1) (by omega) (by omega)
        · rw [if_neg hp] at hc
          exact bifF (decide_eq_false hp) (ih (k + 1) c (by omega) (by omega))
    exact bifF rfl (callI (spec_liveCells_le (key H.length 0 0 (by omega) (by simp))) rfl)
/-! How many fields point to a cell. -/
theorem refs_ex {n : Int} (hn : inI n) : ∃ x, impl_RefsOf [.cell (.sl 3 (heapC H)), .cell (.int n)] = oI x ∧ spec_RefsOf [.cell (.sl 3 (heapC H)), .cell (.int n)] = oI x := by
  have hl := h.len
  rcases hv : vH H with _ | _
  · exact ⟨-1, impl_RefsOf_le (callB ((i_validHeap h).trans (by rw [hv])) (bifT rfl rfl)), spec_RefsOf_le (callB ((s_validHeap h).trans (by rw [hv])) (bifT rfl rfl))⟩
  have hf : FOk H := by
    unfold vH at hv
    rw [Bool.and_eq_true, List.all_eq_true] at hv
    exact vc_fok h.ints hv.1
  have iv := (i_validHeap h).trans (by rw [hv])
  have sv := (s_validHeap h).trans (by rw [hv])
  have hw : wrapI ((((heapC H).length : Nat) : Int) - 1) = (H.length : Int) - 1 := by rw [heapC_len]; exact wr (by omega) (by omega)
  by_cases h0 : 0 ≤ n
  rotate_left
  · refine ⟨-1, impl_RefsOf_le (callB iv (bifF rfl (callB ((i_isLive n).trans (by rw [show liveI H n = false by unfold liveI; rw [decide_eq_false h0]; rfl])) (bifT rfl rfl)))), spec_RefsOf_le (callB sv (bifF rfl ?_))⟩
    exact callB ((s_inRange _ _ _).trans (by rw [decide_eq_false h0, Bool.false_and])) (bifT rfl rfl)
  obtain ⟨k, rfl⟩ := Int.eq_ofNat_of_zero_le h0
  by_cases hk : k < H.length
  rotate_left
  · refine ⟨-1, impl_RefsOf_le (callB iv (bifF rfl (callB ((i_isLive _).trans (by rw [show liveI H (k : Int) = false by unfold liveI; rw [decide_eq_false (show ¬ (k : Int) < H.length by omega), Bool.and_false]; rfl])) (bifT rfl rfl)))), spec_RefsOf_le (callB sv (bifF rfl ?_))⟩
    rw [hw]
    exact callB ((s_inRange _ _ _).trans (by rw [decide_eq_false (show ¬ (k : Int) ≤ (H.length : Int) - 1 by omega), Bool.and_false])) (bifT rfl rfl)
  have hlv : liveI H (k : Int) = decide (0 < (gH H k).c) := by
    unfold liveI
    rw [decide_eq_true h0, decide_eq_true (by omega)]
    rfl
  have hin : spec_inRange [.cell (.int (k : Int)), .cell (.int 0), .cell (.int (wrapI ((((heapC H).length : Nat) : Int) - 1)))] = oB true := by
    rw [hw, s_inRange, decide_eq_true h0, decide_eq_true (by omega)]
    rfl
  by_cases hp : 0 < (gH H k).c
  · have hkr : k < (refsN (allF H) H.length).length := by rw [refsN_len]; exact hk
    exact ⟨(refsN (allF H) H.length)[k], impl_RefsOf_le (callB iv (bifF rfl (callB ((i_isLive _).trans (by rw [hlv, decide_eq_true hp])) (bifF rfl (callS (i_allRefs hl h.ints hf h.tot) (atNum hkr rfl)))))),
      spec_RefsOf_le (callB sv (bifF rfl (callB hin (bifF rfl (atCellH hk (bifF (decide_eq_false (by omega)) (callS (s_refsOf hl h.ints hf h.tot) (atNum hkr rfl))))))))⟩
  · exact ⟨-1, impl_RefsOf_le (callB iv (bifF rfl (callB ((i_isLive _).trans (by rw [hlv, decide_eq_false hp])) (bifT rfl rfl)))),
      spec_RefsOf_le (callB sv (bifF rfl (callB hin (bifF rfl (atCellH hk (bifT (decide_eq_true (by omega)) rfl))))))⟩
end
/-! The laws. -/
theorem callC3 {ρ : Type} {r : ρ} {x : Option AV} {l : List (List AC)} (h : x = some (.v (.cell (.sl 3 l)))) {K : Fn (Option ρ) (shapesOf [(false, [.sl 3 []])])} (h2 : (K : List (List AC) → Option ρ) l = some r) : callR x false [(false, [.sl 3 []])] K = some r := callS h h2
theorem hok_of {H : List HM} (hH : ∀ m ∈ H, inI m.c ∧ inI m.t ∧ IntsOk m.fs) {s : Nat} (hs : (heapC H).length + rsS (heapC H) = s) (hb : s ≤ 1048576) : HOk H := by
  rw [heapC_len, heap_size] at hs
  exact ⟨by omega, by omega, hH⟩
theorem nef' {b : Bool} : (b != b) = false := by cases b <;> rfl
theorem neI (n : Int) : (n != n) = false := by simp
theorem law_ValidHeap {rows : List (List AC)} (hl : rows.length ≤ maxI) (hf : ∀ r ∈ rows, Fit .cell r) : laws_FnExactValidHeap [.cell (.sl 3 rows)] = oB true := by
  obtain ⟨n, g, s⟩ := sz_CellS rows hl hf (fun x hx => sz_fit (hf x hx)) 1048576 (by omega) (by omega)
  rcases s with ⟨c, rfl⟩ | ⟨c, rfl⟩
  rotate_left
  · exact laws_FnExactValidHeap_le (callI g (bifT rfl rfl))
  have t := to_CellS rows (by omega) hf (fun x hx => to_fit (hf x hx) (by have := rsS_mem hx; omega))
  have e := eq_CellS rows hl hf (fun x hx => eq_fit (hf x hx))
  obtain ⟨H, rfl, hH⟩ := heap_of hf
  have h := hok_of hH rfl (by omega)
  exact laws_FnExactValidHeap_le (callI g (bifF (decide_eq_false (by omega)) (callC3 t (callB (spec_ValidHeap_le (callB (s_validHeap h) rfl)) (callC3 t (callB (i_validHeap h) (bifF nef' (callC3 t (callB e (bifF rfl rfl))))))))))
theorem law_LiveCells {rows : List (List AC)} (hl : rows.length ≤ maxI) (hf : ∀ r ∈ rows, Fit .cell r) : laws_FnExactLiveCells [.cell (.sl 3 rows)] = oB true := by
  obtain ⟨n, g, s⟩ := sz_CellS rows hl hf (fun x hx => sz_fit (hf x hx)) 1048576 (by omega) (by omega)
  rcases s with ⟨c, rfl⟩ | ⟨c, rfl⟩
  rotate_left
  · exact laws_FnExactLiveCells_le (callI g (bifT rfl rfl))
  have t := to_CellS rows (by omega) hf (fun x hx => to_fit (hf x hx) (by have := rsS_mem hx; omega))
  have e := eq_CellS rows hl hf (fun x hx => eq_fit (hf x hx))
  obtain ⟨H, rfl, hH⟩ := heap_of hf
  have h := hok_of hH rfl (by omega)
  exact laws_FnExactLiveCells_le (callI g (bifF (decide_eq_false (by omega)) (callC3 t (callI (s_liveCells h) (callC3 t (callI (i_liveCells h) (bifF (neI _) (callC3 t (callB e (bifF rfl rfl))))))))))
theorem law_RefsOf {rows : List (List AC)} (hl : rows.length ≤ maxI) (hf : ∀ r ∈ rows, Fit .cell r) {n : Int} (hn : inI n) : laws_FnExactRefsOf [.cell (.sl 3 rows), .cell (.int n)] = oB true := by
  obtain ⟨m, g, s⟩ := sz_CellS rows hl hf (fun x hx => sz_fit (hf x hx)) 1048576 (by omega) (by omega)
  rcases s with ⟨c, rfl⟩ | ⟨c, rfl⟩
  rotate_left
  · exact laws_FnExactRefsOf_le (callI g (bifT rfl rfl))
  have t := to_CellS rows (by omega) hf (fun x hx => to_fit (hf x hx) (by have := rsS_mem hx; omega))
  have e := eq_CellS rows hl hf (fun x hx => eq_fit (hf x hx))
  obtain ⟨H, rfl, hH⟩ := heap_of hf
  have h := hok_of hH rfl (by omega)
  obtain ⟨x, h1, h2⟩ := refs_ex h hn
  exact laws_FnExactRefsOf_le (callI g (bifF (decide_eq_false (by omega)) (callC3 t (callI h2 (callC3 t (callI h1 (bifF (neI _) (callC3 t (callB e (bifF rfl rfl))))))))))
end Go.Proofs.Ytnnalagflpmedaa
