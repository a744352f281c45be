/- Valid states; the law of ValidState answers true wherever what comes in fits. -/
import Derived.Test.YthfihhejbplmfaaGreatHj
import Derived.Test.YthfihhejbplmfaaGreatQo
set_option linter.unusedVariables false
set_option linter.unusedSimpArgs false
namespace Go.Proofs.YthfihhejbplmfaaGreat
open Go
theorem i_allInts {xs : List Int} (hx : xs.length ≤ maxI) : impl_allInInts [.cell (.sl 1 (intsC xs))] = oB (xs.all isInt) := by
  have key : ∀ m k : Nat, k + m = xs.length → impl_allInInts_L0 (intsC xs) (((intsC xs).length : Nat) : Int) (k : Int) = oB ((xs.drop k).all isInt) := by
    intro m
    induction m with
    | zero =>
      intro k hk
      rw [List.drop_eq_nil_of_le (by omega)]
      exact impl_allInInts_L0_le (bifF (decide_eq_false (by rw [intsC_len]; omega)) rfl)
    | succ m ih =>
      intro k hk
      have hlt : k < xs.length := by omega
      rw [List.drop_eq_getElem_cons hlt, List.all_cons]
      have hnext := ih (k + 1) (by omega)
      rw [← wrk (by omega)] at hnext
      refine impl_allInInts_L0_le (bifT (decide_eq_true (by rw [intsC_len]; omega)) (atNum hlt (callB (i_inIntsH _) ?_)))
      rcases isInt xs[k] with _ | _
      · exact bifT rfl rfl
      · exact bifF rfl hnext
  exact impl_allInInts_le (key xs.length 0 (by omega))
theorem s_allInts {xs : List Int} (hx : xs.length ≤ maxI) : spec_allInRange [.cell (.sl 1 (intsC xs))] = oB (xs.all isInt) := by
  have key : ∀ m k : Nat, k + m = xs.length → spec_allInRange_L0 (intsC xs) (k : Int) = oB ((xs.drop k).all isInt) := by
    intro m
    induction m with
    | zero =>
      intro k hk
      rw [List.drop_eq_nil_of_le (by omega)]
      exact spec_allInRange_L0_le (bifF (decide_eq_false (by rw [intsC_len]; omega)) rfl)
    | succ m ih =>
      intro k hk
      have hlt : k < xs.length := by omega
      rw [List.drop_eq_getElem_cons hlt, List.all_cons]
      have hnext := ih (k + 1) (by omega)
      rw [← wrk (by omega)] at hnext
      refine spec_allInRange_L0_le (bifT (decide_eq_true (by rw [intsC_len]; omega)) (atNum hlt (callB (s_inRangeH _ _ _) ?_)))
      rw [show (decide (-999 ≤ xs[k]) && decide (xs[k] ≤ 999)) = isInt xs[k] from rfl]
      rcases isInt xs[k] with _ | _
      · exact bifT rfl rfl
      · exact bifF rfl hnext
  exact spec_allInRange_le (key xs.length 0 (by omega))
theorem neq_iff (s : Int) (n : Nat) : ((s == 0) != ((n : Int) == 0)) = !decide (s = 0 ↔ n = 0) := by
  by_cases h1 : s = 0 <;> by_cases h2 : n = 0
  · simp [h1, h2]
  · have : ((n : Int) == 0) = false := by simp [h2]
    rw [this]
    simp [h1, h2]
  · have : (s == 0) = false := by simp [h1]
    rw [this]
    simp [h1, h2]
  · have e1 : ((n : Int) == 0) = false := by simp [h2]
    have e2 : (s == 0) = false := by simp [h1]
    rw [e1, e2]
    simp [h1, h2]
theorem i_inCalls (n : Int) : impl_inCalls [.cell (.int n)] = oB (decide (0 ≤ n) && decide (n ≤ 40)) := by
  by_cases h : 0 ≤ n
  · exact impl_inCalls_le (bifT (decide_eq_true h) (by rw [decide_eq_true h]; rfl))
  · exact impl_inCalls_le (bifF (decide_eq_false h) (by rw [decide_eq_false h]; rfl))
/-- The numbers of a state. -/
def nmB (s v c m : Int) (out : List Int) (n : Nat) : Bool := decide (0 ≤ s ∧ s ≤ 3 ∧ (s = 0 ↔ n = 0) ∧ (-999 ≤ v ∧ v ≤ 999) ∧ (v = 0 ∨ s = 0) ∧ (0 ≤ m ∧ m ≤ 40) ∧ 0 ≤ c ∧ c ≤ m ∧ (n : Int) ≤ c + 1) && out.all isInt
section
variable {s v c m : Int} {out : List Int} {H : List HM} {F : List FM} {ds ps : List (List AC)}
theorem i_numbers (ho : out.length ≤ maxI) : impl_validNumbers [.agg [.int s, .int v, .int c, .int m, .sl 1 (intsC out), .sl 3 (heapC H), .sl 6 (frsC F)]] = oB (nmB s v c m out F.length) := by
  have no : ∀ {P : Prop} [Decidable P], ¬ P → (decide P && out.all isInt) = false := fun h => by rw [decide_eq_false h]; rfl
  have tail : (callR (impl_allInInts [.cell (.sl 1 (intsC out))]) false [(false, [.bool false])] fun b9 : Bool =>
      bif (!b9) then some (.v (.cell (.bool false))) else
        callR (impl_inCalls [.cell (.int m)]) false [(false, [.bool false])] fun b10 : Bool =>
        bif b10 then
          bif (decide (c ≥ 0)) then
            bif (decide (c ≤ m)) then some (.v (.cell (.bool (decide ((((frsC F).length : Nat) : Int) ≤ wrapI (c + 1)))))) else some (.v (.cell (.bool false)))
          else some (.v (.cell (.bool false)))
        else some (.v (.cell (.bool false)))) = oB (decide ((0 ≤ m ∧ m ≤ 40) ∧ 0 ≤ c ∧ c ≤ m ∧ ((F.length : Nat) : Int) ≤ c + 1) && out.all isInt) := by
    refine callB (i_allInts ho) ?_
    rcases out.all isInt with _ | _
    · rw [Bool.and_false]; exact bifT rfl rfl
    rw [Bool.and_true]
    refine bifF rfl (callB (i_inCalls m) ?_)
    by_cases h1 : 0 ≤ m ∧ m ≤ 40
    rotate_left
    · rw [decide_eq_false (show ¬ ((0 ≤ m ∧ m ≤ 40) ∧ 0 ≤ c ∧ c ≤ m ∧ ((F.length : Nat) : Int) ≤ c + 1) from fun h => h1 h.1)]
      refine bifF ?_ rfl
      rw [← Bool.decide_and, decide_eq_false h1]
    refine bifT (by rw [decide_eq_true h1.1, decide_eq_true h1.2]; rfl) ?_
    by_cases h2 : 0 ≤ c
    rotate_left
    · rw [decide_eq_false (show ¬ ((0 ≤ m ∧ m ≤ 40) ∧ 0 ≤ c ∧ c ≤ m ∧ ((F.length : Nat) : Int) ≤ c + 1) from fun h => h2 h.2.1)]
      exact bifF (decide_eq_false h2) rfl
    refine bifT (decide_eq_true h2) ?_
    by_cases h3 : c ≤ m
    rotate_left
    · rw [decide_eq_false (show ¬ ((0 ≤ m ∧ m ≤ 40) ∧ 0 ≤ c ∧ c ≤ m ∧ ((F.length : Nat) : Int) ≤ c + 1) from fun h => h3 h.2.2.1)]
      exact bifF (decide_eq_false h3) rfl
    refine bifT (decide_eq_true h3) ?_
    rw [frsC_len, wr (by omega) (by omega)]
    by_cases h4 : ((F.length : Nat) : Int) ≤ c + 1
    · rw [decide_eq_true h4, decide_eq_true (show ((0 ≤ m ∧ m ≤ 40) ∧ 0 ≤ c ∧ c ≤ m ∧ ((F.length : Nat) : Int) ≤ c + 1) from ⟨h1, h2, h3, h4⟩)]
    · rw [decide_eq_false h4, decide_eq_false (show ¬ ((0 ≤ m ∧ m ≤ 40) ∧ 0 ≤ c ∧ c ≤ m ∧ ((F.length : Nat) : Int) ≤ c + 1) from fun h => h4 h.2.2.2)]
  unfold nmB
  refine impl_validNumbers_le ?_
  by_cases s0 : 0 ≤ s
  rotate_left
  · rw [no (fun h => s0 h.1)]; exact bifT (decide_eq_true (by omega)) rfl
  refine bifF (decide_eq_false (by omega)) ?_
  by_cases s1 : s ≤ 3
  rotate_left
  · rw [no (fun h => s1 h.2.1)]; exact bifT (decide_eq_true (by omega)) rfl
  refine bifF (decide_eq_false (by omega)) ?_
  by_cases s2 : (s = 0 ↔ F.length = 0)
  rotate_left
  · rw [no (fun h => s2 h.2.2.1)]; exact bifT (by rw [frsC_len, neq_iff, decide_eq_false s2]; rfl) rfl
  refine bifF (by rw [frsC_len, neq_iff, decide_eq_true s2]; rfl) (callB (i_inIntsH v) ?_)
  by_cases v0 : -999 ≤ v ∧ v ≤ 999
  rotate_left
  · rw [no (fun h => v0 h.2.2.2.1)]
    exact bifT (by unfold isInt; rw [← Bool.decide_and, decide_eq_false v0]; rfl) rfl
  refine bifF (by unfold isInt; rw [← Bool.decide_and, decide_eq_true v0]; rfl) ?_
  have same : (v = 0 ∨ s = 0) → (decide (0 ≤ s ∧ s ≤ 3 ∧ (s = 0 ↔ F.length = 0) ∧ (-999 ≤ v ∧ v ≤ 999) ∧ (v = 0 ∨ s = 0) ∧ (0 ≤ m ∧ m ≤ 40) ∧ 0 ≤ c ∧ c ≤ m ∧ ((F.length : Nat) : Int) ≤ c + 1)) = decide ((0 ≤ m ∧ m ≤ 40) ∧ 0 ≤ c ∧ c ≤ m ∧ ((F.length : Nat) : Int) ≤ c + 1) := fun h => by
    rw [decide_eq_decide]
    exact ⟨fun g => g.2.2.2.2.2, fun g => ⟨s0, s1, s2, v0, h, g⟩⟩
  by_cases hv : v = 0
  · rw [same (.inl hv)]
    exact bifF (by rw [hv]; rfl) tail
  · refine bifT (by simp [bne, hv]) ?_
    by_cases hs : s = 0
    · rw [same (.inr hs)]
      exact bifF (by rw [hs]; rfl) tail
    · rw [no (fun h => by rcases h.2.2.2.2.1 with e | e; exact hv e; exact hs e)]
      exact bifT (by simp [bne, hs]) rfl
theorem s_state (h : HOk H) (ho : out.length ≤ maxI) {b : Bool} (hi : spec_validImage [.agg [.sl 3 ds, .sl 5 ps]] = oB true) (hN : nmB s v c m out F.length = true → vH H = true → spec_validState_L0 ds ps s v c m (intsC out) (heapC H) (frsC F) 0 = oB b) (hb : (nmB s v c m out F.length && vH H) = false → b = false) :
    spec_validState [.agg [.sl 3 ds, .sl 5 ps], .agg [.int s, .int v, .int c, .int m, .sl 1 (intsC out), .sl 3 (heapC H), .sl 6 (frsC F)]] = oB b := by
  have no : ∀ {P : Prop}, ¬ P → ((0 ≤ s ∧ s ≤ 3 ∧ (s = 0 ↔ F.length = 0) ∧ (-999 ≤ v ∧ v ≤ 999) ∧ (v = 0 ∨ s = 0) ∧ (0 ≤ m ∧ m ≤ 40) ∧ 0 ≤ c ∧ c ≤ m ∧ ((F.length : Nat) : Int) ≤ c + 1) → P) → b = false := fun hp himp => hb (by
    unfold nmB
    rw [decide_eq_false (fun g => hp (himp g))]
    rfl)
  refine spec_validState_le (callB hi (bifF rfl (callB (s_inRangeH _ _ _) ?_)))
  by_cases s0 : 0 ≤ s ∧ s ≤ 3
  rotate_left
  · rw [no s0 (fun g => ⟨g.1, g.2.1⟩)]
    exact bifT (by rw [← Bool.decide_and, decide_eq_false s0]; rfl) rfl
  refine bifF (by rw [← Bool.decide_and, decide_eq_true s0]; rfl) ?_
  by_cases s2 : (s = 0 ↔ F.length = 0)
  rotate_left
  · rw [no s2 (fun g => g.2.2.1)]; exact bifT (by rw [frsC_len, neq_iff, decide_eq_false s2]; rfl) rfl
  refine bifF (by rw [frsC_len, neq_iff, decide_eq_true s2]; rfl) (callB (s_inRangeH _ _ _) ?_)
  by_cases v0 : -999 ≤ v ∧ v ≤ 999
  rotate_left
  · rw [no v0 (fun g => g.2.2.2.1)]
    exact bifT (by rw [← Bool.decide_and, decide_eq_false v0]; rfl) rfl
  refine bifF (by rw [← Bool.decide_and, decide_eq_true v0]; rfl) ?_
  have tail : (v = 0 ∨ s = 0) → (callR (spec_inRange [.cell (.int m), .cell (.int 0), .cell (.int 40)]) false [(false, [.bool false])] fun b27 : Bool =>
      bif (!b27) then some (.v (.cell (.bool false))) else
        callR (spec_inRange [.cell (.int c), .cell (.int 0), .cell (.int m)]) false [(false, [.bool false])] fun b28 : Bool =>
        bif (!b28) then some (.v (.cell (.bool false))) else
          bif (decide ((((frsC F).length : Nat) : Int) > (wrapI (c + 1)))) then some (.v (.cell (.bool false))) else
            callR (spec_allInRange [.cell (.sl 1 (intsC out))]) false [(false, [.bool false])] fun b29 : Bool =>
            bif (!b29) then some (.v (.cell (.bool false))) else
              callR (spec_validHeap [.cell (.sl 3 (heapC H))]) false [(false, [.bool false])] fun b30 : Bool =>
              bif (!b30) then some (.v (.cell (.bool false))) else
                spec_validState_L0 ds ps s v c m (intsC out) (heapC H) (frsC F) 0) = oB b := by
    intro hvs
    refine callB (s_inRangeH _ _ _) ?_
    by_cases m0 : 0 ≤ m ∧ m ≤ 40
    rotate_left
    · rw [no m0 (fun g => g.2.2.2.2.2.1)]
      exact bifT (by rw [← Bool.decide_and, decide_eq_false m0]; rfl) rfl
    refine bifF (by rw [← Bool.decide_and, decide_eq_true m0]; rfl) (callB (s_inRangeH _ _ _) ?_)
    by_cases c0 : 0 ≤ c ∧ c ≤ m
    rotate_left
    · rw [no c0 (fun g => ⟨g.2.2.2.2.2.2.1, g.2.2.2.2.2.2.2.1⟩)]
      exact bifT (by rw [← Bool.decide_and, decide_eq_false c0]; rfl) rfl
    refine bifF (by rw [← Bool.decide_and, decide_eq_true c0]; rfl) ?_
    rw [frsC_len, wr (n := c + 1) (by omega) (by omega)]
    by_cases l0 : ((F.length : Nat) : Int) ≤ c + 1
    rotate_left
    · rw [no l0 (fun g => g.2.2.2.2.2.2.2.2)]
      exact bifT (decide_eq_true (by omega)) rfl
    refine bifF (decide_eq_false (by omega)) (callB (s_allInts ho) ?_)
    have hn : nmB s v c m out F.length = out.all isInt := by
      unfold nmB
      rw [decide_eq_true ⟨s0.1, s0.2, s2, v0, hvs, m0, c0.1, c0.2, l0⟩, Bool.true_and]
    rw [hn] at hb hN
    rcases ha : out.all isInt with _ | _
    · rw [hb (by rw [ha]; rfl)]
      exact bifT rfl rfl
    refine bifF rfl (callB (s_validHeap h) ?_)
    rcases hv : vH H with _ | _
    · rw [hb (by rw [ha, hv]; rfl)]
      exact bifT rfl rfl
    · exact bifF rfl (hN ha hv)
  by_cases hv : v = 0
  · exact bifF (by rw [hv]; rfl) (tail (.inl hv))
  · refine bifT (by simp [bne, hv]) ?_
    by_cases hs : s = 0
    · exact bifF (by rw [hs]; rfl) (tail (.inr hs))
    · rw [no (P := v = 0 ∨ s = 0) (fun g => by rcases g with e | e; exact hv e; exact hs e) (fun g => g.2.2.2.2.1)]
      exact bifT (by simp [bne, hs]) rfl
theorem state_ex (h : HOk H) (hF : ∀ f ∈ F, FrOk f) (hFl : F.length ≤ 1048576) (ht : (F.flatMap fun f => f.regs).length ≤ 1048576) (ho : out.length ≤ maxI) (hi : Fit .image [.sl 3 ds, .sl 5 ps]) :
    ∃ b, impl_ValidState [.agg [.sl 3 ds, .sl 5 ps], .agg [.int s, .int v, .int c, .int m, .sl 1 (intsC out), .sl 3 (heapC H), .sl 6 (frsC F)]] = oB b ∧
      spec_validState [.agg [.sl 3 ds, .sl 5 ps], .agg [.int s, .int v, .int c, .int m, .sl 1 (intsC out), .sl 3 (heapC H), .sl 6 (frsC F)]] = oB b := by
  have hl := h.len
  obtain ⟨bi, i1, i2⟩ := validImage_lo hi
  obtain ⟨hpl, hps⟩ : ps.length ≤ maxI ∧ ∀ x ∈ ps, Fit .proc x := by
    cases hi with
    | image ds procs hd hp h1 h2 => exact ⟨hp, h2⟩
  rcases bi with _ | _
  · exact ⟨false, impl_ValidState_le (callB i1 (bifF rfl rfl)), spec_validState_le (callB i2 (bifT rfl rfl))⟩
  have iN := i_numbers (s := s) (v := v) (c := c) (m := m) (H := H) (F := F) ho
  rcases hN : nmB s v c m out F.length with _ | _
  · rw [hN] at iN
    exact ⟨false, impl_ValidState_le (callB i1 (bifT rfl (callB iN (bifF rfl rfl)))), s_state h ho i2 (fun h => by rw [hN] at h; cases h) (fun _ => rfl)⟩
  rw [hN] at iN
  have iH := i_validHeap h
  rcases hV : vH H with _ | _
  · rw [hV] at iH
    exact ⟨false, impl_ValidState_le (callB i1 (bifT rfl (callB iN (bifT rfl (callB iH (bifF rfl rfl)))))), s_state h ho i2 (fun _ h => by rw [hV] at h; cases h) (fun _ => rfl)⟩
  rw [hV] at iH
  have iv := i_validFrames (ds := ds) (H := H) hF hps hFl s v c m (intsC out)
  rw [iF_split] at iv
  have sv := fun k hk => s_validFrame (ds := ds) (H := H) hl hF hps hpl hFl s v c m (intsC out) (k := k) hk
  have hf : FOk H := by
    unfold vH at hV
    rw [Bool.and_eq_true, List.all_eq_true] at hV
    exact vc_fok h.ints hV.1
  -- the frames, as the specification goes through them
  have loop : ∀ (b : Bool), ((List.range F.length).all (sF H ps F) = true → spec_validState_L0 ds ps s v c m (intsC out) (heapC H) (frsC F) (F.length : Int) = oB b) → ((List.range F.length).all (sF H ps F) = false → b = false) → spec_validState_L0 ds ps s v c m (intsC out) (heapC H) (frsC F) 0 = oB b := by
    intro b hb1 hb2
    have key : ∀ q k : Nat, k + q = F.length → ((List.range F.length).all (sF H ps F) = ((List.range F.length).drop k).all (sF H ps F)) → spec_validState_L0 ds ps s v c m (intsC out) (heapC H) (frsC F) (k : Int) = oB b := by
      intro q
      induction q with
      | zero =>
        intro k hk he
        rw [List.drop_eq_nil_of_le (by simp; omega)] at he
        rw [show k = F.length by omega]
        exact hb1 he
      | succ q ih =>
        intro k hk he
        have hlt : k < F.length := by omega
        rw [range_dropH hlt] at he
        refine spec_validState_L0_le (bifT (decide_eq_true (by rw [frsC_len]; omega)) (callB (sv k hlt) ?_))
        rcases hs : sF H ps F k with _ | _
        · rw [hs, Bool.false_and] at he
          rw [hb2 he]
          exact bifT rfl rfl
        · rw [hs, Bool.true_and] at he
          rw [wrk (by unfold maxI; omega)]
          exact bifF rfl (ih (k + 1) (by omega) he)
    exact key F.length 0 (by omega) (by rw [List.drop_zero])
  rcases hA : (List.range F.length).all (sF H ps F) with _ | _
  · rw [hA, Bool.false_and] at iv
    exact ⟨false, impl_ValidState_le (callB i1 (bifT rfl (callB iN (bifT rfl (callB iH (bifT rfl (callB iv (bifF rfl rfl)))))))), s_state h ho i2 (fun _ _ => loop false (fun h => by rw [hA] at h; cases h) (fun _ => rfl)) (fun _ => rfl)⟩
  rw [hA, Bool.true_and] at iv
  have hsF : ∀ k, k < F.length → sF H ps F k = true := fun k hk => List.all_eq_true.1 hA k (by rw [List.mem_range]; exact hk)
  have hL : FrL F := ⟨hF, fun f hf => by
    obtain ⟨k, hk, rfl⟩ := gF_of hf
    have := hsF k hk
    unfold sF at this
    rw [Bool.and_eq_true] at this
    exact frB_len this.1, ht⟩
  have hO : OwnOk H F := fun f hf r hr => by
    obtain ⟨k, hk, rfl⟩ := gF_of hf
    have := hsF k hk
    unfold sF at this
    rw [Bool.and_eq_true, Bool.and_eq_true, List.all_eq_true] at this
    have := this.2.1 r (by rw [List.mem_range]; exact hr)
    unfold regF regB at this
    rw [Bool.and_eq_true] at this
    exact this.2
  have sh := s_heldOnce hl hL hFl s v c m (intsC out)
  have sx := s_exact h hf hL hO hFl s v c m (intsC out)
  rcases hK : ((List.range F.length).all fun k => (List.range (gF F k).regs.length).all (heldF H (gF F k))) with _ | _
  · rw [hK] at iv
    rw [not_held hK] at sh
    exact ⟨false, impl_ValidState_le (callB i1 (bifT rfl (callB iN (bifT rfl (callB iH (bifT rfl (callB iv (bifF rfl rfl)))))))),
      s_state h ho i2 (fun _ _ => loop false (fun _ => spec_validState_L0_le (bifF (decide_eq_false (by rw [frsC_len]; omega)) (callB sh (bifF rfl rfl)))) (fun _ => rfl)) (fun _ => rfl)⟩
  rw [hK] at iv
  have hH : HeldOk H F := fun f hf r hr => by
    obtain ⟨k, hk, rfl⟩ := gF_of hf
    have := List.all_eq_true.1 hK k (by rw [List.mem_range]; exact hk)
    exact List.all_eq_true.1 this r (by rw [List.mem_range]; exact hr)
  have ix := i_exact h hf hL hO hH s v c m (intsC out) hFl
  rw [both_same hf hO hH] at ix
  refine ⟨_, impl_ValidState_le (callB i1 (bifT rfl (callB iN (bifT rfl (callB iH (bifT rfl (callB iv (bifT rfl (callB ix rfl))))))))),
    s_state h ho i2 (fun _ _ => loop _ (fun _ => spec_validState_L0_le (bifF (decide_eq_false (by rw [frsC_len]; omega)) (callB sh ?_))) (fun h => by rw [hA] at h; cases h)) (fun h => by rw [hN, hV] at h; cases h)⟩
  rcases (((List.range F.length).all fun k => inR H (gF F k)) && (List.range H.length).all (onceB H (pEv evH F F.length))) with _ | _
  · exact bifF rfl rfl
  · exact bifT rfl (callB sx rfl)
end
theorem law_ValidState {ds ps : List (List AC)} {s v c m : Int} {l7 l8 l9 : List (List AC)} (hi : Fit .image [.sl 3 ds, .sl 5 ps]) (hs : Fit .state [.int s, .int v, .int c, .int m, .sl 1 l7, .sl 3 l8, .sl 6 l9]) :
    laws_FnExactValidState [.agg [.sl 3 ds, .sl 5 ps], .agg [.int s, .int v, .int c, .int m, .sl 1 l7, .sl 3 l8, .sl 6 l9]] = oB true := by
  obtain ⟨n, g, z⟩ := sz_fit hi 1048576 (by omega) (by omega)
  rcases z with ⟨z, rfl⟩ | ⟨z, rfl⟩
  rotate_left
  · exact laws_FnExactValidState_le (callI g (bifT rfl rfl))
  obtain ⟨n', g', z'⟩ := sz_fit hs (1048576 - cS [.sl 3 ds, .sl 5 ps]) (by omega) (by omega)
  rcases z' with ⟨z', rfl⟩ | ⟨z', rfl⟩
  rotate_left
  · exact laws_FnExactValidState_le (callI g (bifF (decide_eq_false (by omega)) (callI g' (bifT rfl rfl))))
  have t := to_fit hi (by omega)
  have e := eq_fit hi
  have t' := to_fit hs (by omega)
  have e' := eq_fit hs
  have hex : ∃ b, impl_ValidState [.agg [.sl 3 ds, .sl 5 ps], .agg [.int s, .int v, .int c, .int m, .sl 1 l7, .sl 3 l8, .sl 6 l9]] = oB b ∧ spec_validState [.agg [.sl 3 ds, .sl 5 ps], .agg [.int s, .int v, .int c, .int m, .sl 1 l7, .sl 3 l8, .sl 6 l9]] = oB b := by
    cases hs with
    | state s v c m out heap frames hs1 hv1 hc1 hm1 ho hh hf h1 h2 =>
      obtain ⟨H, rfl, hH⟩ := heap_of h1
      obtain ⟨F, rfl, hF⟩ := frs_of h2
      rw [cS_int, cS_int, cS_int, cS_int, cS_sl, cS_sl, cS_sl, cS_nil, frsC_len] at z'
      have hz := (frs_size F).1
      exact state_ex (hok_of hH rfl (by omega)) hF (by omega) (by omega) ho.len hi
  obtain ⟨b, x1, x2⟩ := hex
  refine laws_FnExactValidState_le (callI g (bifF (decide_eq_false (by omega)) (callI g' (bifF (decide_eq_false (by omega)) (callProg t (callState t' (callB (spec_ValidState_le (callB x2 rfl)) (callProg t (callState t' (callB x1 (bifF nef' (callProg t (callB e (bifF rfl (callState t' (callB e' (bifF rfl rfl)))))))))))))))))
end Go.Proofs.YthfihhejbplmfaaGreat
