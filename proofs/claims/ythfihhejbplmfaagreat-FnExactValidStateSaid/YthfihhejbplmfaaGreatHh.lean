/- Valid registers, valid frames. What is owned and held is counted. -/
import Derived.Test.YthfihhejbplmfaaGreatHf
set_option linter.unusedVariables false
set_option linter.unusedSimpArgs false
namespace Go.Proofs.YthfihhejbplmfaaGreat
open Go
section
variable {ρ : Type} {r : ρ}
theorem atG {xs : List Int} {k : Nat} (h : k < xs.length) {K : Fn (Option ρ) [.int 0]} (h2 : (K : Int → Option ρ) (gN xs k) = some r) : atR_ (intsC xs) (k : Int) [.int 0] K = some r := atNum h (by rw [gN_eq h]; exact h2)
end
theorem gN_in {xs : List Int} (h : IntsOk xs) {k : Nat} (hk : k < xs.length) : inI (gN xs k) := by rw [← gN_eq hk]; exact h.all _ (List.getElem_mem hk)
def ownB (H : List HM) (w o : Int) : Bool := decide (0 ≤ o) && (decide (o ≤ 999999) && (o == 0 || liveW H w))
def regB (H : List HM) (w o : Int) : Bool := (isInt w || decide (1000 ≤ w)) && ownB H w o
def keptI (H : List HM) (i : Int) : Bool := decide (0 ≤ i) && (decide (i < H.length) && decide ((gH H i.toNat).c < 0))
def heldB (H : List HM) (h : Int) : Bool := h == 0 || keptI H (cw h)
theorem i_isKept {H : List HM} (i : Int) : impl_isKept [.cell (.sl 3 (heapC H)), .cell (.int i)] = oB (keptI H i) := by
  unfold keptI
  by_cases h0 : 0 ≤ i
  · by_cases h1 : i < H.length
    · obtain ⟨k, rfl⟩ := Int.eq_ofNat_of_zero_le h0
      refine impl_isKept_le (bifT (decide_eq_true h0) (bifT (decide_eq_true (by rw [heapC_len]; exact h1)) (atCellH (by omega) ?_)))
      rw [decide_eq_true h0, decide_eq_true h1]
      rfl
    · refine impl_isKept_le (bifT (decide_eq_true h0) (bifF (decide_eq_false (by rw [heapC_len]; exact h1)) ?_))
      rw [decide_eq_true h0, decide_eq_false h1]
      rfl
  · refine impl_isKept_le (bifF (decide_eq_false h0) ?_)
    rw [decide_eq_false h0]
    rfl
theorem i_validReg {H : List HM} {w o : Int} (hw : inI w) : impl_validReg [.cell (.sl 3 (heapC H)), .cell (.int w), .cell (.int o)] = oB (regB H w o) := by
  unfold regB ownB
  refine impl_validReg_le (callB (i_inIntsH w) ?_)
  by_cases h0 : o = 0
  · subst h0
    rcases isInt w with _ | _
    · refine bifT rfl ?_
      by_cases hp : w < 1000
      · rw [decide_eq_false (show ¬ 1000 ≤ w by omega)]
        exact bifT (decide_eq_true hp) rfl
      · rw [decide_eq_true (show 1000 ≤ w by omega)]
        exact bifF (decide_eq_false hp) (bifT rfl rfl)
    · exact bifF rfl (bifT rfl rfl)
  · have e0 : (o == 0) = false := by simp [h0]
    rw [e0]
    rcases isInt w with _ | _
    · refine bifT rfl ?_
      by_cases hp : w < 1000
      · rw [decide_eq_false (show ¬ 1000 ≤ w by omega)]
        exact bifT (decide_eq_true hp) rfl
      · rw [decide_eq_true (show 1000 ≤ w by omega)]
        refine bifF (decide_eq_false hp) (bifF rfl ?_)
        by_cases h1 : o > 0
        · refine bifT (decide_eq_true h1) ?_
          rw [decide_eq_true (show 0 ≤ o by omega)]
          by_cases h2 : o ≤ 999999
          · refine bifT (decide_eq_true h2) (callI (i_cellOfWord hw) (callB (i_isLive _) ?_))
            rw [live_cw, decide_eq_true h2]
            rfl
          · rw [decide_eq_false h2]
            exact bifF rfl rfl
        · rw [decide_eq_false (show ¬ 0 ≤ o by omega)]
          exact bifF (decide_eq_false h1) rfl
    · refine bifF rfl (bifF rfl ?_)
      by_cases h1 : o > 0
      · refine bifT (decide_eq_true h1) ?_
        rw [decide_eq_true (show 0 ≤ o by omega)]
        by_cases h2 : o ≤ 999999
        · refine bifT (decide_eq_true h2) (callI (i_cellOfWord hw) (callB (i_isLive _) ?_))
          rw [live_cw, decide_eq_true h2]
          rfl
        · rw [decide_eq_false h2]
          exact bifF rfl rfl
      · rw [decide_eq_false (show ¬ 0 ≤ o by omega)]
        exact bifF (decide_eq_false h1) rfl
def regF (H : List HM) (f : FM) (r : Nat) : Bool := regB H (gN f.regs r) (gN f.own r)
def heldF (H : List HM) (f : FM) (r : Nat) : Bool := heldB H (gN f.held r)
/-- All registers of a frame that has as many of each. -/
theorem i_regs {H : List HM} {f : FM} (hf : FrOk f) (h1 : f.own.length = f.regs.length) (h2 : f.held.length = f.regs.length) (n17 n18 n19 : Int) :
    impl_validFrame_L0 (heapC H) n17 n18 n19 (intsC f.regs) (intsC f.own) (intsC f.held) (intsC f.regs) (((intsC f.regs).length : Nat) : Int) 0 = oB ((List.range f.regs.length).all fun r => regF H f r && heldF H f r) := by
  have key : ∀ m k : Nat, k + m = f.regs.length → impl_validFrame_L0 (heapC H) n17 n18 n19 (intsC f.regs) (intsC f.own) (intsC f.held) (intsC f.regs) (((intsC f.regs).length : Nat) : Int) (k : Int) = oB (((List.range f.regs.length).drop k).all fun r => regF H f r && heldF H f r) := by
    intro m
    induction m with
    | zero =>
      intro k hk
      rw [List.drop_eq_nil_of_le (by simp; omega)]
      exact impl_validFrame_L0_le (bifF (decide_eq_false (by rw [intsC_len]; omega)) rfl)
    | succ m ih =>
      intro k hk
      have hlt : k < f.regs.length := by omega
      have hnext := ih (k + 1) (by omega)
      rw [← wrk (by have := hf.regs.len; omega)] at hnext
      rw [range_dropH hlt]
      refine impl_validFrame_L0_le (bifT (decide_eq_true (by rw [intsC_len]; omega)) (atG hlt (atG (by omega) (callB (i_validReg (gN_in hf.regs hlt)) ?_))))
      unfold regF heldF heldB
      rcases regB H (gN f.regs k) (gN f.own k) with _ | _
      · exact bifT rfl rfl
      · refine bifF rfl (atG (by omega) ?_)
        by_cases h0 : gN f.held k = 0
        · rw [h0]
          exact bifF rfl hnext
        · have e0 : (gN f.held k == 0) = false := by simp [h0]
          rw [e0]
          refine bifT (by simp [bne, e0]) (atG (by omega) (callI (i_cellOfWord (gN_in hf.held (by omega))) (callB (i_isKept _) ?_)))
          rcases keptI H (cw (gN f.held k)) with _ | _
          · exact bifT rfl rfl
          · exact bifF rfl hnext
  have := key f.regs.length 0 (by omega)
  rwa [List.drop_zero] at this
theorem s_regs {H : List HM} (hl : H.length ≤ 1048576) {f : FM} (hf : FrOk f) (h1 : f.own.length = f.regs.length) :
    spec_validRegs [.cell (.sl 3 (heapC H)), .agg [.int f.p, .int f.a, .int f.d, .sl 1 (intsC f.regs), .sl 1 (intsC f.own), .sl 1 (intsC f.held)]] = oB ((List.range f.regs.length).all (regF H f)) := by
  have key : ∀ m k : Nat, k + m = f.regs.length → spec_validRegs_L0 (heapC H) f.p f.a f.d (intsC f.regs) (intsC f.own) (intsC f.held) (k : Int) = oB (((List.range f.regs.length).drop k).all (regF H f)) := by
    intro m
    induction m with
    | zero =>
      intro k hk
      rw [List.drop_eq_nil_of_le (by simp; omega)]
      exact spec_validRegs_L0_le (bifF (decide_eq_false (by rw [intsC_len]; omega)) rfl)
    | succ m ih =>
      intro k hk
      have hlt : k < f.regs.length := by omega
      have hnext := ih (k + 1) (by omega)
      rw [← wrk (by have := hf.regs.len; omega)] at hnext
      rw [range_dropH hlt]
      have hw := gN_in hf.regs hlt
      refine spec_validRegs_L0_le (bifT (decide_eq_true (by rw [intsC_len]; omega)) (atG hlt (callB (s_inRangeH _ _ _) ?_)))
      rw [show (decide (-999 ≤ gN f.regs k) && decide (gN f.regs k ≤ 999)) = isInt (gN f.regs k) from rfl]
      unfold regF regB ownB
      rcases isInt (gN f.regs k) with _ | _
      · refine bifT rfl (callB (s_isPointer _) ?_)
        by_cases hp : 1000 ≤ gN f.regs k
        · rw [decide_eq_true hp]
          refine bifF rfl (atG (by omega) (callB (s_inRangeH _ _ _) ?_))
          rcases ha : decide (0 ≤ gN f.own k) with _ | _
          · exact bifT rfl rfl
          · rcases hb : decide (gN f.own k ≤ 999999) with _ | _
            · exact bifT rfl rfl
            · refine bifF rfl (atG (by omega) ?_)
              have ha := of_decide_eq_true ha
              by_cases h0 : gN f.own k = 0
              · rw [h0]
                exact bifF rfl hnext
              · have e0 : (gN f.own k == 0) = false := by simp [h0]
                rw [e0]
                refine bifT (decide_eq_true (by omega)) (callB (s_isLive hl hw) ?_)
                rcases liveW H (gN f.regs k) with _ | _
                · exact bifT rfl rfl
                · exact bifF rfl hnext
        · rw [decide_eq_false hp]
          exact bifT rfl rfl
      · refine bifF rfl (atG (by omega) (callB (s_inRangeH _ _ _) ?_))
        rcases ha : decide (0 ≤ gN f.own k) with _ | _
        · exact bifT rfl rfl
        · rcases hb : decide (gN f.own k ≤ 999999) with _ | _
          · exact bifT rfl rfl
          · refine bifF rfl (atG (by omega) ?_)
            have ha := of_decide_eq_true ha
            by_cases h0 : gN f.own k = 0
            · rw [h0]
              exact bifF rfl hnext
            · have e0 : (gN f.own k == 0) = false := by simp [h0]
              rw [e0]
              refine bifT (decide_eq_true (by omega)) (callB (s_isLive hl hw) ?_)
              rcases liveW H (gN f.regs k) with _ | _
              · exact bifT rfl rfl
              · exact bifF rfl hnext
  have := key f.regs.length 0 (by omega)
  rw [List.drop_zero] at this
  exact spec_validRegs_le this
/-! Frames. -/
def codeN (row : List AC) : Nat := match row with
  | [_, _, _, _, .sl _ c] => c.length
  | _ => 0
def regsN (row : List AC) : Int := match row with
  | [_, _, _, .int g, _] => g
  | _ => 0
theorem proc_is {row : List AC} (h : Fit .proc row) : ∃ a b r g c, row = [.sl 1 a, .sl 1 b, .int r, .int g, .sl 6 c] ∧ c.length ≤ maxI ∧ codeN row = c.length ∧ regsN row = g := by
  cases h with
  | proc ps lent r regs code hp hl hr hg hc h => exact ⟨_, _, _, _, _, rfl, hc, rfl, rfl⟩
/-- All of a frame but its registers. -/
def frB (ps : List (List AC)) (f : FM) : Bool :=
  decide (0 ≤ f.p) && (decide (f.p < ps.length) && (decide (0 ≤ f.a) && (decide (f.a < codeN (ps.getD f.p.toNat [])) &&
    (((f.regs.length : Nat) : Int) == regsN (ps.getD f.p.toNat []) && (((f.own.length : Nat) : Int) == regsN (ps.getD f.p.toNat []) && ((f.held.length : Nat) : Int) == regsN (ps.getD f.p.toNat []))))))
theorem frB_len {ps : List (List AC)} {f : FM} (h : frB ps f = true) : f.own.length = f.regs.length ∧ f.held.length = f.regs.length := by
  unfold frB at h
  simp only [Bool.and_eq_true, beq_iff_eq] at h
  obtain ⟨_, _, _, _, h1, h2, h3⟩ := h
  omega
theorem i_hasProc (ds ps : List (List AC)) (n : Int) : impl_hasProc [.agg [.sl 3 ds, .sl 5 ps], .cell (.int n)] = oB (decide (0 ≤ n) && decide (n < ps.length)) := by
  by_cases h : 0 ≤ n
  · exact impl_hasProc_le (bifT (decide_eq_true h) (by rw [decide_eq_true h]; rfl))
  · exact impl_hasProc_le (bifF (decide_eq_false h) (by rw [decide_eq_false h]; rfl))
theorem i_validFrame {ds ps : List (List AC)} {H : List HM} {f : FM} (hf : FrOk f) (hps : ∀ x ∈ ps, Fit .proc x) :
    impl_validFrame [.agg [.sl 3 ds, .sl 5 ps], .cell (.sl 3 (heapC H)), .agg [.int f.p, .int f.a, .int f.d, .sl 1 (intsC f.regs), .sl 1 (intsC f.own), .sl 1 (intsC f.held)]] = oB (frB ps f && (List.range f.regs.length).all fun r => regF H f r && heldF H f r) := by
  refine impl_validFrame_le (callB (i_hasProc ds ps f.p) ?_)
  have hbe := @frB_len ps f
  unfold frB at hbe ⊢
  by_cases p0 : 0 ≤ f.p
  rotate_left
  · rw [decide_eq_false p0]; exact bifT rfl rfl
  by_cases p1 : f.p < ps.length
  rotate_left
  · rw [decide_eq_false p1, decide_eq_true p0]; exact bifT rfl rfl
  rw [decide_eq_true p1, decide_eq_true p0] at hbe ⊢
  obtain ⟨k, hk⟩ := Int.eq_ofNat_of_zero_le p0
  rw [hk] at p1 hbe ⊢
  have hkl : k < ps.length := by omega
  simp only [Int.toNat_natCast] at hbe ⊢
  obtain ⟨a, b, r, g, c, e, hc, e1, e2⟩ := proc_is (hps _ (mem_getD hkl []))
  simp only [e1, e2] at hbe ⊢
  refine bifF rfl (atProc hkl e ?_)
  by_cases a0 : 0 ≤ f.a
  rotate_left
  · rw [decide_eq_false a0]; exact bifT (decide_eq_true (by omega)) rfl
  rw [decide_eq_true a0] at hbe ⊢
  refine bifF (decide_eq_false (by omega)) ?_
  by_cases a1 : f.a < c.length
  rotate_left
  · rw [decide_eq_false a1]; exact bifT (decide_eq_true (by omega)) rfl
  rw [decide_eq_true a1] at hbe ⊢
  refine bifF (decide_eq_false (by omega)) ?_
  rw [intsC_len, intsC_len, intsC_len]
  rcases h1 : (((f.regs.length : Nat) : Int) == g) with _ | _
  · exact bifT (by simp [bne, h1]) rfl
  refine bifF (by simp [bne, h1]) ?_
  rcases h2 : (((f.own.length : Nat) : Int) == g) with _ | _
  · exact bifT (by simp [bne, h2]) rfl
  refine bifF (by simp [bne, h2]) ?_
  rcases h3 : (((f.held.length : Nat) : Int) == g) with _ | _
  · exact bifT (by simp [bne, h3]) rfl
  refine bifF (by simp [bne, h3]) ?_
  rw [h1, h2, h3] at hbe
  obtain ⟨l1, l2⟩ := hbe rfl
  have := i_regs (H := H) hf l1 l2 (k : Int) f.a f.d
  rw [intsC_len] at this
  exact this
end Go.Proofs.YthfihhejbplmfaaGreat

set_option linter.unusedVariables false
set_option linter.unusedSimpArgs false
namespace Go.Proofs.YthfihhejbplmfaaGreat
open Go
def GoodE (E : List Ev) : Prop := (∀ e ∈ E, 0 ≤ e.2 ∧ e.2 ≤ 1000000) ∧ E.length ≤ 4194304
theorem GoodE.sum {E : List Ev} (h : GoodE E) (a : Int) : 0 ≤ sumE E a ∧ sumE E a ≤ 4194304000000 := by
  obtain ⟨h1, h2⟩ := sumE_bound h.1 a
  have := h.2
  omega
section
variable {ρ : Type} {r : ρ}
theorem add_at {E : List Ev} {n j : Nat} (hj : j < n) {K : Fn (Option ρ) [.int 0]} (h2 : (K : Int → Option ρ) (sumE E (1000 + (j : Int))) = some r) : atR_ (intsC (addN E n)) (j : Int) [.int 0] K = some r :=
  atNum (by rw [addN_len]; exact hj) (by rw [addN_get]; exact h2)
theorem add_el {E : List Ev} {n j : Nat} (hj : j < n) {K : Fn (Option ρ) [.int 0]} (h2 : (K : Int → Option ρ) (sumE E (1000 + (j : Int))) = some r) : idxR (intsC (addN E n)) (j : Int) (fun m => elR (intsC (addN E n)) m 0 1 [.int 0] K) = some r :=
  elNum (by rw [addN_len]; exact hj) (by rw [addN_get]; exact h2)
theorem add_set {E : List Ev} {n j : Nat} (hj : j < n) {v : Int} {K : List (List AC) → Option ρ} (h2 : K (intsC (addN (E ++ [(1000 + (j : Int), v)]) n)) = some r) : idxR (intsC (addN E n)) (j : Int) (fun m => setR (intsC (addN E n)) m 0 [.int (sumE E (1000 + (j : Int)) + v)] K) = some r :=
  setNum (by rw [addN_len]; exact hj) (by rw [addN_hit _ _ hj]; exact h2)
end
theorem kept_range {H : List HM} {h : Int} (hk : keptI H (cw h) = true) : ∃ j : Nat, h = 1000 + (j : Int) ∧ j < H.length ∧ (gH H j).c < 0 := by
  unfold keptI cw at hk
  simp only [Bool.and_eq_true, decide_eq_true_eq] at hk
  by_cases hh : h < 1000
  · rw [if_pos hh] at hk
    omega
  · rw [if_neg hh] at hk
    obtain ⟨h0, h1, h2⟩ := hk
    exact ⟨(h - 1000).toNat, by omega, by omega, h2⟩
theorem own_range {H : List HM} {w o : Int} (h : ownB H w o = true) (ho : 0 < o) : o ≤ 999999 ∧ ∃ j : Nat, w = 1000 + (j : Int) ∧ j < H.length ∧ 0 < (gH H j).c := by
  unfold ownB at h
  simp only [Bool.and_eq_true, Bool.or_eq_true, decide_eq_true_eq, beq_iff_eq] at h
  obtain ⟨_, h1, h2⟩ := h
  refine ⟨h1, ?_⟩
  have h2 := h2.resolve_left (by omega)
  unfold liveW liveI at h2
  simp only [Bool.and_eq_true, decide_eq_true_eq] at h2
  obtain ⟨g0, ⟨g1, g2⟩, g3⟩ := h2
  exact ⟨(w - 1000).toNat, by omega, by omega, g3⟩
theorem evH_len (f : FM) (r : Nat) : (evH f r).length ≤ 1 := by unfold evH; split <;> simp
theorem evO_len (f : FM) (r : Nat) : (evO f r).length ≤ 1 := by unfold evO; split <;> simp
theorem evB_len (f : FM) (r : Nat) : (evB f r).length ≤ 2 := by
  have := evH_len f r
  have := evO_len f r
  unfold evB
  rw [List.length_append]
  omega
/-- The frames have as many of each. -/
structure FrL (F : List FM) : Prop where
  ok : ∀ f ∈ F, FrOk f
  len : ∀ f ∈ F, f.own.length = f.regs.length ∧ f.held.length = f.regs.length
  tot : (F.flatMap fun f => f.regs).length ≤ 1048576
def OwnOk (H : List HM) (F : List FM) : Prop := ∀ f ∈ F, ∀ r, r < f.regs.length → ownB H (gN f.regs r) (gN f.own r) = true
def HeldOk (H : List HM) (F : List FM) : Prop := ∀ f ∈ F, ∀ r, r < f.regs.length → heldB H (gN f.held r) = true
theorem evO_good {H : List HM} {F : List FM} (h : OwnOk H F) : ∀ f ∈ F, ∀ r, r < f.regs.length → ∀ e ∈ evO f r, 0 ≤ e.2 ∧ e.2 ≤ 1000000 := by
  intro f hf r hr e he
  unfold evO at he
  split at he
  · rename_i ho
    rw [List.mem_singleton] at he
    subst he
    have := (own_range (h f hf r hr) ho).1
    simp only
    omega
  · cases he
theorem evH_good {F : List FM} : ∀ f ∈ F, ∀ r, r < f.regs.length → ∀ e ∈ evH f r, 0 ≤ e.2 ∧ e.2 ≤ 1000000 := by
  intro f hf r hr e he
  unfold evH at he
  split at he
  · cases he
  · rw [List.mem_singleton] at he
    subst he
    simp only
    omega
theorem evB_good {H : List HM} {F : List FM} (h : OwnOk H F) : ∀ f ∈ F, ∀ r, r < f.regs.length → ∀ e ∈ evB f r, 0 ≤ e.2 ∧ e.2 ≤ 1000000 := by
  intro f hf r hr e he
  unfold evB at he
  rcases List.mem_append.1 he with he | he
  · exact evO_good h f hf r hr e he
  · exact evH_good f hf r hr e he
theorem good_pre {g : FM → Nat → List Ev} {F : List FM} (hg : ∀ f ∈ F, ∀ r, r < f.regs.length → ∀ e ∈ g f r, 0 ≤ e.2 ∧ e.2 ≤ 1000000) {m : Nat} (hm : m ≤ 2) (hl : ∀ f r, (g f r).length ≤ m) (ht : (F.flatMap fun f => f.regs).length ≤ 1048576)
    {R : List Ev} (hR : (∀ e ∈ R, 0 ≤ e.2 ∧ e.2 ≤ 1000000) ∧ R.length ≤ 1048576) {c k : Nat} (hc : c < F.length) (hk : k ≤ (gF F c).regs.length) : GoodE (R ++ pEv g F c ++ fEv g (gF F c) k) := by
  constructor
  · intro e he
    rw [List.append_assoc] at he
    rcases List.mem_append.1 he with he | he
    · exact hR.1 e he
    rcases List.mem_append.1 he with he | he
    · unfold pEv fEv at he
      obtain ⟨f, hf, he⟩ := List.mem_flatMap.1 he
      obtain ⟨r, hr, he⟩ := List.mem_flatMap.1 he
      exact hg f (List.mem_of_mem_take hf) r (by simpa using hr) e he
    · unfold fEv at he
      obtain ⟨r, hr, he⟩ := List.mem_flatMap.1 he
      rw [List.mem_range] at hr
      exact hg _ (gF_mem hc) r (by omega) e he
  · rw [List.append_assoc, List.length_append]
    have h1 := ev_len hl hc hk
    have h2 : m * (F.flatMap fun f => f.regs).length ≤ 2 * 1048576 := Nat.mul_le_mul hm ht
    have := hR.2
    omega
section
variable {H : List HM} {f : FM} {k : Nat} {E : List Ev} {r : AV}
theorem i_held (hl : H.length ≤ 1048576) (hk : k < f.held.length) (hin : IntsOk f.held) (hh : heldB H (gN f.held k) = true) (hE : GoodE E) {K : List (List AC) → Option AV} (h : K (intsC (addN (E ++ evH f k) H.length)) = some r) :
    atR_ (intsC f.held) (k : Int) [.int 0] (fun n57 => bif (n57 != 0) then atR_ (intsC f.held) (k : Int) [.int 0] (fun n58 => callR (impl_cellOfWord [.cell (.int n58)]) false [(false, [.int 0])] (fun n59 : Int => idxR (intsC (addN E H.length)) n59 (fun m60 => elR (intsC (addN E H.length)) m60 0 1 [.int 0] (fun n61 : Int =>
      idxR (intsC (addN E H.length)) n59 (fun m62 => setR (intsC (addN E H.length)) m62 0 [.int (wrapI (n61 + 1))] K))))) else K (intsC (addN E H.length))) = some r := by
  refine atG hk ?_
  unfold evH at h
  by_cases h0 : gN f.held k = 0
  · rw [if_pos h0, List.append_nil] at h
    rw [h0]
    exact bifF rfl h
  · rw [if_neg h0] at h
    have e0 : (gN f.held k == 0) = false := by simp [h0]
    unfold heldB at hh
    rw [e0, Bool.false_or] at hh
    obtain ⟨j, hj, hjn, _⟩ := kept_range hh
    refine bifT (by simp [bne, e0]) (atG hk (callI (i_cellOfWord (gN_in hin hk)) ?_))
    rw [show cw (gN f.held k) = (j : Int) by unfold cw; rw [if_neg (by omega)]; omega]
    refine add_el hjn ?_
    have := hE.sum (1000 + (j : Int))
    rw [wr (by omega) (by omega)]
    refine add_set hjn ?_
    rw [← hj]
    exact h
end
/-- What the numbers of a cell must be. -/
def cntB (H : List HM) (E : List Ev) (i : Nat) : Bool := if (gH H i).c < 0 then sumE E (1000 + (i : Int)) == 1 else if (gH H i).c > 0 then sumE E (1000 + (i : Int)) == (gH H i).c else true
theorem i_last {H : List HM} (hl : H.length ≤ 1048576) (E : List Ev) : impl_exactCounts_L4 (intsC (addN E H.length)) (heapC H) (((heapC H).length : Nat) : Int) 0 = oB ((List.range H.length).all (cntB H E)) := by
  have key : ∀ m k : Nat, k + m = H.length → impl_exactCounts_L4 (intsC (addN E H.length)) (heapC H) (((heapC H).length : Nat) : Int) (k : Int) = oB (((List.range H.length).drop k).all (cntB H E)) := by
    intro m
    induction m with
    | zero =>
      intro k hk
      rw [List.drop_eq_nil_of_le (by simp; omega)]
      exact impl_exactCounts_L4_le (bifF (decide_eq_false (by rw [heapC_len]; omega)) rfl)
    | succ m ih =>
      intro k hk
      have hlt : k < H.length := by omega
      have hnext := ih (k + 1) (by omega)
      rw [← wrk (by unfold maxI; omega)] at hnext
      rw [range_dropH hlt]
      refine impl_exactCounts_L4_le (bifT (decide_eq_true (by rw [heapC_len]; omega)) (atCellH hlt ?_))
      unfold cntB
      by_cases h1 : (gH H k).c < 0
      · rw [if_pos h1]
        refine bifT (decide_eq_true h1) (add_at hlt ?_)
        rcases e : (sumE E (1000 + (k : Int)) == 1) with _ | _
        · exact bifT (by simp [bne, e]) rfl
        · exact bifF (by simp [bne, e]) (bifF (decide_eq_false (by omega)) hnext)
      · rw [if_neg h1]
        refine bifF (decide_eq_false h1) ?_
        by_cases h2 : (gH H k).c > 0
        · rw [if_pos h2]
          refine bifT (decide_eq_true h2) (add_at hlt ?_)
          rcases e : (sumE E (1000 + (k : Int)) == (gH H k).c) with _ | _
          · exact bifT (by simp [bne, e]) rfl
          · exact bifF (by simp [bne, e]) hnext
        · rw [if_neg h2]
          exact bifF (decide_eq_false h2) hnext
  have := key H.length 0 (by omega)
  rwa [List.drop_zero] at this
theorem i_exact {H : List HM} (h : HOk H) (hf : FOk H) {F : List FM} (hF : FrL F) (ho : OwnOk H F) (hh : HeldOk H F) (n1 n2 n3 n4 : Int) (l5 : List (List AC)) (hFl : F.length ≤ 1048576) :
    impl_exactCounts [.agg [.int n1, .int n2, .int n3, .int n4, .sl 1 l5, .sl 3 (heapC H), .sl 6 (frsC F)]] = oB ((List.range H.length).all (cntB H ((allF H).map (fun w => (w, 1)) ++ pEv evB F F.length))) := by
  have hl := h.len
  have hR : (∀ e ∈ (allF H).map (fun w => ((w, 1) : Ev)), 0 ≤ e.2 ∧ e.2 ≤ 1000000) ∧ ((allF H).map (fun w => ((w, 1) : Ev))).length ≤ 1048576 := by
    refine ⟨fun e he => ?_, by rw [List.length_map]; exact h.tot⟩
    obtain ⟨w, _, rfl⟩ := List.mem_map.1 he
    simp only
    omega
  generalize hRe : (allF H).map (fun w => ((w, 1) : Ev)) = R at hR
  have key : ∀ m c : Nat, c + m = F.length → impl_exactCounts_L0 n1 n2 n3 n4 l5 (heapC H) (frsC F) (intsC (addN (R ++ pEv evB F c) H.length)) (frsC F) (((frsC F).length : Nat) : Int) (c : Int) = oB ((List.range H.length).all (cntB H (R ++ pEv evB F F.length))) := by
    intro m
    induction m with
    | zero =>
      intro c hc
      rw [show c = F.length by omega]
      exact impl_exactCounts_L0_le (bifF (decide_eq_false (by rw [frsC_len]; omega)) (i_last hl _))
    | succ m ih =>
      intro c hc
      have hlt : c < F.length := by omega
      have hm := gF_mem hlt
      obtain ⟨l1, l2⟩ := hF.len _ hm
      have hok := hF.ok _ hm
      refine impl_exactCounts_L0_le (bifT (decide_eq_true (by rw [frsC_len]; omega)) (atFr hlt ?_))
      have inner : ∀ q k : Nat, k + q = (gF F c).regs.length → impl_exactCounts_L2 n1 n2 n3 n4 l5 (heapC H) (frsC F) (gF F c).p (gF F c).a (gF F c).d (intsC (gF F c).regs) (intsC (gF F c).own) (intsC (gF F c).held) (intsC (addN (R ++ pEv evB F c ++ fEv evB (gF F c) k) H.length)) (frsC F) (((frsC F).length : Nat) : Int) (c : Int) (intsC (gF F c).regs) (((intsC (gF F c).regs).length : Nat) : Int) (k : Int) = oB ((List.range H.length).all (cntB H (R ++ pEv evB F F.length))) := by
        intro q
        induction q with
        | zero =>
          intro k hk
          refine impl_exactCounts_L2_le (bifF (decide_eq_false (by rw [intsC_len]; omega)) ?_)
          rw [wrk (by unfold maxI; omega), show k = (gF F c).regs.length by omega, List.append_assoc, ← pEv_succ evB hlt]
          exact ih (c + 1) (by omega)
        | succ q ihq =>
          intro k hk
          have hkl : k < (gF F c).regs.length := by omega
          have hnext := ihq (k + 1) (by omega)
          rw [← wrk (by have := hok.regs.len; omega), fEv_succ] at hnext
          have hg := good_pre (evB_good ho) (Nat.le_refl _) evB_len hF.tot hR hlt (Nat.le_of_lt hkl)
          have hg' := good_pre (evB_good ho) (Nat.le_refl _) evB_len hF.tot hR hlt (show k + 1 ≤ _ by omega)
          rw [fEv_succ] at hg'
          generalize hE : R ++ pEv evB F c ++ fEv evB (gF F c) k = E at hg
          have e2 : R ++ pEv evB F c ++ (fEv evB (gF F c) k ++ evB (gF F c) k) = (E ++ evO (gF F c) k) ++ evH (gF F c) k := by
            rw [← hE]
            unfold evB
            simp only [List.append_assoc]
          rw [e2] at hnext hg'
          have hgo : GoodE (E ++ evO (gF F c) k) := ⟨fun e he => hg'.1 e (List.mem_append_left _ he), by have := hg'.2; rw [List.length_append] at this; omega⟩
          refine impl_exactCounts_L2_le (bifT (decide_eq_true (by rw [intsC_len]; omega)) (atG hkl (atG (by omega) ?_)))
          by_cases hp : gN (gF F c).own k > 0
          · obtain ⟨_, j, hj, hjn, _⟩ := own_range (ho _ hm k hkl) hp
            have eo : evO (gF F c) k = [(1000 + (j : Int), gN (gF F c).own k)] := by unfold evO; rw [if_pos hp, hj]
            refine bifT (decide_eq_true hp) (callI (i_cellOfWord (gN_in hok.regs hkl)) ?_)
            rw [show cw (gN (gF F c).regs k) = (j : Int) by unfold cw; rw [if_neg (by omega)]; omega]
            refine add_at hjn (atG (by omega) ?_)
            have := hg.sum (1000 + (j : Int))
            have := (own_range (ho _ hm k hkl) hp).1
            rw [wr (by omega) (by omega)]
            refine add_set hjn ?_
            rw [← eo]
            exact i_held hl (by omega) hok.held (hh _ hm k hkl) hgo (K := fun l => impl_exactCounts_L2 n1 n2 n3 n4 l5 (heapC H) (frsC F) (gF F c).p (gF F c).a (gF F c).d (intsC (gF F c).regs) (intsC (gF F c).own) (intsC (gF F c).held) l (frsC F) (((frsC F).length : Nat) : Int) (c : Int) (intsC (gF F c).regs) (((intsC (gF F c).regs).length : Nat) : Int) (wrapI ((k : Int) + 1))) hnext
          · have eo : evO (gF F c) k = [] := by unfold evO; rw [if_neg hp]
            rw [eo, List.append_nil] at hnext hgo
            exact bifF (decide_eq_false hp) (i_held hl (by omega) hok.held (hh _ hm k hkl) hgo (K := fun l => impl_exactCounts_L2 n1 n2 n3 n4 l5 (heapC H) (frsC F) (gF F c).p (gF F c).a (gF F c).d (intsC (gF F c).regs) (intsC (gF F c).own) (intsC (gF F c).held) l (frsC F) (((frsC F).length : Nat) : Int) (c : Int) (intsC (gF F c).regs) (((intsC (gF F c).regs).length : Nat) : Int) (wrapI ((k : Int) + 1))) hnext)
      have := inner (gF F c).regs.length 0 (by omega)
      rw [show fEv evB (gF F c) 0 = [] from rfl, List.append_nil] at this
      exact this
  have start := key F.length 0 (by omega)
  rw [show pEv evB F 0 = [] from rfl, List.append_nil] at start
  refine impl_exactCounts_le (thawTo (i_allRefs hl h.ints hf h.tot) (ints_flat _) ?_)
  rw [addN_refs, hRe]
  exact start
end Go.Proofs.YthfihhejbplmfaaGreat
