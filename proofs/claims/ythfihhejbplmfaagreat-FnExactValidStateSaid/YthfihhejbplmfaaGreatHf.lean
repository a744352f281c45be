/- Valid heaps; the laws of ValidHeap, LiveCells and RefsOf answer true wherever what comes in fits. Frames, as a model; what is counted for each cell. -/
import Derived.Test.YthfihhejbplmfaaGreatHd
import Derived.Test.YthfihhejbplmfaaGreatDa
set_option linter.unusedVariables false
set_option linter.unusedSimpArgs false
namespace Go.Proofs.YthfihhejbplmfaaGreat
open Go
/-- Each live cell is counted at least as often as fields point to it. -/
def cntOk (H : List HM) (i : Nat) : Bool := decide ((gH H i).c ≤ 0) || decide (((allF H).count (1000 + (i : Int)) : Nat) ≤ (gH H i).c)
def lastOk (H : List HM) : Bool := decide (H.length = 0) || !((gH H (H.length - 1)).c == 0)
noncomputable def vH (H : List HM) : Bool := H.all (vc H) && (lastOk H && ((List.range H.length).all (cntOk H) && acyB H))
theorem range_dropH {n k : Nat} (h : k < n) (f : Nat → Bool) : ((List.range n).drop k).all f = (f k && ((List.range n).drop (k + 1)).all f) := by
  have : k < (List.range n).length := by simpa using h
  rw [all_drop1 this, List.getElem_range]
section
variable {H : List HM} (h : HOk H)
include h
theorem HOk.ints : ∀ m ∈ H, IntsOk m.fs := fun m hm => (h.all m hm).2.2
theorem i_validHeap : impl_ValidHeap [.cell (.sl 3 (heapC H))] = oB (vH H) := by
  have hl := h.len
  have hlen : (((heapC H).length : Nat) : Int) = H.length := by rw [heapC_len]
  -- the counts
  have rest : H.all (vc H) = true → impl_ValidHeap_L2 (heapC H) (intsC (refsN (allF H) H.length)) (heapC H) (((heapC H).length : Nat) : Int) 0 = oB ((List.range H.length).all (cntOk H) && acyB H) := by
    intro hv
    have hf : FOk H := vc_fok h.ints (by simpa using hv)
    have key : ∀ m k : Nat, k + m = H.length → impl_ValidHeap_L2 (heapC H) (intsC (refsN (allF H) H.length)) (heapC H) (((heapC H).length : Nat) : Int) (k : Int) = oB (((List.range H.length).drop k).all (cntOk H) && acyB H) := by
      intro m
      induction m with
      | zero =>
        intro k hk
        rw [List.drop_eq_nil_of_le (by simp; omega)]
        refine impl_ValidHeap_L2_le (bifF (decide_eq_false (by omega)) (callB (i_hasCircle hl h.ints hf h.tot) ?_))
        rw [Bool.not_not, List.all_nil, Bool.true_and]
      | succ m ih =>
        intro k hk
        have hlt : k < H.length := by omega
        have hkr : k < (refsN (allF H) H.length).length := by rw [refsN_len]; exact hlt
        rw [range_dropH hlt]
        have hnext := ih (k + 1) (by omega)
        rw [← wrk (by unfold maxI; omega)] at hnext
        refine impl_ValidHeap_L2_le (bifT (decide_eq_true (by omega)) (atCellH hlt (atNum hkr ?_)))
        rw [refsN_get hkr]
        unfold cntOk
        by_cases h1 : (((allF H).count (1000 + (k : Int)) : Nat) : Int) ≤ (gH H k).c
        · rw [decide_eq_true h1, Bool.or_true, Bool.true_and]
          exact bifF (decide_eq_false (by omega)) hnext
        · rw [decide_eq_false h1, Bool.or_false]
          refine bifT (decide_eq_true (by omega)) ?_
          by_cases h2 : (gH H k).c ≤ 0
          · rw [decide_eq_true h2, Bool.true_and]
            exact bifF (decide_eq_false (by omega)) hnext
          · rw [decide_eq_false h2]
            exact bifT (decide_eq_true (by omega)) rfl
    have := key H.length 0 (by omega)
    rwa [List.drop_zero] at this
  have key : ∀ m k : Nat, k + m = H.length → (H.take k).all (vc H) = true → impl_ValidHeap_L0 (heapC H) (heapC H) (((heapC H).length : Nat) : Int) (k : Int) = oB ((H.drop k).all (vc H) && (lastOk H && ((List.range H.length).all (cntOk H) && acyB H))) := by
    intro m
    induction m with
    | zero =>
      intro k hk hv
      have hkn : k = H.length := by omega
      rw [hkn, List.take_length] at hv
      have r2 := rest hv
      have hf : FOk H := vc_fok h.ints (by simpa using hv)
      rw [List.drop_eq_nil_of_le (by omega), List.all_nil, Bool.true_and]
      refine impl_ValidHeap_L0_le (bifF (decide_eq_false (by omega)) ?_)
      by_cases h0 : H.length = 0
      · refine bifF (decide_eq_false (by omega)) (callS (i_allRefs hl h.ints hf h.tot) ?_)
        rw [show lastOk H = true by unfold lastOk; simp [h0], Bool.true_and]
        exact r2
      · have hw : wrapI ((((heapC H).length : Nat) : Int) - 1) = ((H.length - 1 : Nat) : Int) := by
          rw [hlen, wr (by omega) (by omega)]
          omega
        refine bifT (decide_eq_true (by omega)) ?_
        rw [hw]
        refine atCellH (by omega) ?_
        unfold lastOk
        rw [decide_eq_false h0, Bool.false_or]
        rcases ((gH H (H.length - 1)).c == 0) with _ | _
        · refine bifF rfl (callS (i_allRefs hl h.ints hf h.tot) ?_)
          rw [Bool.not_false, Bool.true_and]
          exact r2
        · exact bifT rfl rfl
    | succ m ih =>
      intro k hk hv
      have hlt : k < H.length := by omega
      rw [all_drop1 hlt]
      refine impl_ValidHeap_L0_le (bifT (decide_eq_true (by omega)) (atCellH hlt (callB (i_validCell (h.ints _ (gH_mem hlt))) ?_)))
      rw [← gH_eq hlt]
      rcases hvk : vc H (gH H k) with _ | _
      · exact bifT rfl rfl
      · rw [wrk (by unfold maxI; omega), Bool.true_and]
        refine bifF rfl (ih (k + 1) (by omega) ?_)
        rw [List.take_succ_eq_append_getElem hlt, List.all_append, hv, ← gH_eq hlt]
        simp [hvk]
  have := key H.length 0 (by omega) rfl
  rw [List.drop_zero] at this
  exact impl_ValidHeap_le this
theorem s_validHeap : spec_validHeap [.cell (.sl 3 (heapC H))] = oB (vH H) := by
  have hl := h.len
  have hlen : (((heapC H).length : Nat) : Int) = H.length := by rw [heapC_len]
  have rest : H.all (vc H) = true → spec_validHeap_L2 (heapC H) (intsC (refsN (allF H) H.length)) 0 = oB ((List.range H.length).all (cntOk H) && acyB H) := by
    intro hv
    have hf : FOk H := vc_fok h.ints (by simpa using hv)
    have key : ∀ m k : Nat, k + m = H.length → spec_validHeap_L2 (heapC H) (intsC (refsN (allF H) H.length)) (k : Int) = oB (((List.range H.length).drop k).all (cntOk H) && acyB H) := by
      intro m
      induction m with
      | zero =>
        intro k hk
        rw [List.drop_eq_nil_of_le (by simp; omega)]
        refine spec_validHeap_L2_le (bifF (decide_eq_false (by omega)) (callB (s_isAcyclic hl h.ints hf) ?_))
        rw [List.all_nil, Bool.true_and]
      | succ m ih =>
        intro k hk
        have hlt : k < H.length := by omega
        have hkr : k < (refsN (allF H) H.length).length := by rw [refsN_len]; exact hlt
        rw [range_dropH hlt]
        have hnext := ih (k + 1) (by omega)
        rw [← wrk (by unfold maxI; omega)] at hnext
        refine spec_validHeap_L2_le (bifT (decide_eq_true (by omega)) (atCellH hlt ?_))
        unfold cntOk
        by_cases h2 : (gH H k).c ≤ 0
        · rw [decide_eq_true h2, Bool.true_or, Bool.true_and]
          exact bifF (decide_eq_false (by omega)) hnext
        · rw [decide_eq_false h2, Bool.false_or]
          refine bifT (decide_eq_true (by omega)) (atCellH hlt (atNum hkr ?_))
          rw [refsN_get hkr]
          by_cases h1 : (((allF H).count (1000 + (k : Int)) : Nat) : Int) ≤ (gH H k).c
          · rw [decide_eq_true h1, Bool.true_and]
            exact bifF (decide_eq_false (by omega)) hnext
          · rw [decide_eq_false h1]
            exact bifT (decide_eq_true (by omega)) rfl
    have := key H.length 0 (by omega)
    rwa [List.drop_zero] at this
  have key : ∀ m k : Nat, k + m = H.length → (H.take k).all (vc H) = true → spec_validHeap_L0 (heapC H) (k : Int) = oB ((H.drop k).all (vc H) && ((List.range H.length).all (cntOk H) && acyB H)) := by
    intro m
    induction m with
    | zero =>
      intro k hk hv
      have hkn : k = H.length := by omega
      rw [hkn, List.take_length] at hv
      have hf : FOk H := vc_fok h.ints (by simpa using hv)
      rw [List.drop_eq_nil_of_le (by omega), List.all_nil, Bool.true_and]
      exact spec_validHeap_L0_le (bifF (decide_eq_false (by omega)) (callS (s_refsOf hl h.ints hf h.tot) (rest hv)))
    | succ m ih =>
      intro k hk hv
      have hlt : k < H.length := by omega
      rw [all_drop1 hlt]
      refine spec_validHeap_L0_le (bifT (decide_eq_true (by omega)) (atCellH hlt (callB (s_validCell hl (h.ints _ (gH_mem hlt))) ?_)))
      rw [← gH_eq hlt]
      rcases hvk : vc H (gH H k) with _ | _
      · exact bifT rfl rfl
      · rw [wrk (by unfold maxI; omega), Bool.true_and]
        refine bifF rfl (ih (k + 1) (by omega) ?_)
        rw [List.take_succ_eq_append_getElem hlt, List.all_append, hv, ← gH_eq hlt]
        simp [hvk]
  have start := key H.length 0 (by omega) rfl
  rw [List.drop_zero] at start
  unfold vH
  by_cases h0 : H.length = 0
  · rw [show lastOk H = true by unfold lastOk; simp [h0], Bool.true_and]
    exact spec_validHeap_le (bifF (decide_eq_false (by omega)) start)
  · have hw : wrapI ((((heapC H).length : Nat) : Int) - 1) = ((H.length - 1 : Nat) : Int) := by
      rw [hlen, wr (by omega) (by omega)]
      omega
    refine spec_validHeap_le (bifT (decide_eq_true (by omega)) ?_)
    rw [hw]
    refine atCellH (by omega) ?_
    have hlo : lastOk H = !((gH H (H.length - 1)).c == 0) := by unfold lastOk; rw [decide_eq_false h0, Bool.false_or]
    rw [hlo]
    rcases ((gH H (H.length - 1)).c == 0) with _ | _
    · rw [Bool.not_false, Bool.true_and]
      exact bifF rfl start
    · rw [Bool.not_true, Bool.false_and, Bool.and_false]
      exact bifT rfl rfl
/-! How many cells are live. -/
end
/-! The laws. -/
theorem hok_of {H : List HM} (hH : ∀ m ∈ H, inI m.c ∧ inI m.t ∧ IntsOk m.fs) {s : Nat} (hs : (heapC H).length + rsS (heapC H) = s) (hb : s ≤ 1048576) : HOk H := by
  rw [heapC_len, heap_size] at hs
  exact ⟨by omega, by omega, hH⟩
theorem nef' {b : Bool} : (b != b) = false := by cases b <;> rfl
end Go.Proofs.YthfihhejbplmfaaGreat

set_option linter.unusedVariables false
set_option linter.unusedSimpArgs false
namespace Go.Proofs.YthfihhejbplmfaaGreat
open Go
structure FM where
  p : Int
  a : Int
  d : Int
  regs : List Int
  own : List Int
  held : List Int
def frC (f : FM) : List AC := [.int f.p, .int f.a, .int f.d, .sl 1 (intsC f.regs), .sl 1 (intsC f.own), .sl 1 (intsC f.held)]
def frsC (F : List FM) : List (List AC) := F.map frC
def gF (F : List FM) (k : Nat) : FM := F.getD k ⟨0, 0, 0, [], [], []⟩
structure FrOk (f : FM) : Prop where
  p : inI f.p
  a : inI f.a
  d : inI f.d
  regs : IntsOk f.regs
  own : IntsOk f.own
  held : IntsOk f.held
theorem frsC_len (F : List FM) : (frsC F).length = F.length := by simp [frsC]
theorem frsC_get {F : List FM} {k : Nat} (h : k < F.length) : (frsC F).getD k [] = frC (gF F k) := by simp [frsC, gF, List.getD, h]
theorem gF_mem {F : List FM} {k : Nat} (h : k < F.length) : gF F k ∈ F := by simp [gF, List.getD, h]
theorem gF_eq {F : List FM} {k : Nat} (h : k < F.length) : gF F k = F[k] := by simp [gF, List.getD, h]
theorem frs_of {rows : List (List AC)} (h : ∀ r ∈ rows, Fit .frame r) : ∃ F : List FM, rows = frsC F ∧ ∀ f ∈ F, FrOk f := by
  induction rows with
  | nil => exact ⟨[], rfl, fun m h => by cases h⟩
  | cons r rows ih =>
    obtain ⟨F, rfl, hF⟩ := ih fun x hx => h x (List.mem_cons_of_mem _ hx)
    have hr := h r List.mem_cons_self
    cases hr with
    | frame p a d regs own held hp ha hd h1 h2 h3 =>
      refine ⟨⟨p, a, d, regs, own, held⟩ :: F, rfl, fun f hf => ?_⟩
      rcases List.mem_cons.1 hf with rfl | hf
      · exact ⟨hp, ha, hd, h1, h2, h3⟩
      · exact hF f hf
theorem frs_size (F : List FM) : (F.flatMap fun f => f.regs).length ≤ rsS (frsC F) ∧ (F.flatMap fun f => f.own).length ≤ rsS (frsC F) ∧ (F.flatMap fun f => f.held).length ≤ rsS (frsC F) := by
  induction F with
  | nil => exact ⟨Nat.zero_le _, Nat.zero_le _, Nat.zero_le _⟩
  | cons f F ih =>
    obtain ⟨h1, h2, h3⟩ := ih
    have : rsS (frsC (f :: F)) = f.regs.length + f.own.length + f.held.length + rsS (frsC F) := by
      show rsS (frC f :: frsC F) = _
      rw [rsS_cons, frC, cS_int, cS_int, cS_int, cS_sl, cS_sl, cS_sl, cS_nil, rsS_ints, rsS_ints, rsS_ints, intsC_len, intsC_len, intsC_len]
      omega
    rw [this]
    simp only [List.flatMap_cons, List.length_append]
    omega
section
variable {ρ : Type} {r : ρ}
theorem atFr {F : List FM} {k : Nat} (h : k < F.length) {K : Fn (Option ρ) [.int 0, .int 0, .int 0, .sl 1 [], .sl 1 [], .sl 1 []]} (h2 : (K : Int → Int → Int → List (List AC) → List (List AC) → List (List AC) → Option ρ) (gF F k).p (gF F k).a (gF F k).d (intsC (gF F k).regs) (intsC (gF F k).own) (intsC (gF F k).held) = some r) :
    atR_ (frsC F) (k : Int) [.int 0, .int 0, .int 0, .sl 1 [], .sl 1 [], .sl 1 []] K = some r :=
  atFrame (by rw [frsC_len]; exact h) (frsC_get h) h2
end
/-! What is counted. -/
abbrev Ev := Int × Int
def sumE : List Ev → Int → Int
  | [], _ => 0
  | e :: E, a => (if e.1 = a then e.2 else 0) + sumE E a
theorem sumE_app (E E' : List Ev) (a : Int) : sumE (E ++ E') a = sumE E a + sumE E' a := by
  induction E with
  | nil => simp [sumE]
  | cons e E ih => simp only [List.cons_append, sumE, ih]; omega
theorem sumE_one (e : Ev) (a : Int) : sumE [e] a = if e.1 = a then e.2 else 0 := by simp [sumE]
theorem sumE_bound {E : List Ev} (h : ∀ e ∈ E, 0 ≤ e.2 ∧ e.2 ≤ 1000000) (a : Int) : 0 ≤ sumE E a ∧ sumE E a ≤ 1000000 * (E.length : Int) := by
  induction E with
  | nil => simp [sumE]
  | cons e E ih =>
    obtain ⟨h1, h2⟩ := ih fun x hx => h x (List.mem_cons_of_mem _ hx)
    obtain ⟨h3, h4⟩ := h e List.mem_cons_self
    simp only [sumE, List.length_cons]
    split <;> omega
theorem sumE_none {E : List Ev} {a : Int} (h : ∀ e ∈ E, e.1 ≠ a) : sumE E a = 0 := by
  induction E with
  | nil => rfl
  | cons e E ih =>
    simp only [sumE]
    rw [if_neg (h e List.mem_cons_self), ih fun x hx => h x (List.mem_cons_of_mem _ hx)]
    rfl
theorem sumE_split {α : Type} (g h : α → List Ev) (a : Int) : ∀ l : List α, sumE (l.flatMap fun x => g x ++ h x) a = sumE (l.flatMap g) a + sumE (l.flatMap h) a
  | [] => rfl
  | x :: l => by
    simp only [List.flatMap_cons, sumE_app, sumE_split g h a l]
    omega
theorem sumE_cong {α : Type} {g h : α → List Ev} {a : Int} : ∀ {l : List α}, (∀ x ∈ l, sumE (g x) a = sumE (h x) a) → sumE (l.flatMap g) a = sumE (l.flatMap h) a
  | [], _ => rfl
  | x :: l, hx => by
    simp only [List.flatMap_cons, sumE_app, hx x List.mem_cons_self, sumE_cong fun y hy => hx y (List.mem_cons_of_mem _ hy)]
def addN (E : List Ev) (n : Nat) : List Int := (List.range n).map fun i : Nat => sumE E (1000 + (i : Int))
theorem addN_len (E : List Ev) (n : Nat) : (addN E n).length = n := by simp [addN]
theorem addN_get {E : List Ev} {n i : Nat} (h : i < (addN E n).length) : (addN E n)[i] = sumE E (1000 + (i : Int)) := by simp [addN]
theorem addN_hit (E : List Ev) {n j : Nat} (v : Int) (h : j < n) : (addN E n).set j (sumE E (1000 + (j : Int)) + v) = addN (E ++ [(1000 + (j : Int), v)]) n := by
  apply List.ext_getElem
  · rw [List.length_set, addN_len, addN_len]
  · intro i h1 h2
    rw [List.getElem_set, addN_get h2, sumE_app, sumE_one]
    by_cases hij : j = i
    · subst hij
      rw [if_pos rfl, if_pos rfl]
    · rw [if_neg hij, if_neg (by simp only; omega), addN_get]
      omega
theorem addN_refs (P : List Int) (n : Nat) : refsN P n = addN (P.map fun w => (w, 1)) n := by
  have key : ∀ (P : List Int) (a : Int), sumE (P.map fun w => (w, 1)) a = (P.count a : Nat) := by
    intro P a
    induction P with
    | nil => rfl
    | cons w P ih =>
      simp only [List.map_cons, sumE, ih, List.count_cons]
      by_cases h : w = a
      · subst h
        simp
        omega
      · simp [h]
  unfold refsN addN
  apply List.map_congr_left
  intro i _
  rw [key]
theorem zeros_add (n : Nat) : List.replicate n [AC.int 0] = intsC (addN [] n) := by
  rw [zeros_refs, addN_refs]
  rfl
def gN (xs : List Int) (k : Nat) : Int := xs.getD k 0
theorem gN_eq {xs : List Int} {k : Nat} (h : k < xs.length) : xs[k] = gN xs k := by simp [gN, List.getD, h]
/-- What a register owns, and what it holds. -/
def evO (f : FM) (r : Nat) : List Ev := if gN f.own r > 0 then [(gN f.regs r, gN f.own r)] else []
def evH (f : FM) (r : Nat) : List Ev := if gN f.held r = 0 then [] else [(gN f.held r, 1)]
def evB (f : FM) (r : Nat) : List Ev := evO f r ++ evH f r
def fEv (g : FM → Nat → List Ev) (f : FM) (k : Nat) : List Ev := (List.range k).flatMap (g f)
def pEv (g : FM → Nat → List Ev) (F : List FM) (c : Nat) : List Ev := (F.take c).flatMap fun f => fEv g f f.regs.length
theorem fEv_succ (g : FM → Nat → List Ev) (f : FM) (k : Nat) : fEv g f (k + 1) = fEv g f k ++ g f k := by
  unfold fEv
  rw [List.range_succ, List.flatMap_append]
  simp
theorem pEv_succ (g : FM → Nat → List Ev) {F : List FM} {c : Nat} (h : c < F.length) : pEv g F (c + 1) = pEv g F c ++ fEv g (gF F c) (gF F c).regs.length := by
  unfold pEv
  rw [List.take_succ_eq_append_getElem h, List.flatMap_append, gF_eq h]
  simp
theorem fEv_len {g : FM → Nat → List Ev} {m : Nat} (hg : ∀ f r, (g f r).length ≤ m) (f : FM) : ∀ k, (fEv g f k).length ≤ m * k
  | 0 => by simp [fEv]
  | k + 1 => by
    rw [fEv_succ, List.length_append]
    have := fEv_len hg f k
    have := hg f k
    rw [Nat.mul_succ]
    omega
theorem pEv_len {g : FM → Nat → List Ev} {m : Nat} (hg : ∀ f r, (g f r).length ≤ m) (F : List FM) (c : Nat) : (pEv g F c).length ≤ m * ((F.take c).flatMap fun f => f.regs).length := by
  unfold pEv
  generalize F.take c = l
  induction l with
  | nil => simp
  | cons f l ih =>
    simp only [List.flatMap_cons, List.length_append, Nat.mul_add]
    have := fEv_len hg f f.regs.length
    omega
theorem take_regs {F : List FM} {c : Nat} (h : c < F.length) : ((F.take c).flatMap fun f => f.regs).length + (gF F c).regs.length ≤ (F.flatMap fun f => f.regs).length := by
  have h1 : F = F.take c ++ gF F c :: F.drop (c + 1) := by
    rw [gF_eq h]
    conv => lhs; rw [← List.take_append_drop c F, List.drop_eq_getElem_cons h]
  have h2 : (F.flatMap fun f => f.regs).length = ((F.take c ++ gF F c :: F.drop (c + 1)).flatMap fun f => f.regs).length := by rw [← h1]
  rw [h2]
  simp only [List.flatMap_append, List.flatMap_cons, List.length_append]
  omega
theorem ev_len {g : FM → Nat → List Ev} {m : Nat} (hg : ∀ f r, (g f r).length ≤ m) {F : List FM} {c k : Nat} (h : c < F.length) (hk : k ≤ (gF F c).regs.length) : (pEv g F c ++ fEv g (gF F c) k).length ≤ m * (F.flatMap fun f => f.regs).length := by
  rw [List.length_append]
  have h1 := pEv_len hg F c
  have h2 := fEv_len hg (gF F c) k
  have h3 := take_regs h
  have h4 : m * k ≤ m * (gF F c).regs.length := Nat.mul_le_mul_left _ hk
  have h5 := Nat.mul_le_mul_left m h3
  rw [Nat.mul_add] at h5
  omega
end Go.Proofs.YthfihhejbplmfaaGreat
