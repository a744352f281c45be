/- Circles: two ways to look for them. -/
import Derived.Test.YtnnalagflpmedaaHb
set_option linter.unusedVariables false
set_option linter.unusedSimpArgs false
namespace Go.Proofs.Ytnnalagflpmedaa
open Go
def ptrH (H : List HM) (i j : Nat) : Prop := (1000 + (j : Int)) ∈ (gH H i).fs
def Acy (H : List HM) : Prop := ∃ rk : Nat → Nat, ∀ i, i < H.length → ∀ j, ptrH H i j → rk j < rk i
open Classical in
noncomputable def acyB (H : List HM) : Bool := decide (Acy H)
theorem acy_true {H : List HM} (h : Acy H) : acyB H = true := by unfold acyB; simp [h]
theorem acy_false {H : List HM} (h : ¬ Acy H) : acyB H = false := by unfold acyB; simp [h]
theorem ptr_lt {H : List HM} (hf : FOk H) {i j : Nat} (hi : i < H.length) (h : ptrH H i j) : j < H.length := by
  have := (hf _ (gH_mem hi) _ h).2.resolve_left (by omega)
  obtain ⟨j', e, hj⟩ := live_range this
  omega
/-! From the leaves: marks. -/
theorem s_allMarked {mk : List Bool} (hm : mk.length ≤ 1048576) {fs : List Int} (hf : IntsOk fs) (hr : ∀ w ∈ fs, w < 1000 ∨ ∃ j : Nat, w = 1000 + (j : Int) ∧ j < mk.length) :
    spec_allMarked [.cell (.sl 1 (boolsC mk)), .cell (.sl 1 (intsC fs))] = oB (fs.all fun w => decide (w < 1000) || mk.getD (w - 1000).toNat false) := by
  have key : ∀ m k : Nat, k + m = fs.length → spec_allMarked_L0 (boolsC mk) (intsC fs) (k : Int) = oB ((fs.drop k).all fun w => decide (w < 1000) || mk.getD (w - 1000).toNat false) := by
    intro m
    induction m with
    | zero =>
      intro k hk
      rw [List.drop_eq_nil_of_le (by omega)]
      exact spec_allMarked_L0_le (bifF (decide_eq_false (by rw [intsC_len]; omega)) rfl)
    | succ m ih =>
      intro k hk
      have hlt : k < fs.length := by omega
      have hin := hf.all _ (List.getElem_mem hlt)
      rw [all_drop1 hlt]
      refine spec_allMarked_L0_le (bifT (decide_eq_true (by rw [intsC_len]; omega)) (atNum hlt (callB (s_isPointer _) ?_)))
      have hnext := ih (k + 1) (by omega)
      rw [← wrk (by have := hf.len; omega)] at hnext
      rcases hr _ (List.getElem_mem hlt) with hp | ⟨j, hj, hjl⟩
      · rw [decide_eq_true hp, Bool.true_or, Bool.true_and]
        exact bifF (decide_eq_false (by omega)) hnext
      · rw [decide_eq_false (show ¬ fs[k] < 1000 by omega), Bool.false_or]
        refine bifT (decide_eq_true (by omega)) (atNum hlt ?_)
        rw [wr (n := fs[k] - 1000) (by omega) (by have := hin.2; omega), show fs[k] - 1000 = (j : Int) by omega]
        have hg : mk.getD (j : Int).toNat false = mk[j] := by simp [List.getD, hjl]
        rw [hg]
        refine atBoolC hjl ?_
        rcases mk[j] with _ | _
        · exact bifT rfl rfl
        · rw [Bool.true_and]
          exact bifF rfl hnext
  exact spec_allMarked_le (key fs.length 0 (by omega))
structure Good (H : List HM) (mk : List Bool) (many : Nat) : Prop where
  len : mk.length = H.length
  cnt : mk.count true = many
  rk : ∃ rk : Nat → Nat, ∀ i, mk[i]? = some true → rk i < many ∧ ∀ j, ptrH H i j → mk[j]? = some true ∧ rk j < rk i
def Stuck (H : List HM) (mk : List Bool) (j : Nat) : Prop := mk[j]? = some true ∨ ∃ i, ptrH H j i ∧ mk[i]? ≠ some true
theorem count_mark : ∀ (l : List Bool) (i : Nat), l[i]? = some false → (l.set i true).count true = l.count true + 1
  | [], i, h => by simp at h
  | b :: l, 0, h => by
    simp at h
    subst h
    simp
  | b :: l, i + 1, h => by
    have := count_mark l i (by simpa using h)
    cases b <;> simp [this]
theorem Good.mark {H : List HM} {mk : List Bool} {many k : Nat} (h : Good H mk many) (hk : mk[k]? = some false) (hp : ∀ j, ptrH H k j → mk[j]? = some true) : Good H (mk.set k true) (many + 1) := by
  have hlt := (List.getElem?_eq_some_iff.1 hk).1
  obtain ⟨rk, hr⟩ := h.rk
  have hne : ∀ j, mk[j]? = some true → j ≠ k := fun j hj e => by rw [e, hk] at hj; cases hj
  refine ⟨by rw [List.length_set]; exact h.len, by rw [count_mark _ _ hk, h.cnt], fun x => if x = k then many else rk x, fun i hi => ?_⟩
  by_cases hik : i = k
  · subst hik
    simp only [if_true]
    refine ⟨Nat.lt_succ_self _, fun j hj => ?_⟩
    have hm := hp j hj
    have hjk := hne j hm
    rw [if_neg hjk]
    exact ⟨by rw [List.getElem?_set_ne (Ne.symm hjk)]; exact hm, (hr j hm).1⟩
  · rw [List.getElem?_set_ne (Ne.symm hik)] at hi
    obtain ⟨h1, h2⟩ := hr i hi
    simp only [if_neg hik]
    refine ⟨by omega, fun j hj => ?_⟩
    obtain ⟨h3, h4⟩ := h2 j hj
    have hjk := hne j h3
    rw [if_neg hjk]
    exact ⟨by rw [List.getElem?_set_ne (Ne.symm hjk)]; exact h3, h4⟩
theorem Good.le {H : List HM} {mk : List Bool} {many : Nat} (h : Good H mk many) : many ≤ H.length := by
  rw [← h.cnt, ← h.len]
  exact List.count_le_length
theorem stuck_all {H : List HM} (hf : FOk H) {mk : List Bool} {many : Nat} (hg : Good H mk many) (hs : ∀ j, j < H.length → Stuck H mk j) : ((many : Int) == ((H.length : Nat) : Int)) = acyB H := by
  by_cases ha : Acy H
  · rw [acy_true ha]
    obtain ⟨rk, hr⟩ := ha
    have key : ∀ r i, i < H.length → rk i = r → mk[i]? = some true := by
      intro r
      induction r using Nat.strongRecOn with
      | _ r ih =>
        intro i hi' he
        rcases hs i hi' with h | ⟨j, hj, hn⟩
        · exact h
        · have := hr i hi' j hj
          exact absurd (ih (rk j) (by omega) j (ptr_lt hf hi' hj) rfl) hn
    have hall : ∀ x ∈ mk, true = x := fun x hx => by
      obtain ⟨i, hil, rfl⟩ := List.mem_iff_getElem.1 hx
      have := key _ i (by rw [← hg.len]; exact hil) rfl
      rw [List.getElem?_eq_getElem hil] at this
      simpa using this.symm
    have : mk.count true = mk.length := List.count_eq_length.2 hall
    have e : many = H.length := by rw [← hg.cnt, this, hg.len]
    simp [e]
  · rw [acy_false ha]
    have : many ≠ H.length := fun e => ha (by
      obtain ⟨rk, hr⟩ := hg.rk
      refine ⟨rk, fun i hi' j hj => ?_⟩
      have hall := List.count_eq_length.1 (show mk.count true = mk.length by rw [hg.cnt, hg.len, e])
      have hil : i < mk.length := by rw [hg.len]; exact hi'
      have hm : mk[i]? = some true := by rw [List.getElem?_eq_getElem hil, ← hall _ (List.getElem_mem hil)]
      exact ((hr i hm).2 j hj).2)
    rw [beq_eq_false_iff_ne]
    omega
section
variable {H : List HM} (hl : H.length ≤ 1048576) (hi : ∀ m ∈ H, IntsOk m.fs) (hf : FOk H)
include hl hi hf
theorem s_pass {many0 : Nat} {R : Option AV} (hR : ∃ v, R = some v) : ∀ (m k : Nat) (mk : List Bool) (many : Nat) (b : Bool), k + m = H.length → Good H mk many → many0 ≤ many → (b = true → many0 < many) → (b = false → ∀ j, j < k → Stuck H mk j) →
    (∀ (mk' : List Bool) (many' : Nat) (b' : Bool), Good H mk' many' → (b' = true → many0 < many') → (b' = false → ∀ j, j < H.length → Stuck H mk' j) → spec_isAcyclic_L0 (heapC H) (many' : Int) b' (boolsC mk') = R) →
    spec_isAcyclic_L2 (heapC H) (many : Int) b (k : Int) (boolsC mk) = R := by
  obtain ⟨v, rfl⟩ := hR
  intro m
  induction m with
  | zero =>
    intro k mk many b hk hg hm hb hs hK
    exact spec_isAcyclic_L2_le (bifF (decide_eq_false (by rw [heapC_len]; omega)) (hK mk many b hg hb fun e j hj => hs e j (by omega)))
  | succ m ih =>
    intro k mk many b hk hg hm hb hs hK
    have hlt : k < H.length := by omega
    have hml : k < mk.length := by rw [hg.len]; exact hlt
    have hfs := hi _ (gH_mem hlt)
    have hr : ∀ w ∈ (gH H k).fs, w < 1000 ∨ ∃ j : Nat, w = 1000 + (j : Int) ∧ j < mk.length := fun w hw => by
      rcases (hf _ (gH_mem hlt) w hw).2 with h | h
      · exact .inl h
      · obtain ⟨j, e, hj⟩ := live_range h
        exact .inr ⟨j, e, by rw [hg.len]; exact hj⟩
    have wk : wrapI ((k : Int) + 1) = ((k + 1 : Nat) : Int) := wrk (by unfold maxI; omega)
    refine spec_isAcyclic_L2_le (bifT (decide_eq_true (by rw [heapC_len]; omega)) (elBool hml ?_))
    have skip : (b = false → Stuck H mk k) → spec_isAcyclic_L2 (heapC H) (many : Int) b (wrapI ((k : Int) + 1)) (boolsC mk) = some v := fun hst => by
      rw [wk]
      refine ih (k + 1) mk many b (by omega) hg hm hb (fun e j hj => ?_) hK
      by_cases hjk : j = k
      · rw [hjk]; exact hst e
      · exact hs e j (by omega)
    rcases hmk : mk[k] with _ | _
    · refine bifT rfl (atCellH hlt (callFB (s_allMarked (by rw [hg.len]; exact hl) hfs hr) ?_))
      rcases hall : ((gH H k).fs.all fun w => decide (w < 1000) || mk.getD (w - 1000).toNat false) with _ | _
      · refine bifF rfl (skip fun _ => .inr ?_)
        rw [List.all_eq_false] at hall
        obtain ⟨w, hw, hn⟩ := hall
        simp only [Bool.or_eq_true, decide_eq_true_eq, not_or] at hn
        obtain ⟨j, e, hj⟩ := (hr w hw).resolve_left hn.1
        refine ⟨j, by unfold ptrH; rw [← e]; exact hw, fun hjm => hn.2 ?_⟩
        rw [show (w - 1000).toNat = j by omega]
        simp [List.getD, hjm]
      · refine bifT rfl (setBool hml ?_)
        have hk' : mk[k]? = some false := by rw [List.getElem?_eq_getElem hml, hmk]
        have hp : ∀ j, ptrH H k j → mk[j]? = some true := fun j hj => by
          rw [List.all_eq_true] at hall
          have := hall _ hj
          rw [decide_eq_false (by omega), Bool.false_or, show ((1000 : Int) + (j : Int) - 1000).toNat = j by omega] at this
          have hjl : j < mk.length := by rw [hg.len]; exact ptr_lt hf hlt hj
          rw [List.getElem?_eq_getElem hjl]
          simpa [List.getD, hjl] using this
        have hg' := hg.mark hk' hp
        rw [wk, wrk (by have := hg.le; unfold maxI; omega)]
        exact ih (k + 1) _ (many + 1) true (by omega) hg' (by omega) (fun _ => by omega) (fun e => by cases e) hK
    · exact bifF rfl (skip fun _ => .inl (by rw [List.getElem?_eq_getElem hml, hmk]))
theorem s_outer : ∀ (fuel : Nat) (mk : List Bool) (many : Nat), Good H mk many → H.length - many ≤ fuel → spec_isAcyclic_L0 (heapC H) (many : Int) true (boolsC mk) = oB (acyB H) := by
  intro fuel
  induction fuel with
  | zero =>
    intro mk many hg hfu
    refine spec_isAcyclic_L0_le (bifT rfl (s_pass hl hi hf (many0 := many) ⟨_, rfl⟩ H.length 0 mk many false (by omega) hg (Nat.le_refl _) (fun e => by cases e) (fun _ j hj => by omega) fun mk' many' b' hg' h1 h2 => ?_))
    cases b'
    · refine spec_isAcyclic_L0_le (bifF rfl ?_)
      rw [heapC_len, stuck_all hf hg' (h2 rfl)]
    · have := hg'.le
      have := h1 rfl
      omega
  | succ fuel ih =>
    intro mk many hg hfu
    refine spec_isAcyclic_L0_le (bifT rfl (s_pass hl hi hf (many0 := many) ⟨_, rfl⟩ H.length 0 mk many false (by omega) hg (Nat.le_refl _) (fun e => by cases e) (fun _ j hj => by omega) fun mk' many' b' hg' h1 h2 => ?_))
    cases b'
    · refine spec_isAcyclic_L0_le (bifF rfl ?_)
      rw [heapC_len, stuck_all hf hg' (h2 rfl)]
    · have := h1 rfl
      exact ih mk' many' hg' (by omega)
theorem s_isAcyclic : spec_isAcyclic [.cell (.sl 3 (heapC H))] = oB (acyB H) := by
  refine spec_isAcyclic_le ?_
  rw [heapC_len]
  refine repTo (by omega) ?_
  rw [show List.replicate H.length [AC.bool false] = boolsC (List.replicate H.length false) by simp [boolsC]]
  refine s_outer hl hi hf H.length _ 0 ⟨by simp, by simp [List.count_replicate], fun _ => 0, fun i h => ?_⟩ (by omega)
  rw [List.getElem?_replicate] at h
  split at h <;> cases h
end
end Go.Proofs.Ytnnalagflpmedaa
