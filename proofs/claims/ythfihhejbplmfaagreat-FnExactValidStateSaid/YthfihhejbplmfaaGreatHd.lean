/- Circles: two ways to look for them. Circles: from the roots; valid heaps; the laws. -/
import Derived.Test.YthfihhejbplmfaaGreatHb
set_option linter.unusedVariables false
set_option linter.unusedSimpArgs false
namespace Go.Proofs.YthfihhejbplmfaaGreat
open Go
def ptrH (H : List HM) (i j : Nat) : Prop := (1000 + (j : Int)) ∈ (gH H i).fs
def Acy (H : List HM) : Prop := ∃ rk : Nat → Nat, ∀ i, i < H.length → ∀ j, ptrH H i j → rk j < rk i
open Classical in
noncomputable def acyB (H : List HM) : Bool := decide (Acy H)
theorem acy_true {H : List HM} (h : Acy H) : acyB H = true := by unfold acyB; simp [h]
theorem acy_false {H : List HM} (h : ¬ Acy H) : acyB H = false := by unfold acyB; simp [h]
theorem ptr_lt {H : List HM} (hf : FOk H) {i j : Nat} (hi : i < H.length) (h : ptrH H i j) : j < H.length := by
  have := (hf _ (gH_mem hi) _ h).2.resolve_left (by omega)
  obtain ⟨j', e, hj⟩ := live_range this
  omega
/-! From the leaves: marks. -/
theorem s_allMarked {mk : List Bool} (hm : mk.length ≤ 1048576) {fs : List Int} (hf : IntsOk fs) (hr : ∀ w ∈ fs, w < 1000 ∨ ∃ j : Nat, w = 1000 + (j : Int) ∧ j < mk.length) :
    spec_allMarked [.cell (.sl 1 (boolsC mk)), .cell (.sl 1 (intsC fs))] = oB (fs.all fun w => decide (w < 1000) || mk.getD (w - 1000).toNat false) := by
  have key : ∀ m k : Nat, k + m = fs.length → spec_allMarked_L0 (boolsC mk) (intsC fs) (k : Int) = oB ((fs.drop k).all fun w => decide (w < 1000) || mk.getD (w - 1000).toNat false) := by
    intro m
    induction m with
    | zero =>
      intro k hk
      rw [List.drop_eq_nil_of_le (by omega)]
      exact spec_allMarked_L0_le (bifF (decide_eq_false (by rw [intsC_len]; omega)) rfl)
    | succ m ih =>
      intro k hk
      have hlt : k < fs.length := by omega
      have hin := hf.all _ (List.getElem_mem hlt)
      rw [all_drop1 hlt]
      refine spec_allMarked_L0_le (bifT (decide_eq_true (by rw [intsC_len]; omega)) (atNum hlt (callB (s_isPointer _) ?_)))
      have hnext := ih (k + 1) (by omega)
      rw [← wrk (by have := hf.len; omega)] at hnext
      rcases hr _ (List.getElem_mem hlt) with hp | ⟨j, hj, hjl⟩
      · rw [decide_eq_true hp, Bool.true_or, Bool.true_and]
        exact bifF (decide_eq_false (by omega)) hnext
      · rw [decide_eq_false (show ¬ fs[k] < 1000 by omega), Bool.false_or]
        refine bifT (decide_eq_true (by omega)) (atNum hlt ?_)
        rw [wr (n := fs[k] - 1000) (by omega) (by have := hin.2; omega), show fs[k] - 1000 = (j : Int) by omega]
        have hg : mk.getD (j : Int).toNat false = mk[j] := by simp [List.getD, hjl]
        rw [hg]
        refine atBoolC hjl ?_
        rcases mk[j] with _ | _
        · exact bifT rfl rfl
        · rw [Bool.true_and]
          exact bifF rfl hnext
  exact spec_allMarked_le (key fs.length 0 (by omega))
structure Good (H : List HM) (mk : List Bool) (many : Nat) : Prop where
  len : mk.length = H.length
  cnt : mk.count true = many
  rk : ∃ rk : Nat → Nat, ∀ i, mk[i]? = some true → rk i < many ∧ ∀ j, ptrH H i j → mk[j]? = some true ∧ rk j < rk i
def Stuck (H : List HM) (mk : List Bool) (j : Nat) : Prop := mk[j]? = some true ∨ ∃ i, ptrH H j i ∧ mk[i]? ≠ some true
theorem count_mark : ∀ (l : List Bool) (i : Nat), l[i]? = some false → (l.set i true).count true = l.count true + 1
  | [], i, h => by simp at h
  | b :: l, 0, h => by
    simp at h
    subst h
    simp
  | b :: l, i + 1, h => by
    have := count_mark l i (by simpa using h)
    cases b <;> simp [this]
theorem Good.mark {H : List HM} {mk : List Bool} {many k : Nat} (h : Good H mk many) (hk : mk[k]? = some false) (hp : ∀ j, ptrH H k j → mk[j]? = some true) : Good H (mk.set k true) (many + 1) := by
  have hlt := (List.getElem?_eq_some_iff.1 hk).1
  obtain ⟨rk, hr⟩ := h.rk
  have hne : ∀ j, mk[j]? = some true → j ≠ k := fun j hj e => by rw [e, hk] at hj; cases hj
  refine ⟨by rw [List.length_set]; exact h.len, by rw [count_mark _ _ hk, h.cnt], fun x => if x = k then many else rk x, fun i hi => ?_⟩
  by_cases hik : i = k
  · subst hik
    simp only [if_true]
    refine ⟨Nat.lt_succ_self _, fun j hj => ?_⟩
    have hm := hp j hj
    have hjk := hne j hm
    rw [if_neg hjk]
    exact ⟨by rw [List.getElem?_set_ne (Ne.symm hjk)]; exact hm, (hr j hm).1⟩
  · rw [List.getElem?_set_ne (Ne.symm hik)] at hi
    obtain ⟨h1, h2⟩ := hr i hi
    simp only [if_neg hik]
    refine ⟨by omega, fun j hj => ?_⟩
    obtain ⟨h3, h4⟩ := h2 j hj
    have hjk := hne j h3
    rw [if_neg hjk]
    exact ⟨by rw [List.getElem?_set_ne (Ne.symm hjk)]; exact h3, h4⟩
theorem Good.le {H : List HM} {mk : List Bool} {many : Nat} (h : Good H mk many) : many ≤ H.length := by
  rw [← h.cnt, ← h.len]
  exact List.count_le_length
theorem stuck_all {H : List HM} (hf : FOk H) {mk : List Bool} {many : Nat} (hg : Good H mk many) (hs : ∀ j, j < H.length → Stuck H mk j) : ((many : Int) == ((H.length : Nat) : Int)) = acyB H := by
  by_cases ha : Acy H
  · rw [acy_true ha]
    obtain ⟨rk, hr⟩ := ha
    have key : ∀ r i, i < H.length → rk i = r → mk[i]? = some true := by
      intro r
      induction r using Nat.strongRecOn with
      | _ r ih =>
        intro i hi' he
        rcases hs i hi' with h | ⟨j, hj, hn⟩
        · exact h
        · have := hr i hi' j hj
          exact absurd (ih (rk j) (by omega) j (ptr_lt hf hi' hj) rfl) hn
    have hall : ∀ x ∈ mk, true = x := fun x hx => by
      obtain ⟨i, hil, rfl⟩ := List.mem_iff_getElem.1 hx
      have := key _ i (by rw [← hg.len]; exact hil) rfl
      rw [List.getElem?_eq_getElem hil] at this
      simpa using this.symm
    have : mk.count true = mk.length := List.count_eq_length.2 hall
    have e : many = H.length := by rw [← hg.cnt, this, hg.len]
    simp [e]
  · rw [acy_false ha]
    have : many ≠ H.length := fun e => ha (by
      obtain ⟨rk, hr⟩ := hg.rk
      refine ⟨rk, fun i hi' j hj => ?_⟩
      have hall := List.count_eq_length.1 (show mk.count true = mk.length by rw [hg.cnt, hg.len, e])
      have hil : i < mk.length := by rw [hg.len]; exact hi'
      have hm : mk[i]? = some true := by rw [List.getElem?_eq_getElem hil, ← hall _ (List.getElem_mem hil)]
      exact ((hr i hm).2 j hj).2)
    rw [beq_eq_false_iff_ne]
    omega
section
variable {H : List HM} (hl : H.length ≤ 1048576) (hi : ∀ m ∈ H, IntsOk m.fs) (hf : FOk H)
include hl hi hf
theorem s_pass {many0 : Nat} {R : Option AV} (hR : ∃ v, R = some v) : ∀ (m k : Nat) (mk : List Bool) (many : Nat) (b : Bool), k + m = H.length → Good H mk many → many0 ≤ many → (b = true → many0 < many) → (b = false → ∀ j, j < k → Stuck H mk j) →
    (∀ (mk' : List Bool) (many' : Nat) (b' : Bool), Good H mk' many' → (b' = true → many0 < many') → (b' = false → ∀ j, j < H.length → Stuck H mk' j) → spec_isAcyclic_L0 (heapC H) (many' : Int) b' (boolsC mk') = R) →
    spec_isAcyclic_L2 (heapC H) (many : Int) b (k : Int) (boolsC mk) = R := by
  obtain ⟨v, rfl⟩ := hR
  intro m
  induction m with
  | zero =>
    intro k mk many b hk hg hm hb hs hK
    exact spec_isAcyclic_L2_le (bifF (decide_eq_false (by rw [heapC_len]; omega)) (hK mk many b hg hb fun e j hj => hs e j (by omega)))
  | succ m ih =>
    intro k mk many b hk hg hm hb hs hK
    have hlt : k < H.length := by omega
    have hml : k < mk.length := by rw [hg.len]; exact hlt
    have hfs := hi _ (gH_mem hlt)
    have hr : ∀ w ∈ (gH H k).fs, w < 1000 ∨ ∃ j : Nat, w = 1000 + (j : Int) ∧ j < mk.length := fun w hw => by
      rcases (hf _ (gH_mem hlt) w hw).2 with h | h
      · exact .inl h
      · obtain ⟨j, e, hj⟩ := live_range h
        exact .inr ⟨j, e, by rw [hg.len]; exact hj⟩
    have wk : wrapI ((k : Int) + 1) = ((k + 1 : Nat) : Int) := wrk (by unfold maxI; omega)
    refine spec_isAcyclic_L2_le (bifT (decide_eq_true (by rw [heapC_len]; omega)) (elBool hml ?_))
    have skip : (b = false → Stuck H mk k) → spec_isAcyclic_L2 (heapC H) (many : Int) b (wrapI ((k : Int) + 1)) (boolsC mk) = some v := fun hst => by
      rw [wk]
      refine ih (k + 1) mk many b (by omega) hg hm hb (fun e j hj => ?_) hK
      by_cases hjk : j = k
      · rw [hjk]; exact hst e
      · exact hs e j (by omega)
    rcases hmk : mk[k] with _ | _
    · refine bifT rfl (atCellH hlt (callFB (s_allMarked (by rw [hg.len]; exact hl) hfs hr) ?_))
      rcases hall : ((gH H k).fs.all fun w => decide (w < 1000) || mk.getD (w - 1000).toNat false) with _ | _
      · refine bifF rfl (skip fun _ => .inr ?_)
        rw [List.all_eq_false] at hall
        obtain ⟨w, hw, hn⟩ := hall
        simp only [Bool.or_eq_true, decide_eq_true_eq, not_or] at hn
        obtain ⟨j, e, hj⟩ := (hr w hw).resolve_left hn.1
        refine ⟨j, by unfold ptrH; rw [← e]; exact hw, fun hjm => hn.2 ?_⟩
        rw [show (w - 1000).toNat = j by omega]
        simp [List.getD, hjm]
      · refine bifT rfl (setBool hml ?_)
        have hk' : mk[k]? = some false := by rw [List.getElem?_eq_getElem hml, hmk]
        have hp : ∀ j, ptrH H k j → mk[j]? = some true := fun j hj => by
          rw [List.all_eq_true] at hall
          have := hall _ hj
          rw [decide_eq_false (by omega), Bool.false_or, show ((1000 : Int) + (j : Int) - 1000).toNat = j by omega] at this
          have hjl : j < mk.length := by rw [hg.len]; exact ptr_lt hf hlt hj
          rw [List.getElem?_eq_getElem hjl]
          simpa [List.getD, hjl] using this
        have hg' := hg.mark hk' hp
        rw [wk, wrk (by have := hg.le; unfold maxI; omega)]
        exact ih (k + 1) _ (many + 1) true (by omega) hg' (by omega) (fun _ => by omega) (fun e => by cases e) hK
    · exact bifF rfl (skip fun _ => .inl (by rw [List.getElem?_eq_getElem hml, hmk]))
theorem s_outer : ∀ (fuel : Nat) (mk : List Bool) (many : Nat), Good H mk many → H.length - many ≤ fuel → spec_isAcyclic_L0 (heapC H) (many : Int) true (boolsC mk) = oB (acyB H) := by
  intro fuel
  induction fuel with
  | zero =>
    intro mk many hg hfu
    refine spec_isAcyclic_L0_le (bifT rfl (s_pass hl hi hf (many0 := many) ⟨_, rfl⟩ H.length 0 mk many false (by omega) hg (Nat.le_refl _) (fun e => by cases e) (fun _ j hj => by omega) fun mk' many' b' hg' h1 h2 => ?_))
    cases b'
    · refine spec_isAcyclic_L0_le (bifF rfl ?_)
      rw [heapC_len, stuck_all hf hg' (h2 rfl)]
    · have := hg'.le
      have := h1 rfl
      omega
  | succ fuel ih =>
    intro mk many hg hfu
    refine spec_isAcyclic_L0_le (bifT rfl (s_pass hl hi hf (many0 := many) ⟨_, rfl⟩ H.length 0 mk many false (by omega) hg (Nat.le_refl _) (fun e => by cases e) (fun _ j hj => by omega) fun mk' many' b' hg' h1 h2 => ?_))
    cases b'
    · refine spec_isAcyclic_L0_le (bifF rfl ?_)
      rw [heapC_len, stuck_all hf hg' (h2 rfl)]
    · have := h1 rfl
      exact ih mk' many' hg' (by omega)
theorem s_isAcyclic : spec_isAcyclic [.cell (.sl 3 (heapC H))] = oB (acyB H) := by
  refine spec_isAcyclic_le ?_
  rw [heapC_len]
  refine repTo (by omega) ?_
  rw [show List.replicate H.length [AC.bool false] = boolsC (List.replicate H.length false) by simp [boolsC]]
  refine s_outer hl hi hf H.length _ 0 ⟨by simp, by simp [List.count_replicate], fun _ => 0, fun i h => ?_⟩ (by omega)
  rw [List.getElem?_replicate] at h
  split at h <;> cases h
end
end Go.Proofs.YthfihhejbplmfaaGreat

set_option linter.unusedVariables false
set_option linter.unusedSimpArgs false
namespace Go.Proofs.YthfihhejbplmfaaGreat
open Go
theorem nodup_sub {α : Type} [DecidableEq α] : ∀ {A B : List α}, A.Nodup → (∀ x ∈ A, x ∈ B) → A.length ≤ B.length
  | [], _, _, _ => Nat.zero_le _
  | a :: A, B, hn, hs => by
    rw [List.nodup_cons] at hn
    have hb := hs a List.mem_cons_self
    have := nodup_sub (A := A) (B := B.erase a) hn.2 fun x hx => by
      refine (List.mem_erase_of_ne ?_).2 (hs x (List.mem_cons_of_mem _ hx))
      intro e
      rw [e] at hx
      exact hn.1 hx
    rw [List.length_erase_of_mem hb] at this
    have := List.length_pos_of_mem hb
    simp only [List.length_cons]
    omega
def sumN : Nat → (Nat → Nat) → Nat
  | 0, _ => 0
  | n + 1, g => sumN n g + g n
theorem sumN_congr : ∀ {n : Nat} {g g' : Nat → Nat}, (∀ x, x < n → g x = g' x) → sumN n g = sumN n g'
  | 0, _, _, _ => rfl
  | n + 1, g, g', h => by rw [sumN, sumN, sumN_congr fun x hx => h x (by omega), h n (by omega)]
theorem sumN_zero : ∀ {n : Nat} {g : Nat → Nat}, sumN n g = 0 ↔ ∀ x, x < n → g x = 0
  | 0, g => ⟨fun _ x hx => by omega, fun _ => rfl⟩
  | n + 1, g => by
    rw [sumN]
    constructor
    · intro h x hx
      have h1 : sumN n g = 0 := by omega
      by_cases hxn : x = n
      · rw [hxn]; omega
      · exact sumN_zero.1 h1 x (by omega)
    · intro h
      rw [sumN_zero.2 fun x hx => h x (by omega), h n (by omega)]
theorem sumN_out : ∀ {n c : Nat} {g : Nat → Nat}, c < n → sumN n g = sumN n (fun x => if x = c then 0 else g x) + g c
  | 0, c, g, h => by omega
  | n + 1, c, g, h => by
    rw [sumN, sumN]
    by_cases hc : c = n
    · subst hc
      rw [if_pos rfl, sumN_congr (g := g) (g' := fun x => if x = c then 0 else g x) fun x hx => by rw [if_neg (by omega)]]
      omega
    · rw [if_neg (Ne.symm hc), sumN_out (c := c) (g := g) (by omega)]
      omega
theorem sumN_le {n c : Nat} {g : Nat → Nat} (h : c < n) : g c ≤ sumN n g := by
  rw [sumN_out h]
  omega
def cntP (H : List HM) (x i : Nat) : Nat := (gH H x).fs.count (1000 + (i : Int))
theorem cnt_ptr {H : List HM} {x i : Nat} : 0 < cntP H x i ↔ ptrH H x i := List.count_pos_iff
def pend (H : List HM) (D : List Nat) (i : Nat) : Nat := sumN H.length fun x => if x ∈ D then 0 else cntP H x i
theorem pend_nil (H : List HM) (i : Nat) : pend H [] i = (allF H).count (1000 + (i : Int)) := by
  have key : ∀ c, c ≤ H.length → (preF H c).count (1000 + (i : Int)) = sumN c fun x => cntP H x i := by
    intro c
    induction c with
    | zero => intro _; simp [preF, allF, sumN]
    | succ c ih =>
      intro hc
      rw [preF_succ (by omega), List.count_append, ih (by omega)]
      rfl
  rw [← preF_all, key _ (Nat.le_refl _)]
  unfold pend
  exact sumN_congr fun x _ => by simp
theorem pend_snoc {H : List HM} {D : List Nat} {c : Nat} (hc : c < H.length) (hn : c ∉ D) (i : Nat) : pend H D i = pend H (D ++ [c]) i + cntP H c i := by
  unfold pend
  rw [sumN_out hc, if_neg hn]
  congr 1
  refine sumN_congr fun x _ => ?_
  by_cases hx : x = c
  · subst hx
    simp
  · rw [if_neg hx]
    by_cases hD : x ∈ D
    · rw [if_pos hD, if_pos (by simp [hD])]
    · rw [if_neg hD, if_neg (by simp [hD, hx])]
theorem pend_ptr {H : List HM} {D : List Nat} {i x : Nat} (h : pend H D i = 0) (hx : x < H.length) (hp : ptrH H x i) : x ∈ D := by
  have := sumN_zero.1 h x hx
  by_cases hD : x ∈ D
  · exact hD
  · rw [if_neg hD] at this
    have := cnt_ptr.2 hp
    omega
def rowN (L : List Nat) : List (List AC) := intsC (L.map fun i : Nat => (i : Int))
theorem rowN_len (L : List Nat) : (rowN L).length = L.length := by simp [rowN, intsC]
theorem rowN_snoc (L : List Nat) (j : Nat) : rowN L ++ [[.int (j : Int)]] = rowN (L ++ [j]) := by simp [rowN, intsC]
/-- The list, and what is left: pd cells' fields still point to each cell. -/
structure KI (H : List HM) (L : List Nat) (left : List Int) (pd : Nat → Nat) : Prop where
  nd : L.Nodup
  lt : ∀ j ∈ L, j < H.length
  len : left.length = H.length
  left : ∀ i, i < H.length → left[i]? = some ((pd i : Nat) : Int)
  zero : ∀ i, i < H.length → (i ∈ L ↔ pd i = 0)
  ord : ∀ (q j : Nat), L[q]? = some j → ∀ i, i < H.length → ptrH H i j → ∃ q', q' < q ∧ L[q']? = some i
theorem KI.le {H : List HM} {L : List Nat} {left : List Int} {pd : Nat → Nat} (h : KI H L left pd) : L.length ≤ H.length := by
  have := nodup_sub (B := List.range H.length) h.nd fun x hx => List.mem_range.2 (h.lt x hx)
  simpa using this
/-- All are on the list, or there is a circle. -/
theorem ki_end {H : List HM} (hf : FOk H) {L : List Nat} {left : List Int} (h : KI H L left (pend H L)) : decide ((L.length : Int) < ((H.length : Nat) : Int)) = !acyB H := by
  have hle := h.le
  by_cases hlt : L.length < H.length
  · rw [decide_eq_true (by omega), acy_false]
    · rfl
    · rintro ⟨rk, hr⟩
      have key : ∀ d x, x < H.length → sumN H.length rk - rk x = d → x ∈ L := by
        intro d
        induction d using Nat.strongRecOn with
        | _ d ih =>
          intro x hx hd
          refine (h.zero x hx).2 (sumN_zero.2 fun y hy => ?_)
          by_cases hyL : y ∈ L
          · rw [if_pos hyL]
          · rw [if_neg hyL]
            rcases Nat.eq_zero_or_pos (cntP H y x) with h0 | h0
            · exact h0
            · have h1 := hr y hy x (cnt_ptr.1 h0)
              have h2 := sumN_le (g := rk) hy
              exact absurd (ih (sumN H.length rk - rk y) (by omega) y hy rfl) hyL
      have := nodup_sub (A := List.range H.length) (B := L) List.nodup_range fun x hx => key _ x (List.mem_range.1 hx) rfl
      simp at this
      omega
  · rw [decide_eq_false (by omega), acy_true]
    · rfl
    · have hall : ∀ i, i < H.length → i ∈ L := fun i hi' => by
        apply Classical.byContradiction
        intro hn
        have := nodup_sub (A := i :: L) (B := List.range H.length) (List.nodup_cons.2 ⟨hn, h.nd⟩) fun x hx => by
          rcases List.mem_cons.1 hx with rfl | hx
          · exact List.mem_range.2 hi'
          · exact List.mem_range.2 (h.lt x hx)
        simp at this
        omega
      have hidx : ∀ (L : List Nat), L.Nodup → ∀ (q x : Nat), L[q]? = some x → L.idxOf x = q := by
        intro L
        induction L with
        | nil => intro _ q x hx; simp at hx
        | cons a L ih =>
          intro hn q x hx
          rw [List.nodup_cons] at hn
          match q with
          | 0 => simp at hx; subst hx; simp
          | q + 1 =>
            have hx : L[q]? = some x := by simpa using hx
            have hne : a ≠ x := fun e => hn.1 (by rw [e]; exact List.mem_of_getElem? hx)
            have hb : (a == x) = false := by simpa using hne
            simp only [List.idxOf_cons, hb, cond_false, ih hn.2 q x hx]
      refine ⟨fun x => H.length - L.idxOf x, fun i hi' j hj => ?_⟩
      have hjn := ptr_lt hf hi' hj
      obtain ⟨q, hq, e⟩ := List.mem_iff_getElem.1 (hall j hjn)
      have hq' : L[q]? = some j := by rw [List.getElem?_eq_getElem hq, e]
      obtain ⟨q2, h1, h2⟩ := h.ord q j hq' i hi' hj
      show H.length - L.idxOf j < H.length - L.idxOf i
      rw [hidx L h.nd q j hq', hidx L h.nd q2 i h2]
      omega
section
variable {H : List HM} (hl : H.length ≤ 1048576) (hi : ∀ m ∈ H, IntsOk m.fs) (hf : FOk H) (ht : (allF H).length ≤ 1048576)
include hl hi hf ht
theorem i_circle : ∀ (fuel at_ : Nat) (L : List Nat) (left : List Int), KI H L left (pend H (L.take at_)) → at_ ≤ L.length → H.length - at_ ≤ fuel → impl_hasCircle_L2 (heapC H) (rowN L) (at_ : Int) (intsC left) = oB (!acyB H) := by
  intro fuel
  have stop : ∀ (L : List Nat) (left : List Int) (at_ : Nat), at_ = L.length → KI H L left (pend H (L.take at_)) → impl_hasCircle_L2 (heapC H) (rowN L) (at_ : Int) (intsC left) = oB (!acyB H) := by
    rintro L left at_ rfl h
    refine impl_hasCircle_L2_le (bifF (decide_eq_false (by rw [rowN_len]; omega)) ?_)
    rw [List.take_length] at h
    rw [rowN_len, heapC_len, ki_end hf h]
  induction fuel with
  | zero =>
    intro at_ L left h ha hfu
    have := h.le
    exact stop L left at_ (by omega) h
  | succ fuel ih =>
    intro at_ L left h ha hfu
    by_cases hend : at_ = L.length
    · exact stop L left at_ hend h
    have hat : at_ < L.length := by omega
    have hLn := h.le
    generalize hc : L[at_] = c
    have hcm : c ∈ L := by rw [← hc]; exact List.getElem_mem hat
    have hcn : c < H.length := h.lt c hcm
    have hfs := hi _ (gH_mem hcn)
    have htk : L.take (at_ + 1) = L.take at_ ++ [c] := by rw [List.take_succ_eq_append_getElem hat, hc]
    have hnot : c ∉ L.take at_ := by
      have h1 : (L.take (at_ + 1)).Nodup := h.nd.sublist (List.take_sublist _ _)
      rw [htk, List.nodup_append] at h1
      intro hm
      exact h1.2.2 c hm c (by simp) rfl
    generalize hD : L.take at_ = D at h htk hnot
    have inner : ∀ (q k : Nat) (L' : List Nat) (left' : List Int), k + q = (gH H c).fs.length → KI H L' left' (fun i => pend H (D ++ [c]) i + ((gH H c).fs.drop k).count (1000 + (i : Int))) → L'.take (at_ + 1) = D ++ [c] → at_ < L'.length →
        impl_hasCircle_L4 (heapC H) (rowN L') (at_ : Int) (intsC left') (intsC (gH H c).fs) (((intsC (gH H c).fs).length : Nat) : Int) (k : Int) = oB (!acyB H) := by
      intro q
      induction q with
      | zero =>
        intro k L' left' hk h' ht' ha'
        refine impl_hasCircle_L4_le (bifF (decide_eq_false (by rw [intsC_len]; omega)) ?_)
        rw [wrk (by unfold maxI; omega)]
        refine ih (at_ + 1) L' left' ?_ (by omega) (by omega)
        rw [ht']
        rw [List.drop_eq_nil_of_le (by omega)] at h'
        simpa using h'
      | succ q ihq =>
        intro k L' left' hk h' ht' ha'
        have hkl : k < (gH H c).fs.length := by omega
        have hin := (hf _ (gH_mem hcn) _ (List.getElem_mem hkl)).1
        have hdrop : (gH H c).fs.drop k = (gH H c).fs[k] :: (gH H c).fs.drop (k + 1) := List.drop_eq_getElem_cons hkl
        have hwk : wrapI ((k : Int) + 1) = ((k + 1 : Nat) : Int) := wrk (by have := hfs.len; omega)
        refine impl_hasCircle_L4_le (bifT (decide_eq_true (by rw [intsC_len]; omega)) (atNum hkl (callI (i_cellOfWord hin) ?_)))
        unfold cw
        by_cases hp : (gH H c).fs[k] < 1000
        · rw [if_pos hp]
          refine bifT rfl ?_
          rw [hwk]
          refine ihq (k + 1) L' left' (by omega) ?_ ht' ha'
          have e : (fun i => pend H (D ++ [c]) i + ((gH H c).fs.drop k).count (1000 + (i : Int))) = fun i => pend H (D ++ [c]) i + ((gH H c).fs.drop (k + 1)).count (1000 + (i : Int)) := by
            funext i
            rw [hdrop, List.count_cons_of_ne (by omega)]
          rw [e] at h'
          exact h'
        · rw [if_neg hp]
          obtain ⟨j, hj, hjn⟩ := live_range ((hf _ (gH_mem hcn) _ (List.getElem_mem hkl)).2.resolve_left hp)
          rw [show (gH H c).fs[k] - 1000 = (j : Int) by omega]
          have hjl : j < left'.length := by rw [h'.len]; exact hjn
          have hpd : ∀ i, pend H (D ++ [c]) i + ((gH H c).fs.drop k).count (1000 + (i : Int)) = pend H (D ++ [c]) i + ((gH H c).fs.drop (k + 1)).count (1000 + (i : Int)) + if i = j then 1 else 0 := fun i => by
            rw [hdrop, hj, List.count_cons]
            by_cases hij : i = j
            · subst hij; simp; omega
            · rw [if_neg hij]
              have : ((1000 : Int) + (j : Int) == 1000 + (i : Int)) = false := by simp; omega
              rw [this]
              simp
          have hv : left'[j] = ((pend H (D ++ [c]) j + ((gH H c).fs.drop (k + 1)).count (1000 + (j : Int)) + 1 : Nat) : Int) := by
            have := h'.left j hjn
            rw [List.getElem?_eq_getElem hjl, hpd j, if_pos rfl] at this
            simpa using this
          generalize hP : pend H (D ++ [c]) j + ((gH H c).fs.drop (k + 1)).count (1000 + (j : Int)) = v at hv
          have hvb : v ≤ 2097152 := by
            have h1 : pend H (D ++ [c]) j ≤ pend H [] j := by
              have key : ∀ (n : Nat) (g g' : Nat → Nat), (∀ x, g x ≤ g' x) → sumN n g ≤ sumN n g' := by
                intro n
                induction n with
                | zero => intro g g' _; exact Nat.le_refl _
                | succ n ih => intro g g' hg; rw [sumN, sumN]; exact Nat.add_le_add (ih g g' hg) (hg n)
              refine key _ _ _ fun x => ?_
              split
              · exact Nat.zero_le _
              · simp
            have h2 : pend H [] j ≤ (allF H).length := by rw [pend_nil]; exact List.count_le_length
            have h3 : ((gH H c).fs.drop (k + 1)).count (1000 + (j : Int)) ≤ (allF H).length := by
              refine Nat.le_trans List.count_le_length ?_
              have := preF_len H (c + 1)
              rw [preF_succ hcn, List.length_append] at this
              rw [List.length_drop]
              omega
            omega
          refine bifF (decide_eq_false (by omega)) (elNum hjl ?_)
          rw [hv, wr (n := ((v + 1 : Nat) : Int) - 1) (by omega) (by omega), show ((v + 1 : Nat) : Int) - 1 = (v : Int) by omega]
          refine setNum hjl (elNum (by rw [List.length_set]; exact hjl) ?_)
          rw [List.getElem_set_self, hwk]
          have hjL : j ∉ L' := fun hm => by
            have := (h'.zero j hjn).1 hm
            rw [hpd j, if_pos rfl] at this
            omega
          have hleft : ∀ i, i < H.length → (left'.set j (v : Int))[i]? = some ((pend H (D ++ [c]) i + ((gH H c).fs.drop (k + 1)).count (1000 + (i : Int)) : Nat) : Int) := fun i hi' => by
            by_cases hij : i = j
            · subst hij
              rw [List.getElem?_set_self hjl, hP]
            · rw [List.getElem?_set_ne (Ne.symm hij), h'.left i hi', hpd i, if_neg hij]
              rfl
          by_cases hv0 : v = 0
          · subst hv0
            refine bifT rfl (appTo (by rw [rowN_len]; simp; have := h'.le; omega) ?_)
            rw [rowN_snoc]
            have hsub : ∀ x, x ∈ D ++ [c] → ∃ q', q' < L'.length ∧ L'[q']? = some x := fun x hx => by
              rw [← ht'] at hx
              obtain ⟨q', hq', e⟩ := List.mem_iff_getElem.1 (List.mem_of_mem_take hx)
              exact ⟨q', hq', by rw [List.getElem?_eq_getElem hq', e]⟩
            refine ihq (k + 1) (L' ++ [j]) _ (by omega) ⟨?_, ?_, by rw [List.length_set]; exact h'.len, hleft, ?_, ?_⟩ ?_ (by simp; omega)
            · rw [List.nodup_append]
              exact ⟨h'.nd, by simp, fun x hx y hy => by simp at hy; subst hy; intro e; subst e; exact hjL hx⟩
            · intro x hx
              rcases List.mem_append.1 hx with hx | hx
              · exact h'.lt x hx
              · simp at hx; subst hx; exact hjn
            · intro i hi'
              by_cases hij : i = j
              · subst hij
                rw [hP]
                simp
              · have := h'.zero i hi'
                rw [hpd i, if_neg hij] at this
                simp only [Nat.add_zero] at this
                rw [← this]
                simp [hij]
            · intro q1 x hx i hi' hpt
              by_cases hq1 : q1 < L'.length
              · rw [List.getElem?_append_left hq1] at hx
                obtain ⟨q', h1, h2⟩ := h'.ord q1 x hx i hi' hpt
                exact ⟨q', h1, by rw [List.getElem?_append_left (by omega)]; exact h2⟩
              · have hx' := hx
                rw [List.getElem?_append_right (by omega)] at hx'
                have hq2 : q1 = L'.length := by
                  have := (List.getElem?_eq_some_iff.1 hx').1
                  simp at this
                  omega
                subst hq2
                simp at hx'
                subst hx'
                have h0 : pend H (D ++ [c]) j = 0 := by omega
                obtain ⟨q', h1, h2⟩ := hsub i (pend_ptr h0 hi' hpt)
                exact ⟨q', h1, by rw [List.getElem?_append_left h1]; exact h2⟩
            · rw [List.take_append_of_le_length (by omega)]
              exact ht'
          · refine bifF (by rw [beq_eq_false_iff_ne]; omega) ?_
            refine ihq (k + 1) L' _ (by omega) ⟨h'.nd, h'.lt, by rw [List.length_set]; exact h'.len, hleft, fun i hi' => ?_, h'.ord⟩ ht' ha'
            by_cases hij : i = j
            · subst hij
              rw [hP]
              exact ⟨fun hm => absurd hm hjL, fun e => absurd e hv0⟩
            · have := h'.zero i hi'
              rw [hpd i, if_neg hij] at this
              simpa using this
    refine impl_hasCircle_L2_le (bifT (decide_eq_true (by rw [rowN_len]; omega)) ?_)
    have hnum : (L.map fun i : Nat => (i : Int))[at_]'(by simpa using hat) = (c : Int) := by simp [hc]
    refine atNum (xs := L.map fun i : Nat => (i : Int)) (by simpa using hat) ?_
    rw [hnum]
    refine atCellH hcn ?_
    have hstart := inner (gH H c).fs.length 0 L left (by omega) ?_ htk hat
    · exact hstart
    · have e : pend H D = fun i => pend H (D ++ [c]) i + ((gH H c).fs.drop 0).count (1000 + (i : Int)) := by
        funext i
        rw [pend_snoc hcn hnot, List.drop_zero]
        rfl
      rw [← e]
      exact h
theorem i_hasCircle : impl_hasCircle [.cell (.sl 3 (heapC H)), .cell (.sl 1 (intsC (refsN (allF H) H.length)))] = oB (!acyB H) := by
  have hget : ∀ k, k < H.length → (refsN (allF H) H.length)[k]? = some ((pend H [] k : Nat) : Int) := fun k hk => by
    rw [List.getElem?_eq_getElem (by rw [refsN_len]; exact hk), refsN_get, pend_nil]
  have key : ∀ m k : Nat, k + m = H.length → impl_hasCircle_L0 (heapC H) (rowN ((List.range k).filter fun i => pend H [] i == 0)) (intsC (refsN (allF H) H.length)) (((intsC (refsN (allF H) H.length)).length : Nat) : Int) (k : Int) = oB (!acyB H) := by
    intro m
    induction m with
    | zero =>
      intro k hk
      have hkn : k = H.length := by omega
      subst hkn
      refine impl_hasCircle_L0_le (bifF (decide_eq_false (by rw [intsC_len, refsN_len]; omega)) ?_)
      refine i_circle hl hi hf ht H.length 0 _ _ ⟨List.nodup_range.filter _, fun j hj => List.mem_range.1 (List.mem_filter.1 hj).1, refsN_len _ _, ?_, ?_, ?_⟩ (Nat.zero_le _) (by omega)
      · rw [List.take_zero]; exact hget
      · intro i hi'
        rw [List.take_zero, List.mem_filter]
        simp [hi']
      · intro q j hq i hi' hp
        have hm := (List.mem_filter.1 (List.mem_of_getElem? hq)).2
        have := pend_ptr (D := []) (by simpa using hm) hi' hp
        cases this
    | succ m ih =>
      intro k hk
      have hlt : k < (refsN (allF H) H.length).length := by rw [refsN_len]; omega
      have hv := hget k (by omega)
      rw [List.getElem?_eq_getElem hlt] at hv
      have hv : (refsN (allF H) H.length)[k] = ((pend H [] k : Nat) : Int) := by simpa using hv
      refine impl_hasCircle_L0_le (bifT (decide_eq_true (by rw [intsC_len]; omega)) (elNum hlt ?_))
      rw [hv, wrk (by unfold maxI; omega)]
      have hnext := ih (k + 1) (by omega)
      rw [List.range_succ, List.filter_append] at hnext
      by_cases h0 : pend H [] k = 0
      · rw [h0]
        rw [show (([k] : List Nat).filter fun i => pend H [] i == 0) = [k] by simp [h0], ← rowN_snoc] at hnext
        refine bifT rfl (appTo ?_ hnext)
        have : ((List.range k).filter fun i => pend H [] i == 0).length ≤ k := Nat.le_trans (List.length_filter_le _ _) (by simp)
        rw [rowN_len]
        simp
        omega
      · rw [show (([k] : List Nat).filter fun i => pend H [] i == 0) = [] by simp [h0], List.append_nil] at hnext
        exact bifF (by rw [beq_eq_false_iff_ne]; omega) hnext
  refine impl_hasCircle_le (thawTo (i_copyIntsH (by rw [refsN_len]; exact hl)) (ints_flat _) ?_)
  exact key H.length 0 (by omega)
end
end Go.Proofs.YthfihhejbplmfaaGreat
