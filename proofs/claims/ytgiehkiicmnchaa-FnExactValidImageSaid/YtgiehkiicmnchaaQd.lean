/- Constructors, variables and lists of types: what impl's and spec's functions compute. -/
import Derived.Test.YtgiehkiicmnchaaQc
set_option linter.unusedVariables false
set_option linter.unusedSimpArgs false
namespace Go.Proofs.Ytgiehkiicmnchaa
open Go
/-- Valid declarations, as far as they are needed. -/
structure DV (D : List DM) : Prop where
  len : D.length ≤ 4
  cs : ∀ k, k < D.length → (gD D k).cs.length ≤ 3
  c : ∀ k, k < D.length → ∀ c ∈ (gD D k).cs, c.length ≤ 3 ∧ ∀ x ∈ c, 0 ≤ x ∧ x ≤ D.length
  arr : ∀ k, k < D.length → (gD D k).cs.length = 0 → (0 ≤ (gD D k).f ∧ (gD D k).f ≤ D.length) ∧ (0 ≤ (gD D k).t ∧ (gD D k).t ≤ D.length)
theorem isTy_iff {D : List DM} {t : Int} : isTy D t = true ↔ 0 ≤ t ∧ t ≤ D.length := by simp [isTy]
theorem dv_of {D : List DM} (h : typesOk D = true) : DV D := by
  simp only [typesOk, Bool.and_eq_true, decide_eq_true_eq, List.all_eq_true, List.mem_range] at h
  obtain ⟨h1, h2⟩ := h
  refine ⟨h1, fun k hk => ?_, fun k hk c hc => ?_, fun k hk h0 => ?_⟩
  · have := h2 k hk
    unfold decOk at this
    split at this
    · simp only [Bool.and_eq_true, decide_eq_true_eq] at this; exact this.1
    · omega
  · have := h2 k hk
    unfold decOk at this
    have hpos : 0 < (gD D k).cs.length := List.length_pos_of_mem hc
    rw [if_pos hpos] at this
    simp only [Bool.and_eq_true, List.all_eq_true, conOk, decide_eq_true_eq] at this
    obtain ⟨g1, g2⟩ := this.2.2.2 c hc
    exact ⟨g1, fun x hx => isTy_iff.1 (g2 x hx)⟩
  · have := h2 k hk
    unfold decOk at this
    rw [if_neg (by omega)] at this
    simp only [Bool.and_eq_true] at this
    exact ⟨isTy_iff.1 this.1, isTy_iff.1 this.2.1⟩
def sumC : List DM → Nat
  | [] => 0
  | d :: ds => d.cs.length + sumC ds
theorem sumC_append (a b : List DM) : sumC (a ++ b) = sumC a + sumC b := by
  induction a with
  | nil => simp [sumC]
  | cons x a ih => simp only [List.cons_append, sumC, ih]; omega
theorem sumC_succ {D : List DM} {k : Nat} (h : k < D.length) : sumC (D.take (k + 1)) = sumC (D.take k) + (gD D k).cs.length := by
  rw [List.take_succ_eq_append_getElem h, sumC_append, gD_get h]
  simp [sumC]
theorem sumC_le {D : List DM} (h : ∀ k, k < D.length → (gD D k).cs.length ≤ 3) : ∀ k, k ≤ D.length → sumC (D.take k) ≤ 3 * k
  | 0, _ => by simp [sumC]
  | k + 1, hk => by
    rw [sumC_succ (by omega)]
    have := sumC_le h k (by omega)
    have := h k (by omega)
    omega
theorem gD_take {D : List DM} {k j : Nat} (h : j < k) (hk : k ≤ D.length) : gD (D.take k) j = gD D j := by
  rw [← gD_get (D := D.take k) (by rw [List.length_take]; omega), ← gD_get (D := D) (by omega), List.getElem_take]
theorem s_firstCon {D : List DM} (hv : DV D) {k : Nat} (hk : k ≤ D.length) : spec_firstCon [.cell (.sl 3 (decsC D)), .cell (.int (k : Int))] = rI (sumC (D.take k)) := by
  have h4 := hv.len
  have key : ∀ m j : Nat, j + m = k → spec_firstCon_L0 (decsC D) (k : Int) ((sumC (D.take j) : Nat) : Int) (j : Int) = rI (sumC (D.take k)) := by
    intro m
    induction m with
    | zero => intro j hj; exact spec_firstCon_L0_le (bifF (decide_eq_false (by omega)) (by rw [show j = k by omega]))
    | succ m ih =>
      intro j hj
      have hlt : j < D.length := by omega
      have h1 := sumC_le hv.cs j (by omega)
      have h2 := hv.cs j hlt
      refine spec_firstCon_L0_le (bifT (decide_eq_true (by omega)) (atDecI rfl hlt ?_))
      rw [consC_len, wr (by omega) (by omega), wrk (by unfold maxI; omega)]
      have := ih (j + 1) (by omega)
      rw [sumC_succ hlt] at this
      change @Eq (Option AV) _ _
      simpa using this
  exact spec_firstCon_le (key k 0 (by omega))
theorem i_countCons {D : List DM} (h4 : D.length ≤ 4) (h3 : ∀ k, k < D.length → (gD D k).cs.length ≤ 3) : impl_countCons [.cell (.sl 3 (decsC D))] = rI (sumC D) := by
  have key : ∀ m j : Nat, j + m = D.length → impl_countCons_L0 ((sumC (D.take j) : Nat) : Int) (decsC D) (((decsC D).length : Nat) : Int) (j : Int) = rI (sumC D) := by
    intro m
    induction m with
    | zero => intro j hj; exact impl_countCons_L0_le (bifF (decide_eq_false (by rw [decsC_len]; omega)) (by rw [List.take_of_length_le (by omega)]))
    | succ m ih =>
      intro j hj
      have hlt : j < D.length := by omega
      have h1 := sumC_le h3 j (by omega)
      have h2 := h3 j hlt
      refine impl_countCons_L0_le (bifT (decide_eq_true (by rw [decsC_len]; omega)) (atDecI rfl hlt ?_))
      rw [consC_len, wr (by omega) (by omega), wrk (by unfold maxI; omega)]
      have := ih (j + 1) (by omega)
      rw [sumC_succ hlt] at this
      change @Eq (Option AV) _ _
      simpa using this
  exact impl_countCons_le (key D.length 0 (by omega))
theorem i_firstCon {D : List DM} (hv : DV D) {k : Nat} (hk : k ≤ D.length) : impl_firstCon [.cell (.sl 3 (decsC D)), .cell (.int ((k : Int) + 1))] = rI (sumC (D.take k)) := by
  have h4 := hv.len
  have w : wrapI (((k : Int) + 1) - 1) = (k : Int) := by rw [wr (by omega) (by omega)]; omega
  refine impl_firstCon_le ?_
  rw [w]
  refine cutTo (by omega) (by omega) (by rw [decsC_len]; omega) ?_
  rw [show (((decsC D).drop (0 : Int).toNat).take ((k : Int).toNat - (0 : Int).toNat)) = decsC (D.take k) by simp [decsC_take]]
  exact callI (i_countCons (by rw [List.length_take]; omega) (fun j hj => by rw [List.length_take] at hj; rw [gD_take (by omega) hk]; exact hv.cs j (by omega))) rfl
def conL (c : Int) : List DM → Nat → Nat → Int
  | [], _, _ => -1
  | d :: ds, first, k => if (first : Int) ≤ c ∧ c < (first : Int) + d.cs.length then ((k + 1 : Nat) : Int) else conL c ds (first + d.cs.length) (k + 1)
def conT (D : List DM) (c : Int) : Int := conL c D 0 0
theorem i_typeOfCon {D : List DM} (hv : DV D) (c : Int) : impl_typeOfCon [.cell (.sl 3 (decsC D)), .cell (.int c)] = rI (conT D c) := by
  have h4 := hv.len
  have key : ∀ m k : Nat, k + m = D.length → impl_typeOfCon_L0 c ((sumC (D.take k) : Nat) : Int) (decsC D) (((decsC D).length : Nat) : Int) (k : Int) = rI (conL c (D.drop k) (sumC (D.take k)) k) := by
    intro m
    induction m with
    | zero => intro k hk; exact impl_typeOfCon_L0_le (bifF (decide_eq_false (by rw [decsC_len]; omega)) (by rw [List.drop_eq_nil_of_le (by omega)]; rfl))
    | succ m ih =>
      intro k hk
      have hlt : k < D.length := by omega
      have h1 := sumC_le hv.cs k (by omega)
      have h2 := hv.cs k hlt
      have nx := ih (k + 1) (by omega)
      rw [sumC_succ hlt] at nx
      rw [List.drop_eq_getElem_cons hlt, gD_get hlt]
      unfold conL
      refine impl_typeOfCon_L0_le (bifT (decide_eq_true (by rw [decsC_len]; omega)) (atDecI rfl hlt ?_))
      rw [consC_len, wr (n := ((sumC (D.take k) : Nat) : Int) + ((gD D k).cs.length : Nat)) (by omega) (by omega), wrk (by unfold maxI; omega)]
      have nx' : impl_typeOfCon_L0 c (((sumC (D.take k) : Nat) : Int) + (((gD D k).cs.length : Nat) : Int)) (decsC D) (((decsC D).length : Nat) : Int) ((k + 1 : Nat) : Int) = rI (conL c (D.drop (k + 1)) (sumC (D.take k) + (gD D k).cs.length) (k + 1)) := by simpa using nx
      by_cases g1 : ((sumC (D.take k) : Nat) : Int) ≤ c
      · refine bifT (decide_eq_true g1) ?_
        by_cases g2 : c < ((sumC (D.take k) : Nat) : Int) + ((gD D k).cs.length : Nat)
        · rw [if_pos ⟨g1, g2⟩]
          exact bifT (decide_eq_true g2) rfl
        · rw [if_neg (fun h => g2 h.2)]
          exact bifF (decide_eq_false g2) nx'
      · rw [if_neg (fun h => g1 h.1)]
        exact bifF (decide_eq_false g1) nx'
  exact impl_typeOfCon_le (key D.length 0 (by omega))
theorem s_conType {D : List DM} (hv : DV D) (c : Int) : spec_conType [.cell (.sl 3 (decsC D)), .cell (.int c)] = rI (conT D c) := by
  have h4 := hv.len
  have key : ∀ m k : Nat, k + m = D.length → spec_conType_L0 (decsC D) c (k : Int) = rI (conL c (D.drop k) (sumC (D.take k)) k) := by
    intro m
    induction m with
    | zero => intro k hk; exact spec_conType_L0_le (bifF (decide_eq_false (by rw [decsC_len]; omega)) (by rw [List.drop_eq_nil_of_le (by omega)]; rfl))
    | succ m ih =>
      intro k hk
      have hlt : k < D.length := by omega
      have h1 := sumC_le hv.cs k (by omega)
      have h2 := hv.cs k hlt
      have nx := ih (k + 1) (by omega)
      rw [sumC_succ hlt] at nx
      rw [List.drop_eq_getElem_cons hlt, gD_get hlt]
      unfold conL
      refine spec_conType_L0_le (bifT (decide_eq_true (by rw [decsC_len]; omega)) (callI (s_firstCon hv (by omega)) (atDecI rfl hlt ?_)))
      rw [consC_len, wr (n := ((sumC (D.take k) : Nat) : Int) + ((gD D k).cs.length : Nat)) (by omega) (by omega), wr (n := ((sumC (D.take k) : Nat) : Int) + ((gD D k).cs.length : Nat) - 1) (by omega) (by omega), wrk (by unfold maxI; omega)]
      refine callB (s_inRange _ _ _) ?_
      by_cases g1 : ((sumC (D.take k) : Nat) : Int) ≤ c
      · rw [decide_eq_true g1]
        by_cases g2 : c < ((sumC (D.take k) : Nat) : Int) + ((gD D k).cs.length : Nat)
        · rw [if_pos ⟨g1, g2⟩, decide_eq_true (show c ≤ ((sumC (D.take k) : Nat) : Int) + ((gD D k).cs.length : Nat) - 1 by omega)]
          exact bifT rfl rfl
        · rw [if_neg (fun h => g2 h.2), decide_eq_false (show ¬ c ≤ ((sumC (D.take k) : Nat) : Int) + ((gD D k).cs.length : Nat) - 1 by omega)]
          exact bifF rfl nx
      · rw [if_neg (fun h => g1 h.1), decide_eq_false g1]
        exact bifF rfl nx
  exact spec_conType_le (key D.length 0 (by omega))
theorem conL_some (c : Int) : ∀ (ds : List DM) (first k : Nat), conL c ds first k = -1 ∨ ∃ j, j < ds.length ∧ conL c ds first k = ((k + j + 1 : Nat) : Int) ∧ ((first + sumC (ds.take j) : Nat) : Int) ≤ c ∧ c < ((first + sumC (ds.take j) : Nat) : Int) + (gD ds j).cs.length
  | [], first, k => .inl rfl
  | d :: ds, first, k => by
    unfold conL
    split
    · rename_i h
      exact .inr ⟨0, by simp, by simp, by simpa [sumC] using h.1, by simpa [sumC, gD] using h.2⟩
    · rcases conL_some c ds (first + d.cs.length) (k + 1) with h | ⟨j, h1, h2, h3, h4⟩
      · exact .inl h
      · refine .inr ⟨j + 1, by simpa using h1, by rw [h2]; congr 1; omega, ?_, ?_⟩
        · simp only [List.take_succ_cons, sumC]; omega
        · simp only [List.take_succ_cons, sumC]
          have : gD (d :: ds) (j + 1) = gD ds j := by simp [gD]
          rw [this]; omega
theorem conL_hit : ∀ (ds : List DM) (first k j i : Nat), j < ds.length → i < (gD ds j).cs.length → conL ((first + sumC (ds.take j) + i : Nat) : Int) ds first k = ((k + j + 1 : Nat) : Int)
  | d :: ds, first, k, 0, i, _, hi => by
    have hi' : i < d.cs.length := by simpa [gD] using hi
    unfold conL
    rw [if_pos (by simp [sumC]; omega)]
    try simp
  | d :: ds, first, k, j + 1, i, hj, hi => by
    have hi' : i < (gD ds j).cs.length := by simpa [gD] using hi
    unfold conL
    rw [if_neg (by simp only [List.take_succ_cons, sumC]; omega)]
    have := conL_hit ds (first + d.cs.length) (k + 1) j i (by simpa using hj) hi'
    rw [show first + sumC ((d :: ds).take (j + 1)) + i = first + d.cs.length + sumC (ds.take j) + i by simp only [List.take_succ_cons, sumC]; omega]
    exact this.trans (congrArg (fun n : Nat => ((n : Nat) : Int)) (by omega))
  | [], _, _, _, _, h, _ => by simp at h
/-- The fields of a constructor that there is. -/
def fld (D : List DM) (c : Int) : List Int := (gD D ((conT D c).toNat - 1)).cs.getD (c - ((sumC (D.take ((conT D c).toNat - 1)) : Nat) : Int)).toNat []
theorem conT_cases {D : List DM} (c : Int) : conT D c = -1 ∨ ∃ j i : Nat, j < D.length ∧ conT D c = ((j : Nat) : Int) + 1 ∧ c = ((sumC (D.take j) + i : Nat) : Int) ∧ i < (gD D j).cs.length ∧ fld D c = (gD D j).cs.getD i [] := by
  rcases conL_some c D 0 0 with h | ⟨j, h1, h2, h3, h4⟩
  · exact .inl h
  · have e : conT D c = ((j : Nat) : Int) + 1 := by unfold conT; rw [h2]; omega
    refine .inr ⟨j, (c - ((sumC (D.take j) : Nat) : Int)).toNat, h1, e, by omega, by omega, ?_⟩
    unfold fld
    rw [e, show (((j : Nat) : Int) + 1).toNat - 1 = j by omega]
theorem conT_hit {D : List DM} {j i : Nat} (hj : j < D.length) (hi : i < (gD D j).cs.length) : conT D ((sumC (D.take j) + i : Nat) : Int) = ((j : Nat) : Int) + 1 ∧ fld D ((sumC (D.take j) + i : Nat) : Int) = (gD D j).cs.getD i [] := by
  have h := conL_hit D 0 0 j i hj hi
  rw [Nat.zero_add] at h
  have e : conT D ((sumC (D.take j) + i : Nat) : Int) = ((j : Nat) : Int) + 1 := by unfold conT; rw [h]; omega
  refine ⟨e, ?_⟩
  unfold fld
  rw [e, show (((j : Nat) : Int) + 1).toNat - 1 = j by omega, show (((sumC (D.take j) + i : Nat) : Int) - ((sumC (D.take j) : Nat) : Int)).toNat = i by omega]
theorem i_fieldsOfCon {D : List DM} (hv : DV D) {c : Int} (h : 1 ≤ conT D c) : impl_fieldsOfCon [.cell (.sl 3 (decsC D)), .cell (.int c)] = rL (fld D c) := by
  have h4 := hv.len
  rcases conT_cases (D := D) c with h0 | ⟨j, i, hj, he, hc, hi, hf⟩
  · omega
  have h1 := sumC_le hv.cs j (by omega)
  have h2 := hv.cs j hj
  refine impl_fieldsOfCon_le (callI (i_typeOfCon hv c) ?_)
  rw [he]
  refine atDecI (k := j) (by rw [wr (by omega) (by omega)]; omega) hj (callI (i_firstCon hv (by omega)) (atConI (k := i) (by rw [hc, wr (by omega) (by omega)]; omega) hi ?_))
  rw [hf]
theorem s_conFields {D : List DM} (hv : DV D) (c : Int) : spec_conFields [.cell (.sl 3 (decsC D)), .cell (.int c)] = rL (if conT D c < 1 then [] else fld D c) := by
  have h4 := hv.len
  refine spec_conFields_le (callI (s_conType hv c) ?_)
  rcases conT_cases (D := D) c with h0 | ⟨j, i, hj, he, hc, hi, hf⟩
  · rw [h0]
    exact bifT rfl rfl
  have h1 := sumC_le hv.cs j (by omega)
  have h2 := hv.cs j hj
  rw [he, if_neg (by omega)]
  refine bifF (decide_eq_false (by omega)) ?_
  have w : wrapI (((j : Nat) : Int) + 1 - 1) = j := by rw [wr (by omega) (by omega)]; omega
  rw [w]
  refine atDecI rfl hj (callI (s_firstCon hv (by omega)) (atConI (k := i) (by rw [hc, wr (by omega) (by omega)]; omega) hi ?_))
  rw [hf]
theorem i_isData {D : List DM} (hl : D.length ≤ 1000) (t : Int) : impl_isData [.cell (.sl 3 (decsC D)), .cell (.int t)] = rB (isDa D t) := by
  refine impl_isData_le ?_
  unfold isDa
  by_cases h : 0 < t
  rotate_left
  · rw [decide_eq_false h]
    exact bifF rfl rfl
  rw [decide_eq_true h]
  refine bifT rfl (callB (i_isType D t) ?_)
  rcases ht : isTy D t with _ | _
  · exact bifF rfl rfl
  have := isTy_iff.1 ht
  refine bifT rfl (atDecI (k := t.toNat - 1) (by rw [wr (by omega) (by omega)]; omega) (by omega) ?_)
  rw [consC_len]
  by_cases hc : 0 < (gD D (t.toNat - 1)).cs.length
  · rw [decide_eq_true hc, decide_eq_true (by omega)]; rfl
  · rw [decide_eq_false hc, decide_eq_false (by omega)]; rfl
/-- The type of a variable. -/
def tv (V : List Int) (v : Int) : Int := if 0 ≤ v ∧ v < V.length then V.getD v.toNat 0 else -1
theorem take_app {xs : List Int} {k : Nat} (h : k < xs.length) : intsC (xs.take k) ++ [[.int xs[k]]] = intsC (xs.take (k + 1)) := by
  show intsC (xs.take k) ++ intsC [xs[k]] = _
  rw [intsC_append, ← List.take_succ_eq_append_getElem h]
theorem tv_pos {V : List Int} {v t : Int} (h : tv V v = t) (ht : 0 ≤ t) : 0 ≤ v ∧ v < V.length ∧ V.getD v.toNat 0 = t := by
  unfold tv at h
  split at h
  · rename_i hc; exact ⟨hc.1, hc.2, h⟩
  · omega
end Go.Proofs.Ytgiehkiicmnchaa
