/- Types and signatures of normal forms: what impl's and spec's functions compute. -/
import Derived.Test.YtgiehkiicmnchaaDa
set_option linter.unusedVariables false
set_option linter.unusedSimpArgs false
namespace Go.Proofs.Ytgiehkiicmnchaa
open Go
abbrev rB (b : Bool) : Option AV := some (.v (.cell (.bool b)))
abbrev rI (n : Int) : Option AV := some (.v (.cell (.int n)))
abbrev rL (xs : List Int) : Option AV := some (.v (.cell (.sl 1 (intsC xs))))
structure DM where
  f : Int
  t : Int
  cs : List (List Int)
  deriving Inhabited
def conC (c : List Int) : List AC := [.sl 1 (intsC c)]
def consC (cs : List (List Int)) : List (List AC) := cs.map conC
def decC (d : DM) : List AC := [.int d.f, .int d.t, .sl 1 (consC d.cs)]
def decsC (D : List DM) : List (List AC) := D.map decC
structure DOk (d : DM) : Prop where
  f : inI d.f
  t : inI d.t
  len : d.cs.length ≤ maxI
  cs : ∀ c ∈ d.cs, IntsOk c
theorem fit_cons : ∀ {cs : List (List AC)}, (∀ c ∈ cs, Fit .con c) → ∃ C, cs = consC C ∧ ∀ c ∈ C, IntsOk c
  | [], _ => ⟨[], rfl, fun c h => by cases h⟩
  | c :: cs, h => by
    obtain ⟨C, rfl, hC⟩ := fit_cons fun x hx => h x (List.mem_cons_of_mem _ hx)
    have h0 := h c List.mem_cons_self
    generalize ht : Ty.con = t at h0
    cases h0 with
    | con fs hf =>
      refine ⟨fs :: C, rfl, fun c hc => ?_⟩
      rcases List.mem_cons.1 hc with rfl | hc
      · exact hf
      · exact hC c hc
    | _ => cases ht
theorem fit_decs : ∀ {ds : List (List AC)}, (∀ d ∈ ds, Fit .decl d) → ∃ D, ds = decsC D ∧ ∀ d ∈ D, DOk d
  | [], _ => ⟨[], rfl, fun c h => by cases h⟩
  | d :: ds, h => by
    obtain ⟨D, rfl, hD⟩ := fit_decs fun x hx => h x (List.mem_cons_of_mem _ hx)
    have h0 := h d List.mem_cons_self
    generalize ht : Ty.decl = t at h0
    cases h0 with
    | decl f t' cons hf ht' hl hc =>
      obtain ⟨C, rfl, hC⟩ := fit_cons hc
      refine ⟨⟨f, t', C⟩ :: D, rfl, fun x hx => ?_⟩
      rcases List.mem_cons.1 hx with rfl | hx
      · exact ⟨hf, ht', by simpa [consC] using hl, hC⟩
      · exact hD x hx
    | _ => cases ht
theorem decsC_len (D : List DM) : (decsC D).length = D.length := by simp [decsC]
theorem consC_len (C : List (List Int)) : (consC C).length = C.length := by simp [consC]
def gD (D : List DM) (k : Nat) : DM := D.getD k default
theorem decsC_get {D : List DM} {k : Nat} (h : k < D.length) : (decsC D).getD k [] = [.int (gD D k).f, .int (gD D k).t, .sl 1 (consC (gD D k).cs)] := by simp [decsC, List.getD, h, gD, decC]
theorem consC_get {C : List (List Int)} {k : Nat} (h : k < C.length) : (consC C).getD k [] = [.sl 1 (intsC (C.getD k []))] := by simp [consC, List.getD, h, conC]
theorem gD_mem {D : List DM} {k : Nat} (h : k < D.length) : gD D k ∈ D := mem_getD h _
section
variable {ρ : Type} {r : ρ}
theorem atDecI {D : List DM} {i : Int} {k : Nat} (hi : i = (k : Int)) (h : k < D.length) {K : Fn (Option ρ) [.int 0, .int 0, .sl 1 []]} (h2 : (K : Int → Int → List (List AC) → Option ρ) (gD D k).f (gD D k).t (consC (gD D k).cs) = some r) : atR_ (decsC D) i [.int 0, .int 0, .sl 1 []] K = some r := by
  subst hi
  exact atDecl (by rw [decsC_len]; exact h) (decsC_get h) h2
theorem atConI {C : List (List Int)} {i : Int} {k : Nat} (hi : i = (k : Int)) (h : k < C.length) {K : Fn (Option ρ) [.sl 1 []]} (h2 : (K : List (List AC) → Option ρ) (intsC (C.getD k [])) = some r) : atR_ (consC C) i [.sl 1 []] K = some r := by
  subst hi
  exact atCon (by rw [consC_len]; exact h) (consC_get h) h2
theorem atNumI {xs : List Int} {i : Int} {k : Nat} (hi : i = (k : Int)) (h : k < xs.length) {K : Fn (Option ρ) [.int 0]} (h2 : (K : Int → Option ρ) (xs.getD k 0) = some r) : atR_ (intsC xs) i [.int 0] K = some r := by
  subst hi
  refine atNum h ?_
  simpa [List.getD, h] using h2
end
theorem all_drop {α : Type} {l : List α} {k : Nat} (h : k < l.length) (p : α → Bool) : (l.drop k).all p = (p l[k] && (l.drop (k + 1)).all p) := by rw [List.drop_eq_getElem_cons h, List.all_cons]
theorem any_drop {α : Type} {l : List α} {k : Nat} (h : k < l.length) (p : α → Bool) : (l.drop k).any p = (p l[k] || (l.drop (k + 1)).any p) := by rw [List.drop_eq_getElem_cons h, List.any_cons]
theorem gD_get {D : List DM} {k : Nat} (h : k < D.length) : D[k] = gD D k := by simp [gD, List.getD, h]

theorem nz {n : Nat} (h : n ≠ 0) : (((n : Nat) : Int) == 0) = false := by simp [h]
theorem zr {n : Nat} (h : n = 0) : (((n : Nat) : Int) == 0) = true := by simp [h]
theorem eqt {a b : Int} (h : a = b) : (a == b) = true := by simp [h]
theorem eqf {a b : Int} (h : a ≠ b) : (a == b) = false := by simp [h]
theorem net {a b : Int} (h : a ≠ b) : (a != b) = true := by simp [h]
theorem nef {a b : Int} (h : a = b) : (a != b) = false := by simp [h]
/-! What types are. -/
def isTy (D : List DM) (t : Int) : Bool := decide (0 ≤ t) && decide (t ≤ D.length)
def isDa (D : List DM) (t : Int) : Bool := decide (0 < t) && (isTy D t && decide (0 < (gD D (t.toNat - 1)).cs.length))
def isAr (D : List DM) (t : Int) : Bool := decide (0 < t) && (isTy D t && ((gD D (t.toNat - 1)).cs.length == 0))
def hitA (f t : Int) (d : DM) : Bool := (d.cs.length == 0) && (d.f == f && d.t == t)
def arrL (f t : Int) : List DM → Nat → Int
  | [], _ => -1
  | d :: ds, k => if hitA f t d then ((k + 1 : Nat) : Int) else arrL f t ds (k + 1)
def conOk (D : List DM) (c : List Int) : Bool := decide (c.length ≤ 3) && c.all (isTy D)
def decOk (D : List DM) (k : Nat) : Bool :=
  if 0 < (gD D k).cs.length then decide ((gD D k).cs.length ≤ 3) && (((gD D k).f == 0) && (((gD D k).t == 0) && (gD D k).cs.all (conOk D)))
  else isTy D (gD D k).f && (isTy D (gD D k).t && !(D.take k).any (hitA (gD D k).f (gD D k).t))
def typesOk (D : List DM) : Bool := decide (D.length ≤ 4) && (List.range D.length).all (decOk D)

theorem i_isType (D : List DM) (t : Int) : impl_isType [.cell (.sl 3 (decsC D)), .cell (.int t)] = rB (isTy D t) := by
  refine impl_isType_le ?_
  by_cases h : 0 ≤ t
  · exact bifT (decide_eq_true h) (by simp [isTy, h, decsC_len])
  · exact bifF (decide_eq_false h) (by simp [isTy, h])
theorem s_inRange (n lo hi : Int) : spec_inRange [.cell (.int n), .cell (.int lo), .cell (.int hi)] = rB (decide (lo ≤ n) && decide (n ≤ hi)) := by
  refine spec_inRange_le ?_
  by_cases h : lo ≤ n
  · exact bifT (decide_eq_true h) (by simp [h])
  · exact bifF (decide_eq_false h) (by simp [h])
theorem s_isTy (D : List DM) (t : Int) : spec_inRange [.cell (.int t), .cell (.int 0), .cell (.int (((decsC D).length : Nat) : Int))] = rB (isTy D t) := by
  rw [s_inRange, decsC_len]
  rfl
theorem i_areTypes (D : List DM) (xs : List Int) (hx : xs.length ≤ maxI) : impl_areTypes [.cell (.sl 3 (decsC D)), .cell (.sl 1 (intsC xs))] = rB (xs.all (isTy D)) := by
  have key : ∀ m k : Nat, k + m = xs.length → impl_areTypes_L0 (decsC D) (intsC xs) (((intsC xs).length : Nat) : Int) (k : Int) = rB ((xs.drop k).all (isTy D)) := by
    intro m
    induction m with
    | zero => intro k hk; exact impl_areTypes_L0_le (bifF (decide_eq_false (by rw [intsC_len]; omega)) (by rw [List.drop_eq_nil_of_le (by omega)]; rfl))
    | succ m ih =>
      intro k hk
      have hlt : k < xs.length := by omega
      rw [all_drop hlt]
      refine impl_areTypes_L0_le (bifT (decide_eq_true (by rw [intsC_len]; omega)) (atNum hlt (callB (i_isType D _) ?_)))
      rcases isTy D xs[k] with _ | _
      · exact bifT rfl rfl
      · exact bifF rfl (by rw [wrk (by omega)]; exact ih (k + 1) (by omega))
  exact impl_areTypes_le (key xs.length 0 (by omega))
theorem s_allTypes (D : List DM) (xs : List Int) (hx : xs.length ≤ maxI) : spec_allTypes [.cell (.sl 3 (decsC D)), .cell (.sl 1 (intsC xs))] = rB (xs.all (isTy D)) := by
  have key : ∀ m k : Nat, k + m = xs.length → spec_allTypes_L0 (decsC D) (intsC xs) (k : Int) = rB ((xs.drop k).all (isTy D)) := by
    intro m
    induction m with
    | zero => intro k hk; exact spec_allTypes_L0_le (bifF (decide_eq_false (by rw [intsC_len]; omega)) (by rw [List.drop_eq_nil_of_le (by omega)]; rfl))
    | succ m ih =>
      intro k hk
      have hlt : k < xs.length := by omega
      rw [all_drop hlt]
      refine spec_allTypes_L0_le (bifT (decide_eq_true (by rw [intsC_len]; omega)) (atNum hlt (callB (s_isTy D _) ?_)))
      rcases isTy D xs[k] with _ | _
      · exact bifT rfl rfl
      · exact bifF rfl (by rw [wrk (by omega)]; exact ih (k + 1) (by omega))
  exact spec_allTypes_le (key xs.length 0 (by omega))
theorem hit_cases {f t : Int} {d : DM} : hitA f t d = true ↔ d.cs.length = 0 ∧ d.f = f ∧ d.t = t := by simp [hitA]
theorem i_arrow (D : List DM) (hD : D.length ≤ 1000) (f t : Int) : impl_arrowBetween [.cell (.sl 3 (decsC D)), .cell (.int f), .cell (.int t)] = rI (arrL f t D 0) := by
  have key : ∀ m k : Nat, k + m = D.length → impl_arrowBetween_L0 f t (decsC D) (((decsC D).length : Nat) : Int) (k : Int) = rI (arrL f t (D.drop k) k) := by
    intro m
    induction m with
    | zero => intro k hk; exact impl_arrowBetween_L0_le (bifF (decide_eq_false (by rw [decsC_len]; omega)) (by rw [List.drop_eq_nil_of_le (by omega)]; rfl))
    | succ m ih =>
      intro k hk
      have hlt : k < D.length := by omega
      have w1 : wrapI ((k : Int) + 1) = ((k + 1 : Nat) : Int) := wrk (by unfold maxI; omega)
      have nx := ih (k + 1) (by omega)
      rw [List.drop_eq_getElem_cons hlt, gD_get hlt]
      refine impl_arrowBetween_L0_le (bifT (decide_eq_true (by rw [decsC_len]; omega)) (atDecI rfl hlt ?_))
      rw [consC_len, w1]
      by_cases h1 : (gD D k).cs.length = 0
      · refine bifT (by simp [h1]) ?_
        by_cases h2 : (gD D k).f = f
        · refine bifT (by simp [h2]) ?_
          by_cases h3 : (gD D k).t = t
          · exact bifT (by simp [h3]) (by rw [arrL, if_pos (hit_cases.2 ⟨h1, h2, h3⟩)])
          · exact bifF (by simp [h3]) (by rw [arrL, if_neg (fun h => h3 (hit_cases.1 h).2.2)]; exact nx)
        · exact bifF (by simp [h2]) (by rw [arrL, if_neg (fun h => h2 (hit_cases.1 h).2.1)]; exact nx)
      · exact bifF (nz h1) (by rw [arrL, if_neg (fun h => h1 (hit_cases.1 h).1)]; exact nx)
  exact impl_arrowBetween_le (key D.length 0 (by omega))
theorem arrL_neg (f t : Int) : ∀ (D : List DM) (k : Nat), decide (arrL f t D k < 0) = !D.any (hitA f t)
  | [], k => by simp [arrL]
  | d :: D, k => by
    unfold arrL
    rw [List.any_cons]
    cases h : hitA f t d
    · simpa using arrL_neg f t D (k + 1)
    · simp; omega
theorem i_validCons (D : List DM) (C : List (List Int)) (hC : ∀ c ∈ C, IntsOk c) (hl : C.length ≤ maxI) : impl_validCons [.cell (.sl 3 (decsC D)), .cell (.sl 1 (consC C))] = rB (decide (C.length ≤ 3) && C.all (conOk D)) := by
  have key : ∀ m k : Nat, k + m = C.length → impl_validCons_L0 (decsC D) (consC C) (((consC C).length : Nat) : Int) (k : Int) = rB ((C.drop k).all (conOk D)) := by
    intro m
    induction m with
    | zero => intro k hk; exact impl_validCons_L0_le (bifF (decide_eq_false (by rw [consC_len]; omega)) (by rw [List.drop_eq_nil_of_le (by omega)]; rfl))
    | succ m ih =>
      intro k hk
      have hlt : k < C.length := by omega
      have hc := hC _ (mem_getD hlt [])
      rw [all_drop hlt, show C[k] = C.getD k [] by simp [List.getD, hlt]]
      refine impl_validCons_L0_le (bifT (decide_eq_true (by rw [consC_len]; omega)) (atConI rfl hlt ?_))
      rw [intsC_len]
      by_cases h3 : (C.getD k []).length ≤ 3
      · refine bifF (decide_eq_false (by omega)) (callB (i_areTypes D _ hc.len) ?_)
        have e : conOk D (C.getD k []) = (C.getD k []).all (isTy D) := by unfold conOk; rw [decide_eq_true h3, Bool.true_and]
        rw [e]
        rcases (C.getD k []).all (isTy D) with _ | _
        · exact bifT rfl rfl
        · exact bifF rfl (by rw [wrk (by omega)]; exact ih (k + 1) (by omega))
      · refine bifT (decide_eq_true (by omega)) ?_
        have e : conOk D (C.getD k []) = false := by unfold conOk; rw [decide_eq_false h3]; rfl
        rw [e]
        rfl
  refine impl_validCons_le ?_
  rw [consC_len]
  by_cases h : C.length ≤ 3
  · refine bifF (decide_eq_false (by omega)) ?_
    have := key C.length 0 (by omega)
    rw [consC_len] at this
    simpa [h] using this
  · exact bifT (decide_eq_true (by omega)) (by simp [h])
theorem decsC_take (D : List DM) (k : Nat) : (decsC D).take k = decsC (D.take k) := by simp [decsC]
theorem i_validDecl (D : List DM) (hD : ∀ d ∈ D, DOk d) (hl : D.length ≤ 1000) (k : Nat) (hk : k < D.length) : impl_validDecl [.cell (.sl 3 (decsC D)), .cell (.int (k : Int))] = rB (decOk D k) := by
  have hd := hD _ (gD_mem hk)
  refine impl_validDecl_le (atDecI rfl hk ?_)
  rw [consC_len]
  unfold decOk
  by_cases h0 : 0 < (gD D k).cs.length
  · refine bifT (decide_eq_true (by omega)) ?_
    rw [if_pos h0]
    by_cases h1 : (gD D k).f = 0
    · refine bifT (by simp [h1]) ?_
      by_cases h2 : (gD D k).t = 0
      · exact bifT (by simp [h2]) (callB (i_validCons D _ hd.cs hd.len) (by rw [h1, h2]; simp only [beq_self_eq_true, Bool.true_and]; rfl))
      · exact bifF (by simp [h2]) (by simp [h2])
    · exact bifF (by simp [h1]) (by simp [h1])
  · refine bifF (decide_eq_false (by omega)) (callB (i_isType D _) ?_)
    rw [if_neg h0]
    rcases isTy D (gD D k).f with _ | _
    · exact bifF rfl rfl
    · refine bifT rfl (callB (i_isType D _) ?_)
      rcases isTy D (gD D k).t with _ | _
      · exact bifF rfl rfl
      · refine bifT rfl (cutTo (by omega) (by omega) (by rw [decsC_len]; omega) ?_)
        rw [show (((decsC D).drop (0 : Int).toNat).take ((k : Int).toNat - (0 : Int).toNat)) = decsC (D.take k) by simp [decsC_take]]
        refine callI (i_arrow _ (by rw [List.length_take]; omega) _ _) ?_
        rw [arrL_neg]
        rfl
theorem s_validDecl (D : List DM) (hD : ∀ d ∈ D, DOk d) (hl : D.length ≤ 1000) (k : Nat) (hk : k < D.length) : spec_validDecl [.cell (.sl 3 (decsC D)), .cell (.int (k : Int))] = rB (decOk D k) := by
  have hd := hD _ (gD_mem hk)
  have key1 : ∀ m j : Nat, j + m = (gD D k).cs.length → spec_validDecl_L0 (decsC D) (gD D k).f (gD D k).t (consC (gD D k).cs) (j : Int) = rB (((gD D k).cs.drop j).all (conOk D)) := by
    intro m
    induction m with
    | zero => intro j hj; exact spec_validDecl_L0_le (bifF (decide_eq_false (by rw [consC_len]; omega)) (by rw [List.drop_eq_nil_of_le (by omega)]; rfl))
    | succ m ih =>
      intro j hj
      have hlt : j < (gD D k).cs.length := by omega
      have hc := hd.cs _ (mem_getD hlt [])
      have hlen := hd.len
      rw [all_drop hlt, show (gD D k).cs[j] = (gD D k).cs.getD j [] by simp [List.getD, hlt]]
      refine spec_validDecl_L0_le (bifT (decide_eq_true (by rw [consC_len]; omega)) (atConI rfl hlt ?_))
      rw [intsC_len]
      by_cases h3 : ((gD D k).cs.getD j []).length ≤ 3
      · refine bifF (decide_eq_false (by omega)) (atConI rfl hlt (callB (s_allTypes D _ hc.len) ?_))
        have e : conOk D ((gD D k).cs.getD j []) = ((gD D k).cs.getD j []).all (isTy D) := by unfold conOk; rw [decide_eq_true h3, Bool.true_and]
        rw [e]
        rcases ((gD D k).cs.getD j []).all (isTy D) with _ | _
        · exact bifT rfl rfl
        · exact bifF rfl (by rw [wrk (by omega)]; exact ih (j + 1) (by omega))
      · refine bifT (decide_eq_true (by omega)) ?_
        have e : conOk D ((gD D k).cs.getD j []) = false := by unfold conOk; rw [decide_eq_false h3]; rfl
        rw [e]
        rfl
  have key2 : ∀ m j : Nat, j + m = k → spec_validDecl_L2 (decsC D) (k : Int) (gD D k).f (gD D k).t (consC (gD D k).cs) (j : Int) = rB (!((D.take k).drop j).any (hitA (gD D k).f (gD D k).t) && (isTy D (gD D k).f && isTy D (gD D k).t)) := by
    intro m
    induction m with
    | zero =>
      intro j hj
      refine spec_validDecl_L2_le (bifF (decide_eq_false (by omega)) (callB (s_isTy D _) ?_))
      rw [List.drop_eq_nil_of_le (by rw [List.length_take]; omega)]
      rcases isTy D (gD D k).f with _ | _
      · exact bifF rfl rfl
      · refine bifT rfl (callB (s_isTy D _) ?_)
        simp
        rfl
    | succ m ih =>
      intro j hj
      have hlt : j < D.length := by omega
      have hlt' : j < (D.take k).length := by rw [List.length_take]; omega
      have w1 : wrapI ((j : Int) + 1) = ((j + 1 : Nat) : Int) := wrk (by unfold maxI; omega)
      have nx := ih (j + 1) (by omega)
      rw [any_drop hlt', show (D.take k)[j] = gD D j by rw [List.getElem_take, gD_get hlt]]
      refine spec_validDecl_L2_le (bifT (decide_eq_true (by omega)) (atDecI rfl hlt ?_))
      rw [consC_len, w1]
      by_cases h1 : (gD D j).cs.length = 0
      · refine bifT (by simp [h1]) (atDecI rfl hlt ?_)
        by_cases h2 : (gD D j).f = (gD D k).f
        · refine bifT (by simp [h2]) (atDecI rfl hlt ?_)
          by_cases h3 : (gD D j).t = (gD D k).t
          · refine bifT (by simp [h3]) ?_
            rw [hit_cases.2 ⟨h1, h2, h3⟩]
            rfl
          · refine bifF (by simp [h3]) ?_
            rw [Bool.eq_false_iff.2 (fun h => h3 (hit_cases.1 h).2.2)]
            exact nx
        · refine bifF (by simp [h2]) ?_
          rw [Bool.eq_false_iff.2 (fun h => h2 (hit_cases.1 h).2.1)]
          exact nx
      · refine bifF (nz h1) ?_
        rw [Bool.eq_false_iff.2 (fun h => h1 (hit_cases.1 h).1)]
        exact nx
  refine spec_validDecl_le (atDecI rfl hk ?_)
  rw [consC_len]
  unfold decOk
  by_cases h0 : 0 < (gD D k).cs.length
  · refine bifT (decide_eq_true (by omega)) ?_
    rw [if_pos h0]
    by_cases h3 : (gD D k).cs.length ≤ 3
    · refine bifF (decide_eq_false (by omega)) ?_
      by_cases h1 : (gD D k).f = 0
      · refine bifF (by simp [h1]) ?_
        by_cases h2 : (gD D k).t = 0
        · refine bifF (by simp [h2]) ?_
          have := key1 (gD D k).cs.length 0 (by omega)
          simpa [h1, h2, h3] using this
        · exact bifT (by simp [h2]) (by simp [h2])
      · exact bifT (by simp [h1]) (by simp [h1])
    · exact bifT (decide_eq_true (by omega)) (by simp [h3])
  · refine bifF (decide_eq_false (by omega)) ?_
    rw [if_neg h0]
    have := key2 k 0 (by omega)
    rw [List.drop_zero] at this
    refine Eq.trans this ?_
    rcases (List.take k D).any (hitA (gD D k).f (gD D k).t) with _ | _ <;> rcases isTy D (gD D k).f with _ | _ <;> rcases isTy D (gD D k).t with _ | _ <;> rfl
theorem range_drop {n k : Nat} (h : k < n) (p : Nat → Bool) : ((List.range n).drop k).all p = (p k && ((List.range n).drop (k + 1)).all p) := by
  rw [all_drop (by simpa using h)]
  simp
theorem i_validTypes (D : List DM) (hD : ∀ d ∈ D, DOk d) (hlen : D.length ≤ maxI) : impl_ValidTypes [.cell (.sl 3 (decsC D))] = rB (typesOk D) := by
  refine impl_ValidTypes_le ?_
  rw [decsC_len]
  by_cases h4 : D.length ≤ 4
  · refine bifF (decide_eq_false (by omega)) ?_
    have key : ∀ m k : Nat, k + m = D.length → impl_ValidTypes_L0 (decsC D) ((D.length : Nat) : Int) (k : Int) = rB (((List.range D.length).drop k).all (decOk D)) := by
      intro m
      induction m with
      | zero => intro k hk; exact impl_ValidTypes_L0_le (bifF (decide_eq_false (by omega)) (by rw [List.drop_eq_nil_of_le (by simp; omega)]; rfl))
      | succ m ih =>
        intro k hk
        rw [range_drop (by omega)]
        refine impl_ValidTypes_L0_le (bifT (decide_eq_true (by omega)) (callB (i_validDecl D hD (by omega) k (by omega)) ?_))
        rcases decOk D k with _ | _
        · exact bifT rfl rfl
        · exact bifF rfl (by rw [wrk (by unfold maxI; omega)]; exact ih (k + 1) (by omega))
    have := key D.length 0 (by omega)
    simpa [typesOk, h4] using this
  · exact bifT (decide_eq_true (by omega)) (by simp [typesOk, h4])
theorem s_validTypes (D : List DM) (hD : ∀ d ∈ D, DOk d) (hlen : D.length ≤ maxI) : spec_validTypes [.cell (.sl 3 (decsC D))] = rB (typesOk D) := by
  refine spec_validTypes_le ?_
  rw [decsC_len]
  by_cases h4 : D.length ≤ 4
  · refine bifF (decide_eq_false (by omega)) ?_
    have key : ∀ m k : Nat, k + m = D.length → spec_validTypes_L0 (decsC D) (k : Int) = rB (((List.range D.length).drop k).all (decOk D)) := by
      intro m
      induction m with
      | zero => intro k hk; exact spec_validTypes_L0_le (bifF (decide_eq_false (by rw [decsC_len]; omega)) (by rw [List.drop_eq_nil_of_le (by simp; omega)]; rfl))
      | succ m ih =>
        intro k hk
        rw [range_drop (by omega)]
        refine spec_validTypes_L0_le (bifT (decide_eq_true (by rw [decsC_len]; omega)) (callB (s_validDecl D hD (by omega) k (by omega)) ?_))
        rcases decOk D k with _ | _
        · exact bifT rfl rfl
        · exact bifF rfl (by rw [wrk (by unfold maxI; omega)]; exact ih (k + 1) (by omega))
    have := key D.length 0 (by omega)
    simpa [typesOk, h4] using this
  · exact bifT (decide_eq_true (by omega)) (by simp [typesOk, h4])
end Go.Proofs.Ytgiehkiicmnchaa
