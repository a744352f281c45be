/- Types and signatures of normal forms: what impl's and spec's functions compute. Numbers of steps; constructors, variables and lists of types: what impl's and spec's functions compute. Constructors, variables and lists of types: what impl's and spec's functions compute. -/
import Derived.Test.YtoljlooeiljpfaaDa
set_option linter.unusedVariables false
set_option linter.unusedSimpArgs false
namespace Go.Proofs.Ytoljlooeiljpfaa
open Go
abbrev rB (b : Bool) : Option AV := some (.v (.cell (.bool b)))
abbrev rI (n : Int) : Option AV := some (.v (.cell (.int n)))
abbrev rL (xs : List Int) : Option AV := some (.v (.cell (.sl 1 (intsC xs))))
structure DM where
  f : Int
  t : Int
  cs : List (List Int)
  deriving Inhabited
def conC (c : List Int) : List AC := [.sl 1 (intsC c)]
def consC (cs : List (List Int)) : List (List AC) := cs.map conC
def decC (d : DM) : List AC := [.int d.f, .int d.t, .sl 1 (consC d.cs)]
def decsC (D : List DM) : List (List AC) := D.map decC
structure DOk (d : DM) : Prop where
  f : inI d.f
  t : inI d.t
  len : d.cs.length ≤ maxI
  cs : ∀ c ∈ d.cs, IntsOk c
theorem fit_cons : ∀ {cs : List (List AC)}, (∀ c ∈ cs, Fit .con c) → ∃ C, cs = consC C ∧ ∀ c ∈ C, IntsOk c
  | [], _ => ⟨[], rfl, fun c h => by cases h⟩
  | c :: cs, h => by
    obtain ⟨C, rfl, hC⟩ := fit_cons fun x hx => h x (List.mem_cons_of_mem _ hx)
    have h0 := h c List.mem_cons_self
    generalize ht : Ty.con = t at h0
    cases h0 with
    | con fs hf =>
      refine ⟨fs :: C, rfl, fun c hc => ?_⟩
      rcases List.mem_cons.1 hc with rfl | hc
      · exact hf
      · exact hC c hc
    | _ => cases ht
theorem fit_decs : ∀ {ds : List (List AC)}, (∀ d ∈ ds, Fit .decl d) → ∃ D, ds = decsC D ∧ ∀ d ∈ D, DOk d
  | [], _ => ⟨[], rfl, fun c h => by cases h⟩
  | d :: ds, h => by
    obtain ⟨D, rfl, hD⟩ := fit_decs fun x hx => h x (List.mem_cons_of_mem _ hx)
    have h0 := h d List.mem_cons_self
    generalize ht : Ty.decl = t at h0
    cases h0 with
    | decl f t' cons hf ht' hl hc =>
      obtain ⟨C, rfl, hC⟩ := fit_cons hc
      refine ⟨⟨f, t', C⟩ :: D, rfl, fun x hx => ?_⟩
      rcases List.mem_cons.1 hx with rfl | hx
      · exact ⟨hf, ht', by simpa [consC] using hl, hC⟩
      · exact hD x hx
    | _ => cases ht
theorem decsC_len (D : List DM) : (decsC D).length = D.length := by simp [decsC]
theorem consC_len (C : List (List Int)) : (consC C).length = C.length := by simp [consC]
def gD (D : List DM) (k : Nat) : DM := D.getD k default
theorem decsC_get {D : List DM} {k : Nat} (h : k < D.length) : (decsC D).getD k [] = [.int (gD D k).f, .int (gD D k).t, .sl 1 (consC (gD D k).cs)] := by simp [decsC, List.getD, h, gD, decC]
theorem consC_get {C : List (List Int)} {k : Nat} (h : k < C.length) : (consC C).getD k [] = [.sl 1 (intsC (C.getD k []))] := by simp [consC, List.getD, h, conC]
theorem gD_mem {D : List DM} {k : Nat} (h : k < D.length) : gD D k ∈ D := mem_getD h _
section
variable {ρ : Type} {r : ρ}
theorem atDecI {D : List DM} {i : Int} {k : Nat} (hi : i = (k : Int)) (h : k < D.length) {K : Fn (Option ρ) [.int 0, .int 0, .sl 1 []]} (h2 : (K : Int → Int → List (List AC) → Option ρ) (gD D k).f (gD D k).t (consC (gD D k).cs) = some r) : atR_ (decsC D) i [.int 0, .int 0, .sl 1 []] K = some r := by
  subst hi
  exact atDecl (by rw [decsC_len]; exact h) (decsC_get h) h2
theorem atConI {C : List (List Int)} {i : Int} {k : Nat} (hi : i = (k : Int)) (h : k < C.length) {K : Fn (Option ρ) [.sl 1 []]} (h2 : (K : List (List AC) → Option ρ) (intsC (C.getD k [])) = some r) : atR_ (consC C) i [.sl 1 []] K = some r := by
  subst hi
  exact atCon (by rw [consC_len]; exact h) (consC_get h) h2
theorem atNumI {xs : List Int} {i : Int} {k : Nat} (hi : i = (k : Int)) (h : k < xs.length) {K : Fn (Option ρ) [.int 0]} (h2 : (K : Int → Option ρ) (xs.getD k 0) = some r) : atR_ (intsC xs) i [.int 0] K = some r := by
  subst hi
  refine atNum h ?_
  simpa [List.getD, h] using h2
end
theorem all_drop {α : Type} {l : List α} {k : Nat} (h : k < l.length) (p : α → Bool) : (l.drop k).all p = (p l[k] && (l.drop (k + 1)).all p) := by rw [List.drop_eq_getElem_cons h, List.all_cons]
theorem any_drop {α : Type} {l : List α} {k : Nat} (h : k < l.length) (p : α → Bool) : (l.drop k).any p = (p l[k] || (l.drop (k + 1)).any p) := by rw [List.drop_eq_getElem_cons h, List.any_cons]
theorem gD_get {D : List DM} {k : Nat} (h : k < D.length) : D[k] = gD D k := by simp [gD, List.getD, h]

theorem nz {n : Nat} (h : n ≠ 0) : (((n : Nat) : Int) == 0) = false := by simp [h]
theorem zr {n : Nat} (h : n = 0) : (((n : Nat) : Int) == 0) = true := by simp [h]
theorem eqt {a b : Int} (h : a = b) : (a == b) = true := by simp [h]
theorem eqf {a b : Int} (h : a ≠ b) : (a == b) = false := by simp [h]
theorem net {a b : Int} (h : a ≠ b) : (a != b) = true := by simp [h]
theorem nef {a b : Int} (h : a = b) : (a != b) = false := by simp [h]
/-! What types are. -/
def isTy (D : List DM) (t : Int) : Bool := decide (0 ≤ t) && decide (t ≤ D.length)
def isDa (D : List DM) (t : Int) : Bool := decide (0 < t) && (isTy D t && decide (0 < (gD D (t.toNat - 1)).cs.length))
def isAr (D : List DM) (t : Int) : Bool := decide (0 < t) && (isTy D t && ((gD D (t.toNat - 1)).cs.length == 0))
def hitA (f t : Int) (d : DM) : Bool := (d.cs.length == 0) && (d.f == f && d.t == t)
def arrL (f t : Int) : List DM → Nat → Int
  | [], _ => -1
  | d :: ds, k => if hitA f t d then ((k + 1 : Nat) : Int) else arrL f t ds (k + 1)
def conOk (D : List DM) (c : List Int) : Bool := decide (c.length ≤ 3) && c.all (isTy D)
def decOk (D : List DM) (k : Nat) : Bool :=
  if 0 < (gD D k).cs.length then decide ((gD D k).cs.length ≤ 3) && (((gD D k).f == 0) && (((gD D k).t == 0) && (gD D k).cs.all (conOk D)))
  else isTy D (gD D k).f && (isTy D (gD D k).t && !(D.take k).any (hitA (gD D k).f (gD D k).t))
def typesOk (D : List DM) : Bool := decide (D.length ≤ 4) && (List.range D.length).all (decOk D)

theorem i_isType (D : List DM) (t : Int) : impl_isType [.cell (.sl 3 (decsC D)), .cell (.int t)] = rB (isTy D t) := by
  refine impl_isType_le ?_
  by_cases h : 0 ≤ t
  · exact bifT (decide_eq_true h) (by simp [isTy, h, decsC_len])
  · exact bifF (decide_eq_false h) (by simp [isTy, h])
theorem s_inRange (n lo hi : Int) : spec_inRange [.cell (.int n), .cell (.int lo), .cell (.int hi)] = rB (decide (lo ≤ n) && decide (n ≤ hi)) := by
  refine spec_inRange_le ?_
  by_cases h : lo ≤ n
  · exact bifT (decide_eq_true h) (by simp [h])
  · exact bifF (decide_eq_false h) (by simp [h])
theorem s_isTy (D : List DM) (t : Int) : spec_inRange [.cell (.int t), .cell (.int 0), .cell (.int (((decsC D).length : Nat) : Int))] = rB (isTy D t) := by
  rw [s_inRange, decsC_len]
  rfl
theorem i_areTypes (D : List DM) (xs : List Int) (hx : xs.length ≤ maxI) : impl_areTypes [.cell (.sl 3 (decsC D)), .cell (.sl 1 (intsC xs))] = rB (xs.all (isTy D)) := by
  have key : ∀ m k : Nat, k + m = xs.length → impl_areTypes_L0 (decsC D) (intsC xs) (((intsC xs).length : Nat) : Int) (k : Int) = rB ((xs.drop k).all (isTy D)) := by
    intro m
    induction m with
    | zero => intro k hk; exact impl_areTypes_L0_le (bifF (decide_eq_false (by rw [intsC_len]; omega)) (by rw [List.drop_eq_nil_of_le (by omega)]; rfl))
    | succ m ih =>
      intro k hk
      have hlt : k < xs.length := by omega
      rw [all_drop hlt]
      refine impl_areTypes_L0_le (bifT (decide_eq_true (by rw [intsC_len]; omega)) (atNum hlt (callB (i_isType D _) ?_)))
      rcases isTy D xs[k] with _ | _
      · exact bifT rfl rfl
      · exact bifF rfl (by rw [wrk (by omega)]; exact ih (k + 1) (by omega))
  exact impl_areTypes_le (key xs.length 0 (by omega))
theorem s_allTypes (D : List DM) (xs : List Int) (hx : xs.length ≤ maxI) : spec_allTypes [.cell (.sl 3 (decsC D)), .cell (.sl 1 (intsC xs))] = rB (xs.all (isTy D)) := by
  have key : ∀ m k : Nat, k + m = xs.length → spec_allTypes_L0 (decsC D) (intsC xs) (k : Int) = rB ((xs.drop k).all (isTy D)) := by
    intro m
    induction m with
    | zero => intro k hk; exact spec_allTypes_L0_le (bifF (decide_eq_false (by rw [intsC_len]; omega)) (by rw [List.drop_eq_nil_of_le (by omega)]; rfl))
    | succ m ih =>
      intro k hk
      have hlt : k < xs.length := by omega
      rw [all_drop hlt]
      refine spec_allTypes_L0_le (bifT (decide_eq_true (by rw [intsC_len]; omega)) (atNum hlt (callB (s_isTy D _) ?_)))
      rcases isTy D xs[k] with _ | _
      · exact bifT rfl rfl
      · exact bifF rfl (by rw [wrk (by omega)]; exact ih (k + 1) (by omega))
  exact spec_allTypes_le (key xs.length 0 (by omega))
theorem hit_cases {f t : Int} {d : DM} : hitA f t d = true ↔ d.cs.length = 0 ∧ d.f = f ∧ d.t = t := by simp [hitA]
theorem i_arrow (D : List DM) (hD : D.length ≤ 1000) (f t : Int) : impl_arrowBetween [.cell (.sl 3 (decsC D)), .cell (.int f), .cell (.int t)] = rI (arrL f t D 0) := by
  have key : ∀ m k : Nat, k + m = D.length → impl_arrowBetween_L0 f t (decsC D) (((decsC D).length : Nat) : Int) (k : Int) = rI (arrL f t (D.drop k) k) := by
    intro m
    induction m with
    | zero => intro k hk; exact impl_arrowBetween_L0_le (bifF (decide_eq_false (by rw [decsC_len]; omega)) (by rw [List.drop_eq_nil_of_le (by omega)]; rfl))
    | succ m ih =>
      intro k hk
      have hlt : k < D.length := by omega
      have w1 : wrapI ((k : Int) + 1) = ((k + 1 : Nat) : Int) := wrk (by unfold maxI; omega)
      have nx := ih (k + 1) (by omega)
      rw [List.drop_eq_getElem_cons hlt, gD_get hlt]
      refine impl_arrowBetween_L0_le (bifT (decide_eq_true (by rw [decsC_len]; omega)) (atDecI rfl hlt ?_))
      rw [consC_len, w1]
      by_cases h1 : (gD D k).cs.length = 0
      · refine bifT (by simp [h1]) ?_
        by_cases h2 : (gD D k).f = f
        · refine bifT (by simp [h2]) ?_
          by_cases h3 : (gD D k).t = t
          · exact bifT (by simp [h3]) (by rw [arrL, if_pos (hit_cases.2 ⟨h1, h2, h3⟩)])
          · exact bifF (by simp [h3]) (by rw [arrL, if_neg (fun h => h3 (hit_cases.1 h).2.2)]; exact nx)
        · exact bifF (by simp [h2]) (by rw [arrL, if_neg (fun h => h2 (hit_cases.1 h).2.1)]; exact nx)
      · exact bifF (nz h1) (by rw [arrL, if_neg (fun h => h1 (hit_cases.1 h).1)]; exact nx)
  exact impl_arrowBetween_le (key D.length 0 (by omega))
theorem s_arrow (D : List DM) (hD : D.length ≤ 1000) (f t : Int) : spec_arrowOf [.cell (.sl 3 (decsC D)), .cell (.int f), .cell (.int t)] = rI (arrL f t D 0) := by
  have key : ∀ m k : Nat, k + m = D.length → spec_arrowOf_L0 (decsC D) f t (k : Int) = rI (arrL f t (D.drop k) k) := by
    intro m
    induction m with
    | zero => intro k hk; exact spec_arrowOf_L0_le (bifF (decide_eq_false (by rw [decsC_len]; omega)) (by rw [List.drop_eq_nil_of_le (by omega)]; rfl))
    | succ m ih =>
      intro k hk
      have hlt : k < D.length := by omega
      have w1 : wrapI ((k : Int) + 1) = ((k + 1 : Nat) : Int) := wrk (by unfold maxI; omega)
      have nx := ih (k + 1) (by omega)
      rw [List.drop_eq_getElem_cons hlt, gD_get hlt]
      refine spec_arrowOf_L0_le (bifT (decide_eq_true (by rw [decsC_len]; omega)) (atDecI rfl hlt ?_))
      rw [consC_len, w1]
      by_cases h1 : (gD D k).cs.length = 0
      · refine bifT (by simp [h1]) (atDecI rfl hlt ?_)
        by_cases h2 : (gD D k).f = f
        · refine bifT (by simp [h2]) (atDecI rfl hlt ?_)
          by_cases h3 : (gD D k).t = t
          · exact bifT (by simp [h3]) (by rw [arrL, if_pos (hit_cases.2 ⟨h1, h2, h3⟩)])
          · exact bifF (by simp [h3]) (by rw [arrL, if_neg (fun h => h3 (hit_cases.1 h).2.2)]; exact nx)
        · exact bifF (by simp [h2]) (by rw [arrL, if_neg (fun h => h2 (hit_cases.1 h).2.1)]; exact nx)
      · exact bifF (nz h1) (by rw [arrL, if_neg (fun h => h1 (hit_cases.1 h).1)]; exact nx)
  exact spec_arrowOf_le (key D.length 0 (by omega))
theorem arrL_neg (f t : Int) : ∀ (D : List DM) (k : Nat), decide (arrL f t D k < 0) = !D.any (hitA f t)
  | [], k => by simp [arrL]
  | d :: D, k => by
    unfold arrL
    rw [List.any_cons]
    cases h : hitA f t d
    · simpa using arrL_neg f t D (k + 1)
    · simp; omega
theorem i_validCons (D : List DM) (C : List (List Int)) (hC : ∀ c ∈ C, IntsOk c) (hl : C.length ≤ maxI) : impl_validCons [.cell (.sl 3 (decsC D)), .cell (.sl 1 (consC C))] = rB (decide (C.length ≤ 3) && C.all (conOk D)) := by
  have key : ∀ m k : Nat, k + m = C.length → impl_validCons_L0 (decsC D) (consC C) (((consC C).length : Nat) : Int) (k : Int) = rB ((C.drop k).all (conOk D)) := by
    intro m
    induction m with
    | zero => intro k hk; exact impl_validCons_L0_le (bifF (decide_eq_false (by rw [consC_len]; omega)) (by rw [List.drop_eq_nil_of_le (by omega)]; rfl))
    | succ m ih =>
      intro k hk
      have hlt : k < C.length := by omega
      have hc := hC _ (mem_getD hlt [])
      rw [all_drop hlt, show C[k] = C.getD k [] by simp [List.getD, hlt]]
      refine impl_validCons_L0_le (bifT (decide_eq_true (by rw [consC_len]; omega)) (atConI rfl hlt ?_))
      rw [intsC_len]
      by_cases h3 : (C.getD k []).length ≤ 3
      · refine bifF (decide_eq_false (by omega)) (callB (i_areTypes D _ hc.len) ?_)
        have e : conOk D (C.getD k []) = (C.getD k []).all (isTy D) := by unfold conOk; rw [decide_eq_true h3, Bool.true_and]
        rw [e]
        rcases (C.getD k []).all (isTy D) with _ | _
        · exact bifT rfl rfl
        · exact bifF rfl (by rw [wrk (by omega)]; exact ih (k + 1) (by omega))
      · refine bifT (decide_eq_true (by omega)) ?_
        have e : conOk D (C.getD k []) = false := by unfold conOk; rw [decide_eq_false h3]; rfl
        rw [e]
        rfl
  refine impl_validCons_le ?_
  rw [consC_len]
  by_cases h : C.length ≤ 3
  · refine bifF (decide_eq_false (by omega)) ?_
    have := key C.length 0 (by omega)
    rw [consC_len] at this
    simpa [h] using this
  · exact bifT (decide_eq_true (by omega)) (by simp [h])
theorem decsC_take (D : List DM) (k : Nat) : (decsC D).take k = decsC (D.take k) := by simp [decsC]
theorem i_validDecl (D : List DM) (hD : ∀ d ∈ D, DOk d) (hl : D.length ≤ 1000) (k : Nat) (hk : k < D.length) : impl_validDecl [.cell (.sl 3 (decsC D)), .cell (.int (k : Int))] = rB (decOk D k) := by
  have hd := hD _ (gD_mem hk)
  refine impl_validDecl_le (atDecI rfl hk ?_)
  rw [consC_len]
  unfold decOk
  by_cases h0 : 0 < (gD D k).cs.length
  · refine bifT (decide_eq_true (by omega)) ?_
    rw [if_pos h0]
    by_cases h1 : (gD D k).f = 0
    · refine bifT (by simp [h1]) ?_
      by_cases h2 : (gD D k).t = 0
      · exact bifT (by simp [h2]) (callB (i_validCons D _ hd.cs hd.len) (by rw [h1, h2]; simp only [beq_self_eq_true, Bool.true_and]; rfl))
      · exact bifF (by simp [h2]) (by simp [h2])
    · exact bifF (by simp [h1]) (by simp [h1])
  · refine bifF (decide_eq_false (by omega)) (callB (i_isType D _) ?_)
    rw [if_neg h0]
    rcases isTy D (gD D k).f with _ | _
    · exact bifF rfl rfl
    · refine bifT rfl (callB (i_isType D _) ?_)
      rcases isTy D (gD D k).t with _ | _
      · exact bifF rfl rfl
      · refine bifT rfl (cutTo (by omega) (by omega) (by rw [decsC_len]; omega) ?_)
        rw [show (((decsC D).drop (0 : Int).toNat).take ((k : Int).toNat - (0 : Int).toNat)) = decsC (D.take k) by simp [decsC_take]]
        refine callI (i_arrow _ (by rw [List.length_take]; omega) _ _) ?_
        rw [arrL_neg]
        rfl
theorem s_validDecl (D : List DM) (hD : ∀ d ∈ D, DOk d) (hl : D.length ≤ 1000) (k : Nat) (hk : k < D.length) : spec_validDecl [.cell (.sl 3 (decsC D)), .cell (.int (k : Int))] = rB (decOk D k) := by
  have hd := hD _ (gD_mem hk)
  have key1 : ∀ m j : Nat, j + m = (gD D k).cs.length → spec_validDecl_L0 (decsC D) (gD D k).f (gD D k).t (consC (gD D k).cs) (j : Int) = rB (((gD D k).cs.drop j).all (conOk D)) := by
    intro m
    induction m with
    | zero => intro j hj; exact spec_validDecl_L0_le (bifF (decide_eq_false (by rw [consC_len]; omega)) (by rw [List.drop_eq_nil_of_le (by omega)]; rfl))
    | succ m ih =>
      intro j hj
      have hlt : j < (gD D k).cs.length := by omega
      have hc := hd.cs _ (mem_getD hlt [])
      have hlen := hd.len
      rw [all_drop hlt, show (gD D k).cs[j] = (gD D k).cs.getD j [] by simp [List.getD, hlt]]
      refine spec_validDecl_L0_le (bifT (decide_eq_true (by rw [consC_len]; omega)) (atConI rfl hlt ?_))
      rw [intsC_len]
      by_cases h3 : ((gD D k).cs.getD j []).length ≤ 3
      · refine bifF (decide_eq_false (by omega)) (atConI rfl hlt (callB (s_allTypes D _ hc.len) ?_))
        have e : conOk D ((gD D k).cs.getD j []) = ((gD D k).cs.getD j []).all (isTy D) := by unfold conOk; rw [decide_eq_true h3, Bool.true_and]
        rw [e]
        rcases ((gD D k).cs.getD j []).all (isTy D) with _ | _
        · exact bifT rfl rfl
        · exact bifF rfl (by rw [wrk (by omega)]; exact ih (j + 1) (by omega))
      · refine bifT (decide_eq_true (by omega)) ?_
        have e : conOk D ((gD D k).cs.getD j []) = false := by unfold conOk; rw [decide_eq_false h3]; rfl
        rw [e]
        rfl
  have key2 : ∀ m j : Nat, j + m = k → spec_validDecl_L2 (decsC D) (k : Int) (gD D k).f (gD D k).t (consC (gD D k).cs) (j : Int) = rB (!((D.take k).drop j).any (hitA (gD D k).f (gD D k).t) && (isTy D (gD D k).f && isTy D (gD D k).t)) := by
    intro m
    induction m with
    | zero =>
      intro j hj
      refine spec_validDecl_L2_le (bifF (decide_eq_false (by omega)) (callB (s_isTy D _) ?_))
      rw [List.drop_eq_nil_of_le (by rw [List.length_take]; omega)]
      rcases isTy D (gD D k).f with _ | _
      · exact bifF rfl rfl
      · refine bifT rfl (callB (s_isTy D _) ?_)
        simp
        rfl
    | succ m ih =>
      intro j hj
      have hlt : j < D.length := by omega
      have hlt' : j < (D.take k).length := by rw [List.length_take]; omega
      have w1 : wrapI ((j : Int) + 1) = ((j + 1 : Nat) : Int) := wrk (by unfold maxI; omega)
      have nx := ih (j + 1) (by omega)
      rw [any_drop hlt', show (D.take k)[j] = gD D j by rw [List.getElem_take, gD_get hlt]]
      refine spec_validDecl_L2_le (bifT (decide_eq_true (by omega)) (atDecI rfl hlt ?_))
      rw [consC_len, w1]
      by_cases h1 : (gD D j).cs.length = 0
      · refine bifT (by simp [h1]) (atDecI rfl hlt ?_)
        by_cases h2 : (gD D j).f = (gD D k).f
        · refine bifT (by simp [h2]) (atDecI rfl hlt ?_)
          by_cases h3 : (gD D j).t = (gD D k).t
          · refine bifT (by simp [h3]) ?_
            rw [hit_cases.2 ⟨h1, h2, h3⟩]
            rfl
          · refine bifF (by simp [h3]) ?_
            rw [Bool.eq_false_iff.2 (fun h => h3 (hit_cases.1 h).2.2)]
            exact nx
        · refine bifF (by simp [h2]) ?_
          rw [Bool.eq_false_iff.2 (fun h => h2 (hit_cases.1 h).2.1)]
          exact nx
      · refine bifF (nz h1) ?_
        rw [Bool.eq_false_iff.2 (fun h => h1 (hit_cases.1 h).1)]
        exact nx
  refine spec_validDecl_le (atDecI rfl hk ?_)
  rw [consC_len]
  unfold decOk
  by_cases h0 : 0 < (gD D k).cs.length
  · refine bifT (decide_eq_true (by omega)) ?_
    rw [if_pos h0]
    by_cases h3 : (gD D k).cs.length ≤ 3
    · refine bifF (decide_eq_false (by omega)) ?_
      by_cases h1 : (gD D k).f = 0
      · refine bifF (by simp [h1]) ?_
        by_cases h2 : (gD D k).t = 0
        · refine bifF (by simp [h2]) ?_
          have := key1 (gD D k).cs.length 0 (by omega)
          simpa [h1, h2, h3] using this
        · exact bifT (by simp [h2]) (by simp [h2])
      · exact bifT (by simp [h1]) (by simp [h1])
    · exact bifT (decide_eq_true (by omega)) (by simp [h3])
  · refine bifF (decide_eq_false (by omega)) ?_
    rw [if_neg h0]
    have := key2 k 0 (by omega)
    rw [List.drop_zero] at this
    refine Eq.trans this ?_
    rcases (List.take k D).any (hitA (gD D k).f (gD D k).t) with _ | _ <;> rcases isTy D (gD D k).f with _ | _ <;> rcases isTy D (gD D k).t with _ | _ <;> rfl
theorem range_drop {n k : Nat} (h : k < n) (p : Nat → Bool) : ((List.range n).drop k).all p = (p k && ((List.range n).drop (k + 1)).all p) := by
  rw [all_drop (by simpa using h)]
  simp
theorem i_validTypes (D : List DM) (hD : ∀ d ∈ D, DOk d) (hlen : D.length ≤ maxI) : impl_ValidTypes [.cell (.sl 3 (decsC D))] = rB (typesOk D) := by
  refine impl_ValidTypes_le ?_
  rw [decsC_len]
  by_cases h4 : D.length ≤ 4
  · refine bifF (decide_eq_false (by omega)) ?_
    have key : ∀ m k : Nat, k + m = D.length → impl_ValidTypes_L0 (decsC D) ((D.length : Nat) : Int) (k : Int) = rB (((List.range D.length).drop k).all (decOk D)) := by
      intro m
      induction m with
      | zero => intro k hk; exact impl_ValidTypes_L0_le (bifF (decide_eq_false (by omega)) (by rw [List.drop_eq_nil_of_le (by simp; omega)]; rfl))
      | succ m ih =>
        intro k hk
        rw [range_drop (by omega)]
        refine impl_ValidTypes_L0_le (bifT (decide_eq_true (by omega)) (callB (i_validDecl D hD (by omega) k (by omega)) ?_))
        rcases decOk D k with _ | _
        · exact bifT rfl rfl
        · exact bifF rfl (by rw [wrk (by unfold maxI; omega)]; exact ih (k + 1) (by omega))
    have := key D.length 0 (by omega)
    simpa [typesOk, h4] using this
  · exact bifT (decide_eq_true (by omega)) (by simp [typesOk, h4])
theorem s_validTypes (D : List DM) (hD : ∀ d ∈ D, DOk d) (hlen : D.length ≤ maxI) : spec_validTypes [.cell (.sl 3 (decsC D))] = rB (typesOk D) := by
  refine spec_validTypes_le ?_
  rw [decsC_len]
  by_cases h4 : D.length ≤ 4
  · refine bifF (decide_eq_false (by omega)) ?_
    have key : ∀ m k : Nat, k + m = D.length → spec_validTypes_L0 (decsC D) (k : Int) = rB (((List.range D.length).drop k).all (decOk D)) := by
      intro m
      induction m with
      | zero => intro k hk; exact spec_validTypes_L0_le (bifF (decide_eq_false (by rw [decsC_len]; omega)) (by rw [List.drop_eq_nil_of_le (by simp; omega)]; rfl))
      | succ m ih =>
        intro k hk
        rw [range_drop (by omega)]
        refine spec_validTypes_L0_le (bifT (decide_eq_true (by rw [decsC_len]; omega)) (callB (s_validDecl D hD (by omega) k (by omega)) ?_))
        rcases decOk D k with _ | _
        · exact bifT rfl rfl
        · exact bifF rfl (by rw [wrk (by unfold maxI; omega)]; exact ih (k + 1) (by omega))
    have := key D.length 0 (by omega)
    simpa [typesOk, h4] using this
  · exact bifT (decide_eq_true (by omega)) (by simp [typesOk, h4])
end Go.Proofs.Ytoljlooeiljpfaa

set_option linter.unusedVariables false
set_option linter.unusedSimpArgs false
namespace Go.Proofs.Ytoljlooeiljpfaa
open Go
/-- The number of steps: of all rows of steps. -/
def acN : AC → Nat
  | .int _ => 0
  | .bool _ => 0
  | .sl k rows => (if k = 5 then rows.length else 0) + rsN rows
where
  rsN : List (List AC) → Nat
    | [] => 0
    | r :: rs => cN r + rsN rs
  cN : List AC → Nat
    | [] => 0
    | c :: cs => acN c + cN cs
abbrev cN := acN.cN
abbrev rsN := acN.rsN
theorem rsN_nil : rsN [] = 0 := by simp [rsN, acN.rsN]
theorem rsN_cons (r : List AC) (rs : List (List AC)) : rsN (r :: rs) = cN r + rsN rs := by simp [rsN, acN.rsN, cN]
theorem rsN_drop {rs : List (List AC)} {k : Nat} (h : k < rs.length) : rsN (rs.drop k) = cN (rs.getD k []) + rsN (rs.drop (k + 1)) := by
  rw [List.drop_eq_getElem_cons h, rsN_cons]
  simp [List.getD, h]
theorem rsN_ints (xs : List Int) : rsN (intsC xs) = 0 := by
  induction xs with
  | nil => exact rsN_nil
  | cons x xs ih =>
    show rsN ([.int x] :: intsC xs) = 0
    rw [rsN_cons, ih]
    simp [cN, acN.cN, acN]
theorem cN_step (o n i : Int) (args : List Int) (kids : List (List AC)) : cN [.int o, .int n, .int i, .sl 1 (intsC args), .sl 2 kids] = rsN kids := by
  have := rsN_ints args
  simp [cN, acN.cN, acN, rsN] at *
  omega
theorem cN_block (steps : List (List AC)) (r : Int) : cN [.sl 5 steps, .int r] = steps.length + rsN steps := by simp [cN, acN.cN, acN, rsN]
theorem fit_step_inv {o n i : Int} {a kids : List (List AC)} (h : Fit .step [.int o, .int n, .int i, .sl 1 a, .sl 2 kids]) : kids.length ≤ maxI ∧ ∀ b ∈ kids, Fit .block b := by
  generalize ht : Ty.step = t at h
  generalize hx : [AC.int o, AC.int n, AC.int i, AC.sl 1 a, AC.sl 2 kids] = x at h
  cases h with
  | step _ _ _ _ _ _ _ _ _ hl h => cases hx; exact ⟨hl, h⟩
  | _ => cases ht
theorem rI_congr {a b : Int} (h : a = b) : rI a = rI b := by rw [h]
def stepsM (b : List AC) : Int := if cN b ≤ 600 then cN b else -1
end Go.Proofs.Ytoljlooeiljpfaa

set_option linter.unusedVariables false
set_option linter.unusedSimpArgs false
namespace Go.Proofs.Ytoljlooeiljpfaa
open Go
/-- Valid declarations, as far as they are needed. -/
structure DV (D : List DM) : Prop where
  len : D.length ≤ 4
  cs : ∀ k, k < D.length → (gD D k).cs.length ≤ 3
  c : ∀ k, k < D.length → ∀ c ∈ (gD D k).cs, c.length ≤ 3 ∧ ∀ x ∈ c, 0 ≤ x ∧ x ≤ D.length
  arr : ∀ k, k < D.length → (gD D k).cs.length = 0 → (0 ≤ (gD D k).f ∧ (gD D k).f ≤ D.length) ∧ (0 ≤ (gD D k).t ∧ (gD D k).t ≤ D.length)
theorem isTy_iff {D : List DM} {t : Int} : isTy D t = true ↔ 0 ≤ t ∧ t ≤ D.length := by simp [isTy]
theorem dv_of {D : List DM} (h : typesOk D = true) : DV D := by
  simp only [typesOk, Bool.and_eq_true, decide_eq_true_eq, List.all_eq_true, List.mem_range] at h
  obtain ⟨h1, h2⟩ := h
  refine ⟨h1, fun k hk => ?_, fun k hk c hc => ?_, fun k hk h0 => ?_⟩
  · have := h2 k hk
    unfold decOk at this
    split at this
    · simp only [Bool.and_eq_true, decide_eq_true_eq] at this; exact this.1
    · omega
  · have := h2 k hk
    unfold decOk at this
    have hpos : 0 < (gD D k).cs.length := List.length_pos_of_mem hc
    rw [if_pos hpos] at this
    simp only [Bool.and_eq_true, List.all_eq_true, conOk, decide_eq_true_eq] at this
    obtain ⟨g1, g2⟩ := this.2.2.2 c hc
    exact ⟨g1, fun x hx => isTy_iff.1 (g2 x hx)⟩
  · have := h2 k hk
    unfold decOk at this
    rw [if_neg (by omega)] at this
    simp only [Bool.and_eq_true] at this
    exact ⟨isTy_iff.1 this.1, isTy_iff.1 this.2.1⟩
def sumC : List DM → Nat
  | [] => 0
  | d :: ds => d.cs.length + sumC ds
theorem sumC_append (a b : List DM) : sumC (a ++ b) = sumC a + sumC b := by
  induction a with
  | nil => simp [sumC]
  | cons x a ih => simp only [List.cons_append, sumC, ih]; omega
theorem sumC_succ {D : List DM} {k : Nat} (h : k < D.length) : sumC (D.take (k + 1)) = sumC (D.take k) + (gD D k).cs.length := by
  rw [List.take_succ_eq_append_getElem h, sumC_append, gD_get h]
  simp [sumC]
theorem sumC_le {D : List DM} (h : ∀ k, k < D.length → (gD D k).cs.length ≤ 3) : ∀ k, k ≤ D.length → sumC (D.take k) ≤ 3 * k
  | 0, _ => by simp [sumC]
  | k + 1, hk => by
    rw [sumC_succ (by omega)]
    have := sumC_le h k (by omega)
    have := h k (by omega)
    omega
theorem gD_take {D : List DM} {k j : Nat} (h : j < k) (hk : k ≤ D.length) : gD (D.take k) j = gD D j := by
  rw [← gD_get (D := D.take k) (by rw [List.length_take]; omega), ← gD_get (D := D) (by omega), List.getElem_take]
theorem s_firstCon {D : List DM} (hv : DV D) {k : Nat} (hk : k ≤ D.length) : spec_firstCon [.cell (.sl 3 (decsC D)), .cell (.int (k : Int))] = rI (sumC (D.take k)) := by
  have h4 := hv.len
  have key : ∀ m j : Nat, j + m = k → spec_firstCon_L0 (decsC D) (k : Int) ((sumC (D.take j) : Nat) : Int) (j : Int) = rI (sumC (D.take k)) := by
    intro m
    induction m with
    | zero => intro j hj; exact spec_firstCon_L0_le (bifF (decide_eq_false (by omega)) (by rw [show j = k by omega]))
    | succ m ih =>
      intro j hj
      have hlt : j < D.length := by omega
      have h1 := sumC_le hv.cs j (by omega)
      have h2 := hv.cs j hlt
      refine spec_firstCon_L0_le (bifT (decide_eq_true (by omega)) (atDecI rfl hlt ?_))
      rw [consC_len, wr (by omega) (by omega), wrk (by unfold maxI; omega)]
      have := ih (j + 1) (by omega)
      rw [sumC_succ hlt] at this
      change @Eq (Option AV) _ _
      simpa using this
  exact spec_firstCon_le (key k 0 (by omega))
theorem i_countCons {D : List DM} (h4 : D.length ≤ 4) (h3 : ∀ k, k < D.length → (gD D k).cs.length ≤ 3) : impl_countCons [.cell (.sl 3 (decsC D))] = rI (sumC D) := by
  have key : ∀ m j : Nat, j + m = D.length → impl_countCons_L0 ((sumC (D.take j) : Nat) : Int) (decsC D) (((decsC D).length : Nat) : Int) (j : Int) = rI (sumC D) := by
    intro m
    induction m with
    | zero => intro j hj; exact impl_countCons_L0_le (bifF (decide_eq_false (by rw [decsC_len]; omega)) (by rw [List.take_of_length_le (by omega)]))
    | succ m ih =>
      intro j hj
      have hlt : j < D.length := by omega
      have h1 := sumC_le h3 j (by omega)
      have h2 := h3 j hlt
      refine impl_countCons_L0_le (bifT (decide_eq_true (by rw [decsC_len]; omega)) (atDecI rfl hlt ?_))
      rw [consC_len, wr (by omega) (by omega), wrk (by unfold maxI; omega)]
      have := ih (j + 1) (by omega)
      rw [sumC_succ hlt] at this
      change @Eq (Option AV) _ _
      simpa using this
  exact impl_countCons_le (key D.length 0 (by omega))
theorem i_firstCon {D : List DM} (hv : DV D) {k : Nat} (hk : k ≤ D.length) : impl_firstCon [.cell (.sl 3 (decsC D)), .cell (.int ((k : Int) + 1))] = rI (sumC (D.take k)) := by
  have h4 := hv.len
  have w : wrapI (((k : Int) + 1) - 1) = (k : Int) := by rw [wr (by omega) (by omega)]; omega
  refine impl_firstCon_le ?_
  rw [w]
  refine cutTo (by omega) (by omega) (by rw [decsC_len]; omega) ?_
  rw [show (((decsC D).drop (0 : Int).toNat).take ((k : Int).toNat - (0 : Int).toNat)) = decsC (D.take k) by simp [decsC_take]]
  exact callI (i_countCons (by rw [List.length_take]; omega) (fun j hj => by rw [List.length_take] at hj; rw [gD_take (by omega) hk]; exact hv.cs j (by omega))) rfl
def conL (c : Int) : List DM → Nat → Nat → Int
  | [], _, _ => -1
  | d :: ds, first, k => if (first : Int) ≤ c ∧ c < (first : Int) + d.cs.length then ((k + 1 : Nat) : Int) else conL c ds (first + d.cs.length) (k + 1)
def conT (D : List DM) (c : Int) : Int := conL c D 0 0
theorem i_typeOfCon {D : List DM} (hv : DV D) (c : Int) : impl_typeOfCon [.cell (.sl 3 (decsC D)), .cell (.int c)] = rI (conT D c) := by
  have h4 := hv.len
  have key : ∀ m k : Nat, k + m = D.length → impl_typeOfCon_L0 c ((sumC (D.take k) : Nat) : Int) (decsC D) (((decsC D).length : Nat) : Int) (k : Int) = rI (conL c (D.drop k) (sumC (D.take k)) k) := by
    intro m
    induction m with
    | zero => intro k hk; exact impl_typeOfCon_L0_le (bifF (decide_eq_false (by rw [decsC_len]; omega)) (by rw [List.drop_eq_nil_of_le (by omega)]; rfl))
    | succ m ih =>
      intro k hk
      have hlt : k < D.length := by omega
      have h1 := sumC_le hv.cs k (by omega)
      have h2 := hv.cs k hlt
      have nx := ih (k + 1) (by omega)
      rw [sumC_succ hlt] at nx
      rw [List.drop_eq_getElem_cons hlt, gD_get hlt]
      unfold conL
      refine impl_typeOfCon_L0_le (bifT (decide_eq_true (by rw [decsC_len]; omega)) (atDecI rfl hlt ?_))
      rw [consC_len, wr (n := ((sumC (D.take k) : Nat) : Int) + ((gD D k).cs.length : Nat)) (by omega) (by omega), wrk (by unfold maxI; omega)]
      have nx' : impl_typeOfCon_L0 c (((sumC (D.take k) : Nat) : Int) + (((gD D k).cs.length : Nat) : Int)) (decsC D) (((decsC D).length : Nat) : Int) ((k + 1 : Nat) : Int) = rI (conL c (D.drop (k + 1)) (sumC (D.take k) + (gD D k).cs.length) (k + 1)) := by simpa using nx
      by_cases g1 : ((sumC (D.take k) : Nat) : Int) ≤ c
      · refine bifT (decide_eq_true g1) ?_
        by_cases g2 : c < ((sumC (D.take k) : Nat) : Int) + ((gD D k).cs.length : Nat)
        · rw [if_pos ⟨g1, g2⟩]
          exact bifT (decide_eq_true g2) rfl
        · rw [if_neg (fun h => g2 h.2)]
          exact bifF (decide_eq_false g2) nx'
      · rw [if_neg (fun h => g1 h.1)]
        exact bifF (decide_eq_false g1) nx'
  exact impl_typeOfCon_le (key D.length 0 (by omega))
theorem s_conType {D : List DM} (hv : DV D) (c : Int) : spec_conType [.cell (.sl 3 (decsC D)), .cell (.int c)] = rI (conT D c) := by
  have h4 := hv.len
  have key : ∀ m k : Nat, k + m = D.length → spec_conType_L0 (decsC D) c (k : Int) = rI (conL c (D.drop k) (sumC (D.take k)) k) := by
    intro m
    induction m with
    | zero => intro k hk; exact spec_conType_L0_le (bifF (decide_eq_false (by rw [decsC_len]; omega)) (by rw [List.drop_eq_nil_of_le (by omega)]; rfl))
    | succ m ih =>
      intro k hk
      have hlt : k < D.length := by omega
      have h1 := sumC_le hv.cs k (by omega)
      have h2 := hv.cs k hlt
      have nx := ih (k + 1) (by omega)
      rw [sumC_succ hlt] at nx
      rw [List.drop_eq_getElem_cons hlt, gD_get hlt]
      unfold conL
      refine spec_conType_L0_le (bifT (decide_eq_true (by rw [decsC_len]; omega)) (callI (s_firstCon hv (by omega)) (atDecI rfl hlt ?_)))
      rw [consC_len, wr (n := ((sumC (D.take k) : Nat) : Int) + ((gD D k).cs.length : Nat)) (by omega) (by omega), wr (n := ((sumC (D.take k) : Nat) : Int) + ((gD D k).cs.length : Nat) - 1) (by omega) (by omega), wrk (by unfold maxI; omega)]
      refine callB (s_inRange _ _ _) ?_
      by_cases g1 : ((sumC (D.take k) : Nat) : Int) ≤ c
      · rw [decide_eq_true g1]
        by_cases g2 : c < ((sumC (D.take k) : Nat) : Int) + ((gD D k).cs.length : Nat)
        · rw [if_pos ⟨g1, g2⟩, decide_eq_true (show c ≤ ((sumC (D.take k) : Nat) : Int) + ((gD D k).cs.length : Nat) - 1 by omega)]
          exact bifT rfl rfl
        · rw [if_neg (fun h => g2 h.2), decide_eq_false (show ¬ c ≤ ((sumC (D.take k) : Nat) : Int) + ((gD D k).cs.length : Nat) - 1 by omega)]
          exact bifF rfl nx
      · rw [if_neg (fun h => g1 h.1), decide_eq_false g1]
        exact bifF rfl nx
  exact spec_conType_le (key D.length 0 (by omega))
theorem conL_some (c : Int) : ∀ (ds : List DM) (first k : Nat), conL c ds first k = -1 ∨ ∃ j, j < ds.length ∧ conL c ds first k = ((k + j + 1 : Nat) : Int) ∧ ((first + sumC (ds.take j) : Nat) : Int) ≤ c ∧ c < ((first + sumC (ds.take j) : Nat) : Int) + (gD ds j).cs.length
  | [], first, k => .inl rfl
  | d :: ds, first, k => by
    unfold conL
    split
    · rename_i h
      exact .inr ⟨0, by simp, by simp, by simpa [sumC] using h.1, by simpa [sumC, gD] using h.2⟩
    · rcases conL_some c ds (first + d.cs.length) (k + 1) with h | ⟨j, h1, h2, h3, h4⟩
      · exact .inl h
      · refine .inr ⟨j + 1, by simpa using h1, by rw [h2]; congr 1; omega, ?_, ?_⟩
        · simp only [List.take_succ_cons, sumC]; omega
        · simp only [List.take_succ_cons, sumC]
          have : gD (d :: ds) (j + 1) = gD ds j := by simp [gD]
          rw [this]; omega
theorem conL_hit : ∀ (ds : List DM) (first k j i : Nat), j < ds.length → i < (gD ds j).cs.length → conL ((first + sumC (ds.take j) + i : Nat) : Int) ds first k = ((k + j + 1 : Nat) : Int)
  | d :: ds, first, k, 0, i, _, hi => by
    have hi' : i < d.cs.length := by simpa [gD] using hi
    unfold conL
    rw [if_pos (by simp [sumC]; omega)]
    try simp
  | d :: ds, first, k, j + 1, i, hj, hi => by
    have hi' : i < (gD ds j).cs.length := by simpa [gD] using hi
    unfold conL
    rw [if_neg (by simp only [List.take_succ_cons, sumC]; omega)]
    have := conL_hit ds (first + d.cs.length) (k + 1) j i (by simpa using hj) hi'
    rw [show first + sumC ((d :: ds).take (j + 1)) + i = first + d.cs.length + sumC (ds.take j) + i by simp only [List.take_succ_cons, sumC]; omega]
    exact this.trans (congrArg (fun n : Nat => ((n : Nat) : Int)) (by omega))
  | [], _, _, _, _, h, _ => by simp at h
/-- The fields of a constructor that there is. -/
def fld (D : List DM) (c : Int) : List Int := (gD D ((conT D c).toNat - 1)).cs.getD (c - ((sumC (D.take ((conT D c).toNat - 1)) : Nat) : Int)).toNat []
theorem conT_cases {D : List DM} (c : Int) : conT D c = -1 ∨ ∃ j i : Nat, j < D.length ∧ conT D c = ((j : Nat) : Int) + 1 ∧ c = ((sumC (D.take j) + i : Nat) : Int) ∧ i < (gD D j).cs.length ∧ fld D c = (gD D j).cs.getD i [] := by
  rcases conL_some c D 0 0 with h | ⟨j, h1, h2, h3, h4⟩
  · exact .inl h
  · have e : conT D c = ((j : Nat) : Int) + 1 := by unfold conT; rw [h2]; omega
    refine .inr ⟨j, (c - ((sumC (D.take j) : Nat) : Int)).toNat, h1, e, by omega, by omega, ?_⟩
    unfold fld
    rw [e, show (((j : Nat) : Int) + 1).toNat - 1 = j by omega]
theorem conT_hit {D : List DM} {j i : Nat} (hj : j < D.length) (hi : i < (gD D j).cs.length) : conT D ((sumC (D.take j) + i : Nat) : Int) = ((j : Nat) : Int) + 1 ∧ fld D ((sumC (D.take j) + i : Nat) : Int) = (gD D j).cs.getD i [] := by
  have h := conL_hit D 0 0 j i hj hi
  rw [Nat.zero_add] at h
  have e : conT D ((sumC (D.take j) + i : Nat) : Int) = ((j : Nat) : Int) + 1 := by unfold conT; rw [h]; omega
  refine ⟨e, ?_⟩
  unfold fld
  rw [e, show (((j : Nat) : Int) + 1).toNat - 1 = j by omega, show (((sumC (D.take j) + i : Nat) : Int) - ((sumC (D.take j) : Nat) : Int)).toNat = i by omega]
theorem i_fieldsOfCon {D : List DM} (hv : DV D) {c : Int} (h : 1 ≤ conT D c) : impl_fieldsOfCon [.cell (.sl 3 (decsC D)), .cell (.int c)] = rL (fld D c) := by
  have h4 := hv.len
  rcases conT_cases (D := D) c with h0 | ⟨j, i, hj, he, hc, hi, hf⟩
  · omega
  have h1 := sumC_le hv.cs j (by omega)
  have h2 := hv.cs j hj
  refine impl_fieldsOfCon_le (callI (i_typeOfCon hv c) ?_)
  rw [he]
  refine atDecI (k := j) (by rw [wr (by omega) (by omega)]; omega) hj (callI (i_firstCon hv (by omega)) (atConI (k := i) (by rw [hc, wr (by omega) (by omega)]; omega) hi ?_))
  rw [hf]
theorem s_conFields {D : List DM} (hv : DV D) (c : Int) : spec_conFields [.cell (.sl 3 (decsC D)), .cell (.int c)] = rL (if conT D c < 1 then [] else fld D c) := by
  have h4 := hv.len
  refine spec_conFields_le (callI (s_conType hv c) ?_)
  rcases conT_cases (D := D) c with h0 | ⟨j, i, hj, he, hc, hi, hf⟩
  · rw [h0]
    exact bifT rfl rfl
  have h1 := sumC_le hv.cs j (by omega)
  have h2 := hv.cs j hj
  rw [he, if_neg (by omega)]
  refine bifF (decide_eq_false (by omega)) ?_
  have w : wrapI (((j : Nat) : Int) + 1 - 1) = j := by rw [wr (by omega) (by omega)]; omega
  rw [w]
  refine atDecI rfl hj (callI (s_firstCon hv (by omega)) (atConI (k := i) (by rw [hc, wr (by omega) (by omega)]; omega) hi ?_))
  rw [hf]
theorem i_isData {D : List DM} (hl : D.length ≤ 1000) (t : Int) : impl_isData [.cell (.sl 3 (decsC D)), .cell (.int t)] = rB (isDa D t) := by
  refine impl_isData_le ?_
  unfold isDa
  by_cases h : 0 < t
  rotate_left
  · rw [decide_eq_false h]
    exact bifF rfl rfl
  rw [decide_eq_true h]
  refine bifT rfl (callB (i_isType D t) ?_)
  rcases ht : isTy D t with _ | _
  · exact bifF rfl rfl
  have := isTy_iff.1 ht
  refine bifT rfl (atDecI (k := t.toNat - 1) (by rw [wr (by omega) (by omega)]; omega) (by omega) ?_)
  rw [consC_len]
  by_cases hc : 0 < (gD D (t.toNat - 1)).cs.length
  · rw [decide_eq_true hc, decide_eq_true (by omega)]; rfl
  · rw [decide_eq_false hc, decide_eq_false (by omega)]; rfl
theorem i_isArrow {D : List DM} (hl : D.length ≤ 1000) (t : Int) : impl_isArrow [.cell (.sl 3 (decsC D)), .cell (.int t)] = rB (isAr D t) := by
  refine impl_isArrow_le ?_
  unfold isAr
  by_cases h : 0 < t
  rotate_left
  · rw [decide_eq_false h]
    exact bifF rfl rfl
  rw [decide_eq_true h]
  refine bifT rfl (callB (i_isType D t) ?_)
  rcases ht : isTy D t with _ | _
  · exact bifF rfl rfl
  have := isTy_iff.1 ht
  refine bifT rfl (atDecI (k := t.toNat - 1) (by rw [wr (by omega) (by omega)]; omega) (by omega) ?_)
  rw [consC_len]
  by_cases hc : (gD D (t.toNat - 1)).cs.length = 0
  · rw [zr hc, hc]; rfl
  · rw [nz hc, show ((gD D (t.toNat - 1)).cs.length == 0) = false by simpa using hc]; rfl
theorem s_isArrow {D : List DM} (hl : D.length ≤ 1000) (t : Int) : spec_isArrow [.cell (.sl 3 (decsC D)), .cell (.int t)] = rB (isAr D t) := by
  refine spec_isArrow_le (callB (s_inRange _ _ _) ?_)
  rw [decsC_len]
  unfold isAr
  by_cases h : 0 < t
  rotate_left
  · rw [decide_eq_false h, decide_eq_false (show ¬ (1 : Int) ≤ t by omega)]
    exact bifF rfl rfl
  rw [decide_eq_true h, decide_eq_true (show (1 : Int) ≤ t by omega)]
  rcases ht : isTy D t with _ | _
  · have : ¬ (t ≤ D.length) := fun hle => by
      have := isTy_iff.2 ⟨show 0 ≤ t by omega, hle⟩
      rw [ht] at this
      cases this
    rw [decide_eq_false this]
    exact bifF rfl rfl
  have := isTy_iff.1 ht
  rw [decide_eq_true this.2]
  refine bifT rfl (atDecI (k := t.toNat - 1) (by rw [wr (by omega) (by omega)]; omega) (by omega) ?_)
  rw [consC_len]
  by_cases hc : (gD D (t.toNat - 1)).cs.length = 0
  · rw [zr hc, hc]; rfl
  · rw [nz hc, show ((gD D (t.toNat - 1)).cs.length == 0) = false by simpa using hc]; rfl
/-- The type of a variable. -/
def tv (V : List Int) (v : Int) : Int := if 0 ≤ v ∧ v < V.length then V.getD v.toNat 0 else -1
theorem i_typeOfVar (G M : List Int) (hG : G.length ≤ 68719476736) (hM : M.length ≤ 68719476736) {v : Int} (hv : inI v) : impl_typeOfVar [.agg [.sl 1 (intsC G), .sl 1 (intsC M)], .cell (.int v)] = rI (tv (G ++ M) v) := by
  refine impl_typeOfVar_le ?_
  rw [intsC_len, intsC_len]
  obtain ⟨v1, v2⟩ := hv
  unfold tv
  rw [List.length_append]
  by_cases h0 : v < 0
  · rw [if_neg (by omega)]
    exact bifT (decide_eq_true h0) rfl
  refine bifF (decide_eq_false h0) ?_
  by_cases h1 : v < G.length
  · rw [if_pos (by omega)]
    refine bifT (decide_eq_true h1) (atNumI (k := v.toNat) (by omega) (by omega) ?_)
    change @Eq (Option AV) _ _
    simp [List.getD, List.getElem?_append_left (show v.toNat < G.length by omega)]
  refine bifF (decide_eq_false h1) ?_
  have w : wrapI (v - G.length) = v - G.length := wr (by omega) (by omega)
  rw [w]
  by_cases h2 : v - G.length < M.length
  · rw [if_pos (by omega)]
    refine bifT (decide_eq_true h2) (atNumI (k := v.toNat - G.length) (by omega) (by omega) ?_)
    change @Eq (Option AV) _ _
    simp [List.getD, List.getElem?_append_right (show G.length ≤ v.toNat by omega)]
  · rw [if_neg (by omega)]
    exact bifF (decide_eq_false h2) rfl
theorem take_app {xs : List Int} {k : Nat} (h : k < xs.length) : intsC (xs.take k) ++ [[.int xs[k]]] = intsC (xs.take (k + 1)) := by
  show intsC (xs.take k) ++ intsC [xs[k]] = _
  rw [intsC_append, ← List.take_succ_eq_append_getElem h]
theorem i_copyInts (xs : List Int) (hx : xs.length ≤ 68719476736) : impl_copyInts [.cell (.sl 1 (intsC xs))] = rL xs := by
  have key : ∀ m k : Nat, k + m = xs.length → impl_copyInts_L0 (intsC (xs.take k)) (intsC xs) (((intsC xs).length : Nat) : Int) (k : Int) = rL xs := by
    intro m
    induction m with
    | zero => intro k hk; exact impl_copyInts_L0_le (bifF (decide_eq_false (by rw [intsC_len]; omega)) (by rw [List.take_of_length_le (by omega)]))
    | succ m ih =>
      intro k hk
      have hlt : k < xs.length := by omega
      refine impl_copyInts_L0_le (bifT (decide_eq_true (by rw [intsC_len]; omega)) (atNum hlt (appTo (by rw [intsC_len, List.length_take]; simp; omega) ?_)))
      rw [take_app hlt, wrk (by unfold maxI; omega)]
      exact ih (k + 1) (by omega)
  exact impl_copyInts_le (key xs.length 0 (by omega))
theorem s_copyInts (xs : List Int) (hx : xs.length ≤ 68719476736) : spec_copyInts [.cell (.sl 1 (intsC xs))] = rL xs :=
  spec_copyInts_le (appTo (by rw [intsC_len]; simpa using hx) (by rw [List.nil_append]))
theorem s_extend (xs ys : List Int) (hx : xs.length + ys.length ≤ 68719476736) : spec_extend [.cell (.sl 1 (intsC xs)), .cell (.sl 1 (intsC ys))] = rL (xs ++ ys) :=
  spec_extend_le (callS (s_copyInts xs (by omega)) (appTo (by rw [intsC_len, intsC_len]; exact hx) (by rw [intsC_append])))
theorem i_bind (G M xs : List Int) (hM : M.length + xs.length ≤ 68719476736) : impl_bind [.agg [.sl 1 (intsC G), .sl 1 (intsC M)], .cell (.sl 1 (intsC xs))] = some (.v (.agg [.sl 1 (intsC G), .sl 1 (intsC (M ++ xs))])) := by
  have key : ∀ m k : Nat, k + m = xs.length → impl_bind_L0 (intsC G) (intsC M) [] [] (intsC (M ++ xs.take k)) (intsC xs) (((intsC xs).length : Nat) : Int) (k : Int) = some (.v (.agg [.sl 1 (intsC G), .sl 1 (intsC (M ++ xs))])) := by
    intro m
    induction m with
    | zero => intro k hk; exact impl_bind_L0_le (bifF (decide_eq_false (by rw [intsC_len]; omega)) (by rw [List.take_of_length_le (by omega)]))
    | succ m ih =>
      intro k hk
      have hlt : k < xs.length := by omega
      refine impl_bind_L0_le (bifT (decide_eq_true (by rw [intsC_len]; omega)) (atNum hlt (appTo (by rw [intsC_len, List.length_append, List.length_take]; simp; omega) ?_)))
      rw [← intsC_append, List.append_assoc, take_app hlt, intsC_append, wrk (by unfold maxI; omega)]
      exact ih (k + 1) (by omega)
  refine impl_bind_le (callS (i_copyInts M (by omega)) ?_)
  have := key xs.length 0 (by omega)
  rw [List.take_zero, List.append_nil] at this
  exact this
theorem i_sameInts (xs ys : List Int) (hx : xs.length ≤ maxI) : impl_sameInts [.cell (.sl 1 (intsC xs)), .cell (.sl 1 (intsC ys))] = rB (decide (xs = ys)) := by
  refine impl_sameInts_le ?_
  rw [intsC_len, intsC_len]
  by_cases hl : xs.length = ys.length
  rotate_left
  · rw [decide_eq_false (fun h => hl (by rw [h]))]
    exact bifT (net (by omega)) rfl
  refine bifF (nef (by omega)) ?_
  have key : ∀ m k : Nat, k + m = xs.length → impl_sameInts_L0 (intsC xs) (intsC ys) ((xs.length : Nat) : Int) (k : Int) = rB (decide (xs.drop k = ys.drop k)) := by
    intro m
    induction m with
    | zero =>
      intro k hk
      rw [List.drop_eq_nil_of_le (show xs.length ≤ k by omega), List.drop_eq_nil_of_le (show ys.length ≤ k by omega)]
      exact impl_sameInts_L0_le (bifF (decide_eq_false (by omega)) rfl)
    | succ m ih =>
      intro k hk
      have h1 : k < xs.length := by omega
      have h2 : k < ys.length := by omega
      rw [List.drop_eq_getElem_cons h1, List.drop_eq_getElem_cons h2]
      refine impl_sameInts_L0_le (bifT (decide_eq_true (by omega)) (atNum h1 (atNum h2 ?_)))
      by_cases he : xs[k] = ys[k]
      · refine bifF (nef he) ?_
        rw [wrk (by omega), ih (k + 1) (by omega)]
        change @Eq (Option AV) _ _
        simp only [List.cons.injEq, he, true_and]
      · refine bifT (net he) ?_
        rw [decide_eq_false (fun h => he (List.cons.inj h).1)]
  exact key xs.length 0 (by omega)
theorem tv_pos {V : List Int} {v t : Int} (h : tv V v = t) (ht : 0 ≤ t) : 0 ≤ v ∧ v < V.length ∧ V.getD v.toNat 0 = t := by
  unfold tv at h
  split at h
  · rename_i hc; exact ⟨hc.1, hc.2, h⟩
  · omega
theorem i_typeWhen (b : Bool) (t : Int) : impl_typeWhen [.cell (.bool b), .cell (.int t)] = rI (if b then t else -1) := by
  cases b
  · exact impl_typeWhen_le (bifF rfl rfl)
  · exact impl_typeWhen_le (bifT rfl rfl)
end Go.Proofs.Ytoljlooeiljpfaa
