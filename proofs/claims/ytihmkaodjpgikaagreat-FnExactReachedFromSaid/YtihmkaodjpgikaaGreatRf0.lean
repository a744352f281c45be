/- The functions that are reached from one, in plain Lean: rounds over a list of functions at once, rounds function by function; both end at the least closed set. Nothing here speaks of a program's code. -/
import Derived.Test.YtihmkaodjpgikaaGreatJ0
import Derived.Test.YtihmkaodjpgikaaGreatPn1
namespace Go.Proofs.YtihmkaodjpgikaaGreat
open Go.RowKit
mutual
theorem nam_mem (x : Int) : (e : Ex) → ∀ acc, x ∈ e.nam acc ↔ x ∈ acc ∨ x ∈ e.nam []
  | .node o n ks => fun acc => by
    simp only [Ex.nam]
    rw [namL_mem x ks (cond (isCF o) (ins n acc) acc), namL_mem x ks (cond (isCF o) (ins n []) [])]
    rcases isCF o with _ | _
    · simp
    · simp only [cond_true, ins_mem]
      simp only [List.not_mem_nil, or_false]
      constructor
      · rintro ((h | h) | h)
        · exact .inr (.inl h)
        · exact .inl h
        · exact .inr (.inr h)
      · rintro (h | h | h)
        · exact .inl (.inr h)
        · exact .inl (.inl h)
        · exact .inr h
theorem namL_mem (x : Int) : (es : List Ex) → ∀ acc, x ∈ namL es acc ↔ x ∈ acc ∨ x ∈ namL es []
  | [] => fun acc => by simp [namL]
  | e :: es => fun acc => by
    simp only [namL]
    rw [namL_mem x es (e.nam acc), namL_mem x es (e.nam []), nam_mem x e acc]
    exact or_assoc
end
section
variable (E : Nat → Ex)
/-- The callees of the functions of a list are put into a list. -/
def wcJ : List Int → List Int → List Int
  | [], out => out
  | f :: fs, out => wcJ fs ((E f.toNat).nam out)
theorem wcJ_append (a b : List Int) (out : List Int) : wcJ E (a ++ b) out = wcJ E b (wcJ E a out) := by
  induction a generalizing out with
  | nil => rfl
  | cons f a ih => simp only [List.cons_append, wcJ, ih]
theorem wcJ_step {xs : List Int} {k : Nat} (h : k < xs.length) (out : List Int) : wcJ E (xs.take (k + 1)) out = (E (xs[k]).toNat).nam (wcJ E (xs.take k) out) := by
  rw [List.take_succ_eq_append_getElem h, wcJ_append]; rfl
theorem wcJ_mem {x : Int} : ∀ (xs out : List Int), x ∈ wcJ E xs out ↔ x ∈ out ∨ ∃ f ∈ xs, x ∈ (E f.toNat).nam []
  | [], out => by simp [wcJ]
  | f :: fs, out => by
    rw [wcJ, wcJ_mem fs, nam_mem x (E f.toNat) out]
    simp only [List.mem_cons, or_assoc]
    constructor
    · rintro (h | h | ⟨g, hg, h⟩)
      · exact .inl h
      · exact .inr ⟨f, .inl rfl, h⟩
      · exact .inr ⟨g, .inr hg, h⟩
    · rintro (h | ⟨g, rfl | hg, h⟩)
      · exact .inl h
      · exact .inr (.inl h)
      · exact .inr (.inr ⟨g, hg, h⟩)
theorem wcJ_asc : ∀ (xs : List Int) {out : List Int}, Asc out → Asc (wcJ E xs out)
  | [], _, h => h
  | f :: fs, _, h => wcJ_asc fs (nam_ok (E f.toNat) _ h).1
/-- Is a function's number there? -/
def hasN (S : List Int) (k : Nat) : Bool := memI S (k : Int)
/-- Rounds over all functions at once. -/
def rchJ (f : Int) : Nat → List Int
  | 0 => [f]
  | r + 1 => wcJ E (rchJ f r) (rchJ f r)
/-- Numbers are put into a list. -/
def insL : List Int → List Int → List Int
  | [], out => out
  | y :: ys, out => insL ys (ins y out)
theorem insL_append (a b out : List Int) : insL (a ++ b) out = insL b (insL a out) := by
  induction a generalizing out with
  | nil => rfl
  | cons f a ih => simp only [List.cons_append, insL, ih]
theorem insL_step {ys : List Int} {k : Nat} (h : k < ys.length) (out : List Int) : insL (ys.take (k + 1)) out = ins ys[k] (insL (ys.take k) out) := by
  rw [List.take_succ_eq_append_getElem h, insL_append]; rfl
theorem insL_mem {x : Int} : ∀ (ys out : List Int), x ∈ insL ys out ↔ x ∈ out ∨ x ∈ ys
  | [], out => by simp [insL]
  | y :: ys, out => by
    rw [insL, insL_mem ys, ins_mem, List.mem_cons]
    constructor
    · rintro ((h | h) | h)
      · exact .inr (.inl h)
      · exact .inl h
      · exact .inr (.inr h)
    · rintro (h | h | h)
      · exact .inl (.inr h)
      · exact .inl (.inl h)
      · exact .inr h
theorem insL_asc : ∀ (ys : List Int) {out : List Int}, Asc out → Asc (insL ys out)
  | [], _, h => h
  | _ :: ys, _, h => insL_asc ys (ins_asc h)
theorem insL_length : ∀ (ys out : List Int), (insL ys out).length ≤ out.length + ys.length
  | [], out => by simp [insL]
  | y :: ys, out => by
    have h1 := insL_length ys (ins y out)
    have h2 := ins_length y out
    simp only [insL, List.length_cons]
    omega
/-- Function by function, each with what is there by then. -/
def stG (out : List Int) : Nat → List Int
  | 0 => out
  | k + 1 => cond (memI (stG out k) (k : Int)) (insL ((E k).nam []) (stG out k)) (stG out k)
def rchG (m : Nat) (f : Int) : Nat → List Int
  | 0 => [f]
  | r + 1 => stG E (rchG m f r) m
theorem stG_asc {out : List Int} (h : Asc out) : ∀ k, Asc (stG E out k)
  | 0 => h
  | k + 1 => by
    unfold stG
    rcases memI (stG E out k) (k : Int) with _ | _
    · exact stG_asc h k
    · exact insL_asc _ (stG_asc h k)
theorem rchJ_asc (f : Int) : ∀ r, Asc (rchJ E f r)
  | 0 => asc_one f
  | r + 1 => wcJ_asc E _ (rchJ_asc f r)
theorem rchG_asc (m : Nat) (f : Int) : ∀ r, Asc (rchG E m f r)
  | 0 => asc_one f
  | r + 1 => stG_asc E (rchG_asc m f r) _
/-- Numbers of functions. -/
def InF (m : Nat) (S : List Int) : Prop := ∀ x ∈ S, 0 ≤ x ∧ x < m
/-- Closed: what is named by one that is there is there. -/
def ClsF (m : Nat) (S : List Int) : Prop := ∀ k, k < m → (k : Int) ∈ S → ∀ x ∈ (E k).nam [], x ∈ S
variable {E} {m : Nat} (hN : ∀ k, k < m → InF m ((E k).nam []))
theorem inF_nat {m : Nat} {S : List Int} {f : Int} (h : InF m S) (hf : f ∈ S) : ∃ k : Nat, f = (k : Int) ∧ k < m := by
  have := h f hf
  exact ⟨f.toNat, by omega, by omega⟩
include hN
theorem wcJ_in {xs out : List Int} (hx : InF m xs) (ho : InF m out) : InF m (wcJ E xs out) := fun x h => by
  rcases (wcJ_mem E xs out).1 h with h | ⟨f, hf, h⟩
  · exact ho x h
  · obtain ⟨k, rfl, hk⟩ := inF_nat hx hf
    exact hN k hk x (by simpa using h)
theorem rchJ_in {f : Int} (h0 : 0 ≤ f) (h1 : f < m) : ∀ r, InF m (rchJ E f r)
  | 0 => fun x h => by simp [rchJ] at h; subst h; exact ⟨h0, h1⟩
  | r + 1 => wcJ_in hN (rchJ_in h0 h1 r) (rchJ_in h0 h1 r)
theorem stG_in {out : List Int} (h : InF m out) : ∀ k, k ≤ m → InF m (stG E out k)
  | 0, _ => h
  | k + 1, hk => fun x hx => by
    have ih := stG_in h k (by omega)
    unfold stG at hx
    rcases hm : memI (stG E out k) (k : Int) with _ | _
    · rw [hm] at hx; exact ih x hx
    · rw [hm, cond_true] at hx
      rcases (insL_mem _ _).1 hx with h' | h'
      · exact ih x h'
      · exact hN k (by omega) x h'
theorem rchG_in {f : Int} (h0 : 0 ≤ f) (h1 : f < m) : ∀ r, InF m (rchG E m f r)
  | 0 => fun x h => by simp [rchG] at h; subst h; exact ⟨h0, h1⟩
  | r + 1 => stG_in hN (rchG_in h0 h1 r) _ (Nat.le_refl _)
theorem rchJ_least {f : Int} (h0 : 0 ≤ f) (h1 : f < m) {C : List Int} (hC : ClsF E m C) (hf : f ∈ C) : ∀ r, ∀ x ∈ rchJ E f r, x ∈ C
  | 0 => fun x h => by simp [rchJ] at h; subst h; exact hf
  | r + 1 => fun x h => by
    have ih := rchJ_least h0 h1 hC hf r
    rcases (wcJ_mem E _ _).1 h with h | ⟨g, hg, h⟩
    · exact ih x h
    · obtain ⟨k, rfl, hk⟩ := inF_nat (rchJ_in hN h0 h1 r) hg
      exact hC k hk (ih _ hg) x (by simpa using h)
omit hN in
theorem stG_least {out C : List Int} (hC : ClsF E m C) (h : ∀ x ∈ out, x ∈ C) : ∀ k, k ≤ m → ∀ x ∈ stG E out k, x ∈ C
  | 0, _ => h
  | k + 1, hk => fun x hx => by
    have ih := stG_least hC h k (by omega)
    unfold stG at hx
    rcases hm : memI (stG E out k) (k : Int) with _ | _
    · rw [hm] at hx; exact ih x hx
    · rw [hm, cond_true] at hx
      rcases (insL_mem _ _).1 hx with h' | h'
      · exact ih x h'
      · exact hC k (by omega) (ih _ (memI_iff.1 hm)) x h'
omit hN in
theorem rchG_least {f : Int} {C : List Int} (hC : ClsF E m C) (hf : f ∈ C) : ∀ r, ∀ x ∈ rchG E m f r, x ∈ C
  | 0 => fun x h => by simp [rchG] at h; subst h; exact hf
  | r + 1 => stG_least hC (rchG_least hC hf r) _ (Nat.le_refl _)
omit hN in
theorem rchJ_sub (f : Int) (r : Nat) : ∀ x ∈ rchJ E f r, x ∈ rchJ E f (r + 1) := fun _ hx => (wcJ_mem E _ _).2 (.inl hx)
theorem rchJ_grows {f : Int} (h0 : 0 ≤ f) (h1 : f < m) : ∀ r, ClsF E m (rchJ E f r) ∨ r ≤ (List.range m).countP (hasN (rchJ E f r)) := by
  intro r
  induction r with
  | zero => exact .inr (Nat.zero_le _)
  | succ r ih =>
    by_cases hc : ClsF E m (rchJ E f r)
    · left
      have back : ∀ x ∈ rchJ E f (r + 1), x ∈ rchJ E f r := fun x hx => by
        rcases (wcJ_mem E _ _).1 hx with h | ⟨g, hg, h⟩
        · exact h
        · obtain ⟨k, rfl, hk⟩ := inF_nat (rchJ_in hN h0 h1 r) hg
          exact hc k hk hg x (by simpa using h)
      intro k hk hf x hx
      exact rchJ_sub f r x (hc k hk (back _ hf) x hx)
    · right
      have hle := ih.resolve_left hc
      obtain ⟨k, hk⟩ := Classical.not_forall.1 hc
      have hk1 : k < m := Classical.byContradiction fun h => hk fun h' => absurd h' h
      have hk2 : (k : Int) ∈ rchJ E f r := Classical.byContradiction fun h => hk fun _ h' => absurd h' h
      obtain ⟨x, hx⟩ := Classical.not_forall.1 fun h => hk fun _ _ => h
      have hx1 : x ∈ (E k).nam [] := Classical.byContradiction fun h => hx fun h' => absurd h' h
      have hx2 : ¬ x ∈ rchJ E f r := fun h => hx fun _ => h
      have hx3 : x ∈ rchJ E f (r + 1) := (wcJ_mem E _ _).2 (.inr ⟨_, hk2, by simpa using hx1⟩)
      obtain ⟨y, rfl, hy⟩ := inF_nat (hN k hk1) hx1
      have := count_lt (l := List.range m) (p := hasN (rchJ E f r)) (q := hasN (rchJ E f (r + 1))) (fun z _ h => memI_iff.2 (rchJ_sub f r _ (memI_iff.1 h))) (List.mem_range.2 hy)
        (by rcases hm : hasN (rchJ E f r) y with _ | _; rfl; exact absurd (memI_iff.1 hm) hx2) (memI_iff.2 hx3)
      omega
theorem rchJ_closed {f : Int} (h0 : 0 ≤ f) (h1 : f < m) : ClsF E m (rchJ E f m) := by
  rcases rchJ_grows hN h0 h1 m with h | h
  · exact h
  · intro k hk _ x hx
    have hle := List.countP_le_length (p := hasN (rchJ E f m)) (l := List.range m)
    rw [List.length_range] at hle
    have heq : (List.range m).countP (hasN (rchJ E f m)) = (List.range m).length := by rw [List.length_range]; omega
    rw [List.countP_eq_length] at heq
    obtain ⟨y, rfl, hy⟩ := inF_nat (hN k hk) hx
    exact memI_iff.1 (heq y (List.mem_range.2 hy))
omit hN in
theorem stG_sub {out : List Int} : ∀ k, ∀ x ∈ out, x ∈ stG E out k
  | 0 => fun _ h => h
  | k + 1 => fun x h => by
    unfold stG
    rcases memI (stG E out k) (k : Int) with _ | _
    · exact stG_sub k x h
    · exact (insL_mem _ _).2 (.inl (stG_sub k x h))
omit hN in
theorem stG_has {out : List Int} {x : Int} : ∀ (k j : Nat), j < k → (j : Int) ∈ out → x ∈ (E j).nam [] → x ∈ stG E out k
  | 0, j, hj => absurd hj (by omega)
  | k + 1, j, hj => fun hm hx => by
    unfold stG
    by_cases e : j = k
    · subst e
      rw [memI_iff.2 (stG_sub j _ hm), cond_true]
      exact (insL_mem _ _).2 (.inr hx)
    · have := stG_has k j (by omega) hm hx
      rcases memI (stG E out k) (k : Int) with _ | _
      · exact this
      · exact (insL_mem _ _).2 (.inl this)
theorem rchJ_in_G {f : Int} (h0 : 0 ≤ f) (h1 : f < m) : ∀ r, ∀ x ∈ rchJ E f r, x ∈ rchG E m f r
  | 0 => fun _ h => h
  | r + 1 => fun x h => by
    have ih := rchJ_in_G h0 h1 r
    rcases (wcJ_mem E _ _).1 h with h | ⟨g, hg, h⟩
    · exact stG_sub _ _ (ih x h)
    · obtain ⟨k, rfl, hk⟩ := inF_nat (rchJ_in hN h0 h1 r) hg
      exact stG_has _ k hk (ih _ hg) (by simpa using h)
omit hN in
theorem rchJ_self (f : Int) : ∀ r, f ∈ rchJ E f r
  | 0 => by simp [rchJ]
  | r + 1 => rchJ_sub f r f (rchJ_self f r)
/-- Both rounds end at the same list. -/
theorem rch_eq {f : Int} (h0 : 0 ≤ f) (h1 : f < m) : rchG E m f m = rchJ E f m :=
  asc_ext (rchG_asc E m f m) (rchJ_asc E f m) fun x => ⟨fun h => rchG_least (rchJ_closed hN h0 h1) (rchJ_self f m) m x h, rchJ_in_G hN h0 h1 m x⟩
end
end Go.Proofs.YtihmkaodjpgikaaGreat
