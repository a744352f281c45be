/- Inhabited types in plain Lean: rounds over all types at once, rounds type by type; both end at the least closed set. Nothing here speaks of a program. -/
import Derived.Test.YtgbeongiejppnaaGa
import Derived.Test.YtgbeongiejppnaaGc
namespace Go.Proofs.Ytgbeongiejppnaa
open Go.RowKit
def memI (S : List Int) (x : Int) : Bool := S.any fun y => decide (y = x)
theorem memI_iff {S : List Int} {x : Int} : memI S x = true ↔ x ∈ S := by
  unfold memI
  rw [List.any_eq_true]
  constructor
  · rintro ⟨y, hy, e⟩
    have : y = x := by simpa using e
    rwa [← this]
  · intro h
    exact ⟨x, h, by simp⟩
def allI (xs S : List Int) : Bool := xs.all fun t => memI S t
def anyI (cs : List (List Int)) (S : List Int) : Bool := cs.any fun c => allI c S
def fullB (d : Dec) (S : List Int) : Bool := decide (d.cons.length = 0) || anyI d.cons S
theorem fullB_iff {d : Dec} {S : List Int} : fullB d S = true ↔ d.cons = [] ∨ ∃ c ∈ d.cons, ∀ t ∈ c, t ∈ S := by
  unfold fullB anyI allI
  rw [Bool.or_eq_true, decide_eq_true_eq, List.length_eq_zero_iff, List.any_eq_true]
  simp only [List.all_eq_true, memI_iff]
theorem fullB_mono {d : Dec} {S S' : List Int} (h : ∀ x ∈ S, x ∈ S') (hf : fullB d S = true) : fullB d S' = true := by
  rw [fullB_iff] at hf ⊢
  exact hf.imp id fun ⟨c, hc, ht⟩ => ⟨c, hc, fun t h' => h t (ht t h')⟩
/-- All types up to the k-th one that S fills are put into out. -/
def roundTo (ds : List Dec) (S : List Int) (out : List Int) : Nat → List Int
  | 0 => out
  | k + 1 => cond (fullB (nthD ds k) S) (ins ((k : Int) + 1) (roundTo ds S out k)) (roundTo ds S out k)
def roundJ (ds : List Dec) (S : List Int) : List Int := roundTo ds S S ds.length
def iterJ (ds : List Dec) : Nat → List Int
  | 0 => [0]
  | r + 1 => roundJ ds (iterJ ds r)
/-- Type by type, each with what is there by then. -/
def stepG (ds : List Dec) (out : List Int) : Nat → List Int
  | 0 => out
  | k + 1 => cond (fullB (nthD ds k) (stepG ds out k)) (ins ((k : Int) + 1) (stepG ds out k)) (stepG ds out k)
def iterG (ds : List Dec) : Nat → List Int
  | 0 => [0]
  | r + 1 => stepG ds (iterG ds r) ds.length
theorem roundTo_mem {ds : List Dec} {S out : List Int} {x : Int} : ∀ k, x ∈ roundTo ds S out k ↔ x ∈ out ∨ ∃ j, j < k ∧ x = (j : Int) + 1 ∧ fullB (nthD ds j) S = true := by
  intro k
  induction k with
  | zero => simp [roundTo]
  | succ k ih =>
    unfold roundTo
    rcases hf : fullB (nthD ds k) S with _ | _
    · rw [cond_false, ih]
      constructor
      · rintro (h | ⟨j, hj, e, h⟩)
        · exact .inl h
        · exact .inr ⟨j, by omega, e, h⟩
      · rintro (h | ⟨j, hj, e, h⟩)
        · exact .inl h
        · by_cases hjk : j = k
          · subst hjk; rw [hf] at h; cases h
          · exact .inr ⟨j, by omega, e, h⟩
    · rw [cond_true, ins_mem, ih]
      constructor
      · rintro (h | h | ⟨j, hj, e, h⟩)
        · exact .inr ⟨k, by omega, h, hf⟩
        · exact .inl h
        · exact .inr ⟨j, by omega, e, h⟩
      · rintro (h | ⟨j, hj, e, h⟩)
        · exact .inr (.inl h)
        · by_cases hjk : j = k
          · subst hjk; exact .inl e
          · exact .inr (.inr ⟨j, by omega, e, h⟩)
theorem roundTo_asc {ds : List Dec} {S out : List Int} (h : Asc out) : ∀ k, Asc (roundTo ds S out k) := by
  intro k
  induction k with
  | zero => exact h
  | succ k ih =>
    unfold roundTo
    rcases fullB (nthD ds k) S with _ | _
    · exact ih
    · exact ins_asc ih
theorem stepG_asc {ds : List Dec} {out : List Int} (h : Asc out) : ∀ k, Asc (stepG ds out k) := by
  intro k
  induction k with
  | zero => exact h
  | succ k ih =>
    unfold stepG
    rcases fullB (nthD ds k) (stepG ds out k) with _ | _
    · exact ih
    · exact ins_asc ih
theorem asc_one (x : Int) : Asc [x] := by
  intro i j hij hj
  simp at hj
  omega
theorem iterJ_asc (ds : List Dec) : ∀ r, Asc (iterJ ds r)
  | 0 => asc_one 0
  | r + 1 => roundTo_asc (iterJ_asc ds r) _
theorem iterG_asc (ds : List Dec) : ∀ r, Asc (iterG ds r)
  | 0 => asc_one 0
  | r + 1 => stepG_asc (iterG_asc ds r) _
theorem roundTo_length (ds : List Dec) (S out : List Int) : ∀ k, (roundTo ds S out k).length ≤ out.length + k := by
  intro k
  induction k with
  | zero => simp [roundTo]
  | succ k ih =>
    unfold roundTo
    rcases fullB (nthD ds k) S with _ | _
    · rw [cond_false]; omega
    · rw [cond_true]; have := ins_length ((k : Int) + 1) (roundTo ds S out k); omega
theorem stepG_length (ds : List Dec) (out : List Int) : ∀ k, (stepG ds out k).length ≤ out.length + k := by
  intro k
  induction k with
  | zero => simp [stepG]
  | succ k ih =>
    unfold stepG
    rcases fullB (nthD ds k) (stepG ds out k) with _ | _
    · rw [cond_false]; omega
    · rw [cond_true]; have := ins_length ((k : Int) + 1) (stepG ds out k); omega
theorem iterJ_length (ds : List Dec) : ∀ r, (iterJ ds r).length ≤ 1 + r * ds.length
  | 0 => by simp [iterJ]
  | r + 1 => by
    have h1 := iterJ_length ds r
    have h2 := roundTo_length ds (iterJ ds r) (iterJ ds r) ds.length
    have h3 : (r + 1) * ds.length = r * ds.length + ds.length := by rw [Nat.add_mul, Nat.one_mul]
    show (roundTo ds (iterJ ds r) (iterJ ds r) ds.length).length ≤ _
    omega
theorem iterG_length (ds : List Dec) : ∀ r, (iterG ds r).length ≤ 1 + r * ds.length
  | 0 => by simp [iterG]
  | r + 1 => by
    have h1 := iterG_length ds r
    have h2 := stepG_length ds (iterG ds r) ds.length
    have h3 : (r + 1) * ds.length = r * ds.length + ds.length := by rw [Nat.add_mul, Nat.one_mul]
    show (stepG ds (iterG ds r) ds.length).length ≤ _
    omega
/-- Closed: what is filled is there. -/
def Closed (ds : List Dec) (S : List Int) : Prop := ∀ k, k < ds.length → fullB (nthD ds k) S = true → (k : Int) + 1 ∈ S
theorem stepG_sub {ds : List Dec} {out : List Int} : ∀ k, ∀ x ∈ out, x ∈ stepG ds out k := by
  intro k
  induction k with
  | zero => intro x h; exact h
  | succ k ih =>
    intro x h
    unfold stepG
    rcases fullB (nthD ds k) (stepG ds out k) with _ | _
    · exact ih x h
    · exact ins_mem.2 (.inr (ih x h))
theorem stepG_has {ds : List Dec} {out : List Int} : ∀ k j, j < k → fullB (nthD ds j) (stepG ds out j) = true → (j : Int) + 1 ∈ stepG ds out k := by
  intro k
  induction k with
  | zero => intro j hj; omega
  | succ k ih =>
    intro j hj hf
    unfold stepG
    by_cases e : j = k
    · subst e; rw [hf, cond_true]; exact ins_mem.2 (.inl rfl)
    · have := ih j (by omega) hf
      rcases fullB (nthD ds k) (stepG ds out k) with _ | _
      · exact this
      · exact ins_mem.2 (.inr this)
/-- A set of which all is in every closed one that has 0. -/
def Least (ds : List Dec) (S : List Int) : Prop := ∀ C, Closed ds C → (0 : Int) ∈ C → ∀ x ∈ S, x ∈ C
theorem iterJ_least (ds : List Dec) : ∀ r, Least ds (iterJ ds r)
  | 0 => fun C _ h0 x hx => by simp [iterJ] at hx; subst hx; exact h0
  | r + 1 => fun C hC h0 x hx => by
    rcases (roundTo_mem (ds := ds) ds.length).1 hx with h | ⟨j, hj, rfl, hf⟩
    · exact iterJ_least ds r C hC h0 x h
    · exact hC j hj (fullB_mono (iterJ_least ds r C hC h0) hf)
theorem stepG_least {ds : List Dec} {out : List Int} (h : Least ds out) : ∀ k, k ≤ ds.length → Least ds (stepG ds out k)
  | 0, _ => h
  | k + 1, hk => fun C hC h0 x hx => by
    have ih := stepG_least h k (by omega) C hC h0
    unfold stepG at hx
    rcases hf : fullB (nthD ds k) (stepG ds out k) with _ | _
    · rw [hf] at hx; exact ih x hx
    · rw [hf, cond_true] at hx
      rcases ins_mem.1 hx with rfl | h'
      · exact hC k (by omega) (fullB_mono ih hf)
      · exact ih x h'
theorem iterG_least (ds : List Dec) : ∀ r, Least ds (iterG ds r)
  | 0 => fun C _ h0 x hx => by simp [iterG] at hx; subst hx; exact h0
  | r + 1 => stepG_least (iterG_least ds r) _ (Nat.le_refl _)
theorem count_lt {α : Type} {p q : α → Bool} {l : List α} (h : ∀ x ∈ l, p x = true → q x = true) {y : α} (hy : y ∈ l) (h1 : p y = false) (h2 : q y = true) : l.countP p < l.countP q := by
  induction l with
  | nil => cases hy
  | cons z l ih =>
    have mono : l.countP p ≤ l.countP q := List.countP_mono_left fun x hx => h x (by simp [hx])
    rw [List.countP_cons, List.countP_cons]
    rcases List.mem_cons.1 hy with rfl | hy'
    · rw [h1, h2]; simp; omega
    · have := ih (fun x hx => h x (by simp [hx])) hy'
      rcases hz : p z with _ | _
      · simp; split <;> omega
      · rw [h z (by simp) hz]; simp; omega
def have_ (S : List Int) (k : Nat) : Bool := memI S ((k : Int) + 1)
theorem iterJ_grows (ds : List Dec) : ∀ r, Closed ds (iterJ ds r) ∨ r ≤ (List.range ds.length).countP (have_ (iterJ ds r)) := by
  intro r
  induction r with
  | zero => exact .inr (Nat.zero_le _)
  | succ r ih =>
    have sub : ∀ x ∈ iterJ ds r, x ∈ iterJ ds (r + 1) := fun x hx => (roundTo_mem ds.length).2 (.inl hx)
    by_cases hc : Closed ds (iterJ ds r)
    · left
      have back : ∀ x ∈ iterJ ds (r + 1), x ∈ iterJ ds r := fun x hx => by
        rcases (roundTo_mem (ds := ds) ds.length).1 hx with h | ⟨j, hj, rfl, hf⟩
        · exact h
        · exact hc j hj hf
      intro k hk hf
      exact sub _ (hc k hk (fullB_mono back hf))
    · right
      have hle : r ≤ (List.range ds.length).countP (have_ (iterJ ds r)) := ih.resolve_left hc
      obtain ⟨k, hk⟩ := Classical.not_forall.1 hc
      have hk1 : k < ds.length := Classical.byContradiction fun h => hk fun h' => absurd h' h
      have hk2 : fullB (nthD ds k) (iterJ ds r) = true := Classical.byContradiction fun h => hk fun _ h' => absurd h' h
      have hk3 : ¬ ((k : Int) + 1 ∈ iterJ ds r) := fun h => hk fun _ _ => h
      have := count_lt (l := List.range ds.length) (p := have_ (iterJ ds r)) (q := have_ (iterJ ds (r + 1))) (fun x _ h => memI_iff.2 (sub _ (memI_iff.1 h))) (List.mem_range.2 hk1)
        (by rcases hm : have_ (iterJ ds r) k with _ | _; rfl; exact absurd (memI_iff.1 hm) hk3) (memI_iff.2 ((roundTo_mem ds.length).2 (.inr ⟨k, hk1, rfl, hk2⟩)))
      omega
theorem iterJ_closed (ds : List Dec) : Closed ds (iterJ ds ds.length) := by
  rcases iterJ_grows ds ds.length with h | h
  · exact h
  · intro k hk _
    have hle := List.countP_le_length (p := have_ (iterJ ds ds.length)) (l := List.range ds.length)
    rw [List.length_range] at hle
    have heq : (List.range ds.length).countP (have_ (iterJ ds ds.length)) = (List.range ds.length).length := by rw [List.length_range]; omega
    rw [List.countP_eq_length] at heq
    exact memI_iff.1 (heq k (List.mem_range.2 hk))
theorem iterJ_zero (ds : List Dec) : ∀ r, (0 : Int) ∈ iterJ ds r
  | 0 => by simp [iterJ]
  | r + 1 => (roundTo_mem ds.length).2 (.inl (iterJ_zero ds r))
theorem iterG_zero (ds : List Dec) : ∀ r, (0 : Int) ∈ iterG ds r
  | 0 => by simp [iterG]
  | r + 1 => stepG_sub _ _ (iterG_zero ds r)
theorem iterJ_in_G (ds : List Dec) : ∀ r, ∀ x ∈ iterJ ds r, x ∈ iterG ds r
  | 0 => fun x h => h
  | r + 1 => fun x h => by
    have ih := iterJ_in_G ds r
    rcases (roundTo_mem (ds := ds) ds.length).1 h with h | ⟨j, hj, rfl, hf⟩
    · exact stepG_sub _ _ (ih x h)
    · exact stepG_has _ j hj (fullB_mono (fun y hy => stepG_sub j y (ih y hy)) hf)
theorem asc_ext {xs ys : List Int} (hx : Asc xs) (hy : Asc ys) (h : ∀ x, x ∈ xs ↔ x ∈ ys) : xs = ys := by
  rw [asc_iff] at hx hy
  induction xs generalizing ys with
  | nil =>
    cases ys with
    | nil => rfl
    | cons y ys => exact absurd ((h y).2 (by simp)) (by simp)
  | cons x xs ih =>
    cases ys with
    | nil => exact absurd ((h x).1 (by simp)) (by simp)
    | cons y ys =>
      rw [List.pairwise_cons] at hx hy
      have exy : x = y := by
        have h1 := (h x).1 (by simp)
        have h2 := (h y).2 (by simp)
        rcases List.mem_cons.1 h1 with e | h1
        · exact e
        · rcases List.mem_cons.1 h2 with e | h2
          · exact e.symm
          · have := hy.1 x h1
            have := hx.1 y h2
            omega
      subst exy
      rw [ih hx.2 hy.2 fun z => ⟨fun hz => ?_, fun hz => ?_⟩]
      · rcases List.mem_cons.1 ((h z).1 (by simp [hz])) with rfl | h'
        · have := hx.1 z hz; omega
        · exact h'
      · rcases List.mem_cons.1 ((h z).2 (by simp [hz])) with rfl | h'
        · have := hy.1 z hz; omega
        · exact h'
/-- Both rounds end at the same list. -/
theorem iterG_eq (ds : List Dec) : iterG ds ds.length = iterJ ds ds.length :=
  asc_ext (iterG_asc ds _) (iterJ_asc ds _) fun x => ⟨fun h => iterG_least ds _ _ (iterJ_closed ds) (iterJ_zero ds _) x h, iterJ_in_G ds _ x⟩
def inhV (ds : List Dec) : List Int := cond (typesOk ds) (iterJ ds ds.length) []
theorem inhV_length (ds : List Dec) : (inhV ds).length ≤ 17 := by
  unfold inhV
  rcases h : typesOk ds with _ | _
  · simp
  · rw [cond_true]
    have h1 := iterJ_length ds ds.length
    have h2 := typesOk_four h
    have h3 : ds.length * ds.length ≤ 4 * 4 := Nat.mul_le_mul h2 h2
    omega
end Go.Proofs.Ytgbeongiejppnaa
