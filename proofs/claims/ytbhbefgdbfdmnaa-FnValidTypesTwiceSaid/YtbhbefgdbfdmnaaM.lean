/- Chapter 1 in plain Lean: what the tests and the searches over declarations answer. Nothing here speaks of a program. -/
import Derived.Test.YtbhbefgdbfdmnaaLib
namespace Go.Proofs.Ytbhbefgdbfdmnaa
open Go.RowKit

/-- Is a number a type, where there are n declarations? -/
def isTy (n : Nat) (t : Int) : Bool := decide (0 ≤ t) && decide (t ≤ n)
theorem isTy_yes {n : Nat} {t : Int} (h : (!decide (0 ≤ t)) = false ∧ (!decide (t ≤ n)) = false) : isTy n t = true := by
  obtain ⟨h1, h2⟩ := h; simp [isTy, not_false h1, not_false h2]
theorem isTy_no {n : Nat} {t : Int} (h : (!decide (0 ≤ t)) = true ∨ (!decide (t ≤ n)) = true) : isTy n t = false := by
  rcases h with h | h <;> simp [isTy, not_true h]

/-- The first place below n with a property, plus 1; -1 where there is none. -/
def seek (n : Nat) (P : Nat → Bool) : Int := match (List.range n).find? P with
  | some k => (k : Int) + 1
  | none => -1
theorem find_range (P : Nat → Bool) : ∀ n k : Nat, k < n → (∀ j, j < k → P j = false) → P k = true → (List.range n).find? P = some k := by
  intro n k hk hb hp
  rw [List.find?_eq_some_iff_append]
  refine ⟨hp, List.range k, (List.range (n - (k + 1))).map (fun i => k + 1 + i), ?_, ?_⟩
  · conv => lhs; rw [show n = (k + 1) + (n - (k + 1)) by omega, List.range_add, List.range_succ]
    simp
  · intro a ha
    rw [List.mem_range] at ha
    simp [hb a ha]
theorem seek_hit {P : Nat → Bool} {n k : Nat} (hb : Hid (∀ j, j < k → P j = false)) (hk : k < n) (hp : P k = true) : seek n P = (k : Int) + 1 := by
  unfold seek; rw [find_range P n k hk hb.out hp]
theorem seek_none {P : Nat → Bool} {n k : Nat} (hb : Hid (∀ j, j < k → P j = false)) (hk : ¬ k < n) : seek n P = -1 := by
  unfold seek
  rw [List.find?_eq_none.2]
  intro j hj
  rw [List.mem_range] at hj
  simp [hb.out j (by omega)]
theorem before_zero {P : Nat → Bool} {b : Bool} : Hid (∀ j, j < 0 → P j = b) := fun j h => absurd h (by omega)
theorem before_step {P : Nat → Bool} {b : Bool} {k : Nat} (H : Hid (∀ j, j < k → P j = b)) (h : P k = b) : Hid (∀ j, j < k + 1 → P j = b) := fun j hj => by
  rcases Nat.lt_succ_iff_lt_or_eq.1 hj with h' | rfl
  · exact H.out j h'
  · exact h

theorem seek_congr {P R : Nat → Bool} {n : Nat} (h : ∀ j, j < n → P j = R j) : seek n P = seek n R := by
  unfold seek
  have : (List.range n).find? P = (List.range n).find? R := by
    have : ∀ l : List Nat, (∀ j ∈ l, P j = R j) → l.find? P = l.find? R := by
      intro l
      induction l with
      | nil => intro _; rfl
      | cons x l ih => intro hl; rw [List.find?_cons, List.find?_cons, hl x (by simp), ih (fun j hj => hl j (by simp [hj]))]
    exact this _ fun j hj => h j (List.mem_range.1 hj)
  rw [this]

/-- All places below n have a property. -/
def upTo (n : Nat) (P : Nat → Bool) : Bool := (List.range n).all P
theorem upTo_stop {P : Nat → Bool} {n k : Nat} (hk : k < n) (h : P k = false) : upTo n P = false := by
  unfold upTo; rw [List.all_eq_false]; exact ⟨k, List.mem_range.2 hk, by simp [h]⟩
theorem upTo_done {P : Nat → Bool} {n k : Nat} (H : Hid (∀ j, j < k → P j = true)) (h : ¬ k < n) : upTo n P = true := by
  unfold upTo; rw [List.all_eq_true]; intro j hj; rw [List.mem_range] at hj; exact H.out j (by omega)
theorem upTo_at {P : Nat → Bool} {n k : Nat} (H : upTo n P = true) (h : k < n) : P k = true := by
  unfold upTo at H; rw [List.all_eq_true] at H; exact H k (List.mem_range.2 h)

/-- An arrow type from f to t. -/
def isArr (f t : Int) (d : Dec) : Bool := decide (d.cons.length = 0) && (decide (d.frm = f) && decide (d.to = t))
theorem isArr_yes {f t : Int} {d : Dec} (h1 : d.cons = []) (h2 : d.frm = f) (h3 : (d.to == t) = true) : isArr f t d = true := by
  have h3' : d.to = t := by simpa using h3
  simp [isArr, h1, h2, h3']
theorem isArr_no {f t : Int} {d : Dec} (h : d.cons = [] → d.frm = f → (d.to == t) = false) : isArr f t d = false := by
  unfold isArr
  by_cases h1 : d.cons = []
  · by_cases h2 : d.frm = f
    · have h3 := h h1 h2
      have h3' : ¬ d.to = t := by simpa using h3
      simp [h3']
    · simp [h2]
  · simp [h1]
/-- The constructors of a data type are as they must be. -/
def consOk (n : Nat) (cs : List (List Int)) : Bool := decide (cs.length ≤ 3) && cs.all fun c => decide (c.length ≤ 3) && c.all (isTy n)
theorem con_no {c : List Int} {p : Int → Bool} (h : 3 < (c.length : Int) ∨ (!c.all p) = true) : (decide (c.length ≤ 3) && c.all p) = false := by
  rcases h with h | h
  · rw [decide_eq_false (by omega)]; rfl
  · rw [not_true h, Bool.and_false]
theorem con_yes {c : List Int} {p : Int → Bool} (h : (c.length : Int) ≤ 3 ∧ (!c.all p) = false) : (decide (c.length ≤ 3) && c.all p) = true := by
  rw [not_false h.2, decide_eq_true (by omega)]; rfl
/-- The declaration at a place is valid. -/
def decOk (ds : List Dec) (k : Nat) : Bool :=
  if 0 < (nthD ds k).cons.length then decide ((nthD ds k).frm = 0) && (decide ((nthD ds k).to = 0) && consOk ds.length (nthD ds k).cons)
  else isTy ds.length (nthD ds k).frm && (isTy ds.length (nthD ds k).to && decide (seek k (fun j => isArr (nthD ds k).frm (nthD ds k).to (nthD ds j)) < 0))
/-- Declarations are valid. -/
def typesOk (ds : List Dec) : Bool := decide (ds.length ≤ 4) && upTo ds.length (decOk ds)
/-- The number of constructors of the first k declarations. -/
def cnt (ds : List Dec) (k : Nat) : Nat := ((ds.take k).map fun d => d.cons.length).sum
theorem cnt_zero (ds : List Dec) : cnt ds 0 = 0 := by simp [cnt]
theorem cnt_succ {ds : List Dec} {k : Nat} (h : k < ds.length) : cnt ds (k + 1) = cnt ds k + (nthD ds k).cons.length := by
  unfold cnt; rw [List.take_succ_eq_append_getElem h, nthD_of h]; simp only [List.map_append, List.sum_append, List.map_cons, List.map_nil, List.sum_cons, List.sum_nil, Nat.add_zero]
theorem cnt_mono (ds : List Dec) : ∀ {i j : Nat}, i ≤ j → cnt ds i ≤ cnt ds j := by
  intro i j h
  induction j with
  | zero => have : i = 0 := by omega
            rw [this]; exact Nat.le_refl _
  | succ j ih =>
    by_cases e : i = j + 1
    · rw [e]; exact Nat.le_refl _
    · refine Nat.le_trans (ih (by omega)) ?_
      by_cases hj : j < ds.length
      · rw [cnt_succ hj]; omega
      · unfold cnt; rw [List.take_of_length_le (by omega), List.take_of_length_le (by omega)]; exact Nat.le_refl _
theorem cnt_take (ds : List Dec) {i k : Nat} (h : i ≤ k) : cnt (ds.take k) i = cnt ds i := by
  unfold cnt; rw [List.take_take, Nat.min_eq_left h]
/-- The type of a constructor. -/
def conTy (ds : List Dec) (c : Int) : Int := seek ds.length fun k => decide ((cnt ds k : Int) ≤ c) && decide (c < (cnt ds (k + 1) : Int))

theorem inCon_yes {ds : List Dec} {c : Int} {k : Nat} (hk : k < ds.length) (h1 : (cnt ds k : Int) ≤ c) (h2 : c < (cnt ds k : Int) + ((nthD ds k).cons.length : Int)) :
    (decide ((cnt ds k : Int) ≤ c) && decide (c < (cnt ds (k + 1) : Int))) = true := by
  have := cnt_succ hk
  rw [decide_eq_true h1, decide_eq_true (by omega)]; rfl
theorem inCon_no {ds : List Dec} {c : Int} {k : Nat} (hk : k < ds.length) (h : (cnt ds k : Int) ≤ c → ¬ c < (cnt ds k : Int) + ((nthD ds k).cons.length : Int)) :
    (decide ((cnt ds k : Int) ≤ c) && decide (c < (cnt ds (k + 1) : Int))) = false := by
  have := cnt_succ hk
  by_cases h1 : (cnt ds k : Int) ≤ c
  · rw [decide_eq_false (show ¬ c < (cnt ds (k + 1) : Int) by have := h h1; omega), Bool.and_false]
  · rw [decide_eq_false h1]; rfl
theorem seek_cases (n : Nat) (P : Nat → Bool) : seek n P = -1 ∨ ∃ k, k < n ∧ seek n P = (k : Int) + 1 ∧ P k = true := by
  unfold seek
  rcases h : (List.range n).find? P with _ | k
  · exact .inl rfl
  · exact .inr ⟨k, List.mem_range.1 (List.mem_of_find?_eq_some h), rfl, List.find?_some h⟩
theorem conTy_cases (ds : List Dec) (c : Int) : conTy ds c = -1 ∨ ∃ k, k < ds.length ∧ conTy ds c = (k : Int) + 1 ∧ (cnt ds k : Int) ≤ c ∧ c < (cnt ds k : Int) + ((nthD ds k).cons.length : Int) := by
  rcases seek_cases ds.length fun k => decide ((cnt ds k : Int) ≤ c) && decide (c < (cnt ds (k + 1) : Int)) with h | ⟨k, hk, h, hp⟩
  · exact .inl h
  · refine .inr ⟨k, hk, h, ?_⟩
    have := cnt_succ hk
    simp only [Bool.and_eq_true, decide_eq_true_eq] at hp
    omega
/-- The types of the fields of a constructor that there is. -/
def flds (ds : List Dec) (c : Int) : List Int := nthL (nthD ds (conTy ds c - 1).toNat).cons (c - cnt ds (conTy ds c - 1).toNat).toNat
theorem flds_at {ds : List Dec} {c : Int} {k : Nat} (h : conTy ds c = (k : Int) + 1) : flds ds c = nthL (nthD ds k).cons (c - cnt ds k).toNat := by
  unfold flds; rw [h, show ((k : Int) + 1 - 1).toNat = k by omega]
theorem typesOk_four {ds : List Dec} (h : typesOk ds = true) : ds.length ≤ 4 := by
  unfold typesOk at h; simp only [Bool.and_eq_true, decide_eq_true_eq] at h; exact h.1
theorem typesOk_at {ds : List Dec} (h : typesOk ds = true) {k : Nat} (hk : k < ds.length) : decOk ds k = true := by
  unfold typesOk at h; simp only [Bool.and_eq_true, decide_eq_true_eq] at h; exact upTo_at h.2 hk
theorem consOk_of {ds : List Dec} (h : typesOk ds = true) {k : Nat} (hk : k < ds.length) : consOk ds.length (nthD ds k).cons = true := by
  have := typesOk_at h hk
  unfold decOk at this
  by_cases hp : 0 < (nthD ds k).cons.length
  · rw [if_pos hp] at this; simp only [Bool.and_eq_true] at this; exact this.2.2
  · have hz : (nthD ds k).cons = [] := List.eq_nil_of_length_eq_zero (by omega)
    rw [hz]; rfl
theorem cons_three {ds : List Dec} (h : typesOk ds = true) {k : Nat} (hk : k < ds.length) : (nthD ds k).cons.length ≤ 3 := by
  have := consOk_of h hk; unfold consOk at this; simp only [Bool.and_eq_true, decide_eq_true_eq] at this; exact this.1
theorem con_three {ds : List Dec} (h : typesOk ds = true) {k i : Nat} (hk : k < ds.length) (hi : i < (nthD ds k).cons.length) : (nthL (nthD ds k).cons i).length ≤ 3 := by
  have := consOk_of h hk; unfold consOk at this; simp only [Bool.and_eq_true, decide_eq_true_eq, List.all_eq_true] at this
  rw [nthL_of hi]; exact (this.2 _ (List.getElem_mem hi)).1
theorem cnt_small {ds : List Dec} (h : typesOk ds = true) : ∀ k, k ≤ ds.length → cnt ds k ≤ 3 * k := by
  intro k
  induction k with
  | zero => intro _; rw [cnt_zero]; omega
  | succ k ih => intro hk; rw [cnt_succ (by omega)]; have := ih (by omega); have := cons_three h (k := k) (by omega); omega
theorem cnt_twelve {ds : List Dec} (h : typesOk ds = true) : cnt ds ds.length ≤ 12 := by
  have := cnt_small h _ (Nat.le_refl _); have := typesOk_four h; omega
/-- Is a number a data type? -/
def isDat (ds : List Dec) (t : Int) : Bool := decide (0 < t) && (isTy ds.length t && decide (0 < (nthD ds (t - 1).toNat).cons.length))

/-- What the functions that are called from outside answer. -/
def conCountV (ds : List Dec) : Int := if typesOk ds = true then (cnt ds ds.length : Int) else -1
def conTypeV (ds : List Dec) (c : Int) : Int := if typesOk ds = true then conTy ds c else -1
def arrowV (ds : List Dec) (f t : Int) : Int := if typesOk ds = true then seek ds.length (fun k => isArr f t (nthD ds k)) else -1
def conFieldsV (ds : List Dec) (c : Int) : List Int := if typesOk ds = true ∧ 0 ≤ conTy ds c then flds ds c else []
/-- The constructors of the type k + 1. -/
def consAt (ds : List Dec) (k : Nat) : List Int := (List.range (nthD ds k).cons.length).map fun i : Nat => (cnt ds k : Int) + (i : Int)
def consOfV (ds : List Dec) (t : Int) : List Int := if typesOk ds = true ∧ 1 ≤ t ∧ t ≤ ds.length then consAt ds (t - 1).toNat else []
theorem length_consAt (ds : List Dec) (k : Nat) : (consAt ds k).length = (nthD ds k).cons.length := by simp [consAt]
theorem length_take_nthD {ds : List Dec} {k j : Nat} (h : j < k) : nthD (ds.take k) j = nthD ds j := by
  unfold nthD; simp [List.getD_eq_getElem?_getD, h]

/-- The first k declarations, as a slice of the same row. -/
theorem Decs.cut {w : World} {L U : Nat} {A : Option Addr} {ds : List Dec} {c k : Nat} (h : Decs w L U (.slice A ds.length c) ds) (hk : k ≤ ds.length) : Decs w L U (.slice A k c) (ds.take k) := by
  obtain ⟨A', c', V, e, r, hi⟩ := h
  injection e with e1 e2 e3
  subst e1 e3
  have hl : (ds.take k).length = k := by simp; omega
  refine ⟨A, c, V, by rw [hl], ?_, fun i hik => ?_⟩
  · rw [hl]
    have r' := r.short hk
    refine ⟨r'.le, r'.cap, r'.nil, fun hn => ?_⟩
    obtain ⟨b, o, e, h1, h2, hc⟩ := r'.place hn
    exact ⟨b, o, e, h1, h2, fun i j hi hj => by rw [hc i j hi hj, length_take_nthD hi]⟩
  · rw [hl] at hik
    rw [length_take_nthD hik]
    exact hi i (by omega)
end Go.Proofs.Ytbhbefgdbfdmnaa
