/- M A B C D E F: merged texts. -/
import Derived.Laws.AppendOwn
import Derived.Laws.AppendOwnNone
import Derived.Maps.AppendAt
import Derived.Test.YtgbeongiejppnaaGa
/- Chapter 1 in plain Lean: what the tests and the searches over declarations answer. Nothing here speaks of a program. -/
namespace Go.Proofs.Ytgbeongiejppnaa
open Go.RowKit

/-- Is a number a type, where there are n declarations? -/
def isTy (n : Nat) (t : Int) : Bool := decide (0 ≤ t) && decide (t ≤ n)
theorem isTy_yes {n : Nat} {t : Int} (h : (!decide (0 ≤ t)) = false ∧ (!decide (t ≤ n)) = false) : isTy n t = true := by
  obtain ⟨h1, h2⟩ := h; simp [isTy, not_false h1, not_false h2]
theorem isTy_no {n : Nat} {t : Int} (h : (!decide (0 ≤ t)) = true ∨ (!decide (t ≤ n)) = true) : isTy n t = false := by
  rcases h with h | h <;> simp [isTy, not_true h]

/-- The first place below n with a property, plus 1; -1 where there is none. -/
def seek (n : Nat) (P : Nat → Bool) : Int := match (List.range n).find? P with
  | some k => (k : Int) + 1
  | none => -1
theorem find_range (P : Nat → Bool) : ∀ n k : Nat, k < n → (∀ j, j < k → P j = false) → P k = true → (List.range n).find? P = some k := by
  intro n k hk hb hp
  rw [List.find?_eq_some_iff_append]
  refine ⟨hp, List.range k, (List.range (n - (k + 1))).map (fun i => k + 1 + i), ?_, ?_⟩
  · conv => lhs; rw [show n = (k + 1) + (n - (k + 1)) by omega, List.range_add, List.range_succ]
    simp
  · intro a ha
    rw [List.mem_range] at ha
    simp [hb a ha]
theorem seek_hit {P : Nat → Bool} {n k : Nat} (hb : Hid (∀ j, j < k → P j = false)) (hk : k < n) (hp : P k = true) : seek n P = (k : Int) + 1 := by
  unfold seek; rw [find_range P n k hk hb.out hp]
theorem seek_none {P : Nat → Bool} {n k : Nat} (hb : Hid (∀ j, j < k → P j = false)) (hk : ¬ k < n) : seek n P = -1 := by
  unfold seek
  rw [List.find?_eq_none.2]
  intro j hj
  rw [List.mem_range] at hj
  simp [hb.out j (by omega)]
theorem before_zero {P : Nat → Bool} {b : Bool} : Hid (∀ j, j < 0 → P j = b) := fun j h => absurd h (by omega)
theorem before_step {P : Nat → Bool} {b : Bool} {k : Nat} (H : Hid (∀ j, j < k → P j = b)) (h : P k = b) : Hid (∀ j, j < k + 1 → P j = b) := fun j hj => by
  rcases Nat.lt_succ_iff_lt_or_eq.1 hj with h' | rfl
  · exact H.out j h'
  · exact h

theorem seek_congr {P R : Nat → Bool} {n : Nat} (h : ∀ j, j < n → P j = R j) : seek n P = seek n R := by
  unfold seek
  have : (List.range n).find? P = (List.range n).find? R := by
    have : ∀ l : List Nat, (∀ j ∈ l, P j = R j) → l.find? P = l.find? R := by
      intro l
      induction l with
      | nil => intro _; rfl
      | cons x l ih => intro hl; rw [List.find?_cons, List.find?_cons, hl x (by simp), ih (fun j hj => hl j (by simp [hj]))]
    exact this _ fun j hj => h j (List.mem_range.1 hj)
  rw [this]

/-- All places below n have a property. -/
def upTo (n : Nat) (P : Nat → Bool) : Bool := (List.range n).all P
theorem upTo_stop {P : Nat → Bool} {n k : Nat} (hk : k < n) (h : P k = false) : upTo n P = false := by
  unfold upTo; rw [List.all_eq_false]; exact ⟨k, List.mem_range.2 hk, by simp [h]⟩
theorem upTo_done {P : Nat → Bool} {n k : Nat} (H : Hid (∀ j, j < k → P j = true)) (h : ¬ k < n) : upTo n P = true := by
  unfold upTo; rw [List.all_eq_true]; intro j hj; rw [List.mem_range] at hj; exact H.out j (by omega)
theorem upTo_at {P : Nat → Bool} {n k : Nat} (H : upTo n P = true) (h : k < n) : P k = true := by
  unfold upTo at H; rw [List.all_eq_true] at H; exact H k (List.mem_range.2 h)

/-- An arrow type from f to t. -/
def isArr (f t : Int) (d : Dec) : Bool := decide (d.cons.length = 0) && (decide (d.frm = f) && decide (d.to = t))
theorem isArr_yes {f t : Int} {d : Dec} (h1 : d.cons = []) (h2 : d.frm = f) (h3 : (d.to == t) = true) : isArr f t d = true := by
  have h3' : d.to = t := by simpa using h3
  simp [isArr, h1, h2, h3']
theorem isArr_no {f t : Int} {d : Dec} (h : d.cons = [] → d.frm = f → (d.to == t) = false) : isArr f t d = false := by
  unfold isArr
  by_cases h1 : d.cons = []
  · by_cases h2 : d.frm = f
    · have h3 := h h1 h2
      have h3' : ¬ d.to = t := by simpa using h3
      simp [h3']
    · simp [h2]
  · simp [h1]
/-- The constructors of a data type are as they must be. -/
def consOk (n : Nat) (cs : List (List Int)) : Bool := decide (cs.length ≤ 3) && cs.all fun c => decide (c.length ≤ 3) && c.all (isTy n)
theorem con_no {c : List Int} {p : Int → Bool} (h : 3 < (c.length : Int) ∨ (!c.all p) = true) : (decide (c.length ≤ 3) && c.all p) = false := by
  rcases h with h | h
  · rw [decide_eq_false (by omega)]; rfl
  · rw [not_true h, Bool.and_false]
theorem con_yes {c : List Int} {p : Int → Bool} (h : (c.length : Int) ≤ 3 ∧ (!c.all p) = false) : (decide (c.length ≤ 3) && c.all p) = true := by
  rw [not_false h.2, decide_eq_true (by omega)]; rfl
/-- The declaration at a place is valid. -/
def decOk (ds : List Dec) (k : Nat) : Bool :=
  if 0 < (nthD ds k).cons.length then decide ((nthD ds k).frm = 0) && (decide ((nthD ds k).to = 0) && consOk ds.length (nthD ds k).cons)
  else isTy ds.length (nthD ds k).frm && (isTy ds.length (nthD ds k).to && decide (seek k (fun j => isArr (nthD ds k).frm (nthD ds k).to (nthD ds j)) < 0))
/-- Declarations are valid. -/
def typesOk (ds : List Dec) : Bool := decide (ds.length ≤ 4) && upTo ds.length (decOk ds)
/-- The number of constructors of the first k declarations. -/
def cnt (ds : List Dec) (k : Nat) : Nat := ((ds.take k).map fun d => d.cons.length).sum
theorem cnt_zero (ds : List Dec) : cnt ds 0 = 0 := by simp [cnt]
theorem cnt_succ {ds : List Dec} {k : Nat} (h : k < ds.length) : cnt ds (k + 1) = cnt ds k + (nthD ds k).cons.length := by
  unfold cnt; rw [List.take_succ_eq_append_getElem h, nthD_of h]; simp only [List.map_append, List.sum_append, List.map_cons, List.map_nil, List.sum_cons, List.sum_nil, Nat.add_zero]
theorem cnt_mono (ds : List Dec) : ∀ {i j : Nat}, i ≤ j → cnt ds i ≤ cnt ds j := by
  intro i j h
  induction j with
  | zero => have : i = 0 := by omega
            rw [this]; exact Nat.le_refl _
  | succ j ih =>
    by_cases e : i = j + 1
    · rw [e]; exact Nat.le_refl _
    · refine Nat.le_trans (ih (by omega)) ?_
      by_cases hj : j < ds.length
      · rw [cnt_succ hj]; omega
      · unfold cnt; rw [List.take_of_length_le (by omega), List.take_of_length_le (by omega)]; exact Nat.le_refl _
theorem cnt_take (ds : List Dec) {i k : Nat} (h : i ≤ k) : cnt (ds.take k) i = cnt ds i := by
  unfold cnt; rw [List.take_take, Nat.min_eq_left h]
/-- The type of a constructor. -/
def conTy (ds : List Dec) (c : Int) : Int := seek ds.length fun k => decide ((cnt ds k : Int) ≤ c) && decide (c < (cnt ds (k + 1) : Int))

theorem inCon_yes {ds : List Dec} {c : Int} {k : Nat} (hk : k < ds.length) (h1 : (cnt ds k : Int) ≤ c) (h2 : c < (cnt ds k : Int) + ((nthD ds k).cons.length : Int)) :
    (decide ((cnt ds k : Int) ≤ c) && decide (c < (cnt ds (k + 1) : Int))) = true := by
  have := cnt_succ hk
  rw [decide_eq_true h1, decide_eq_true (by omega)]; rfl
theorem inCon_no {ds : List Dec} {c : Int} {k : Nat} (hk : k < ds.length) (h : (cnt ds k : Int) ≤ c → ¬ c < (cnt ds k : Int) + ((nthD ds k).cons.length : Int)) :
    (decide ((cnt ds k : Int) ≤ c) && decide (c < (cnt ds (k + 1) : Int))) = false := by
  have := cnt_succ hk
  by_cases h1 : (cnt ds k : Int) ≤ c
  · rw [decide_eq_false (show ¬ c < (cnt ds (k + 1) : Int) by have := h h1; omega), Bool.and_false]
  · rw [decide_eq_false h1]; rfl
theorem seek_cases (n : Nat) (P : Nat → Bool) : seek n P = -1 ∨ ∃ k, k < n ∧ seek n P = (k : Int) + 1 ∧ P k = true := by
  unfold seek
  rcases h : (List.range n).find? P with _ | k
  · exact .inl rfl
  · exact .inr ⟨k, List.mem_range.1 (List.mem_of_find?_eq_some h), rfl, List.find?_some h⟩
theorem conTy_cases (ds : List Dec) (c : Int) : conTy ds c = -1 ∨ ∃ k, k < ds.length ∧ conTy ds c = (k : Int) + 1 ∧ (cnt ds k : Int) ≤ c ∧ c < (cnt ds k : Int) + ((nthD ds k).cons.length : Int) := by
  rcases seek_cases ds.length fun k => decide ((cnt ds k : Int) ≤ c) && decide (c < (cnt ds (k + 1) : Int)) with h | ⟨k, hk, h, hp⟩
  · exact .inl h
  · refine .inr ⟨k, hk, h, ?_⟩
    have := cnt_succ hk
    simp only [Bool.and_eq_true, decide_eq_true_eq] at hp
    omega
/-- The types of the fields of a constructor that there is. -/
def flds (ds : List Dec) (c : Int) : List Int := nthL (nthD ds (conTy ds c - 1).toNat).cons (c - cnt ds (conTy ds c - 1).toNat).toNat
theorem flds_at {ds : List Dec} {c : Int} {k : Nat} (h : conTy ds c = (k : Int) + 1) : flds ds c = nthL (nthD ds k).cons (c - cnt ds k).toNat := by
  unfold flds; rw [h, show ((k : Int) + 1 - 1).toNat = k by omega]
theorem typesOk_four {ds : List Dec} (h : typesOk ds = true) : ds.length ≤ 4 := by
  unfold typesOk at h; simp only [Bool.and_eq_true, decide_eq_true_eq] at h; exact h.1
theorem typesOk_at {ds : List Dec} (h : typesOk ds = true) {k : Nat} (hk : k < ds.length) : decOk ds k = true := by
  unfold typesOk at h; simp only [Bool.and_eq_true, decide_eq_true_eq] at h; exact upTo_at h.2 hk
theorem consOk_of {ds : List Dec} (h : typesOk ds = true) {k : Nat} (hk : k < ds.length) : consOk ds.length (nthD ds k).cons = true := by
  have := typesOk_at h hk
  unfold decOk at this
  by_cases hp : 0 < (nthD ds k).cons.length
  · rw [if_pos hp] at this; simp only [Bool.and_eq_true] at this; exact this.2.2
  · have hz : (nthD ds k).cons = [] := List.eq_nil_of_length_eq_zero (by omega)
    rw [hz]; rfl
theorem cons_three {ds : List Dec} (h : typesOk ds = true) {k : Nat} (hk : k < ds.length) : (nthD ds k).cons.length ≤ 3 := by
  have := consOk_of h hk; unfold consOk at this; simp only [Bool.and_eq_true, decide_eq_true_eq] at this; exact this.1
theorem con_three {ds : List Dec} (h : typesOk ds = true) {k i : Nat} (hk : k < ds.length) (hi : i < (nthD ds k).cons.length) : (nthL (nthD ds k).cons i).length ≤ 3 := by
  have := consOk_of h hk; unfold consOk at this; simp only [Bool.and_eq_true, decide_eq_true_eq, List.all_eq_true] at this
  rw [nthL_of hi]; exact (this.2 _ (List.getElem_mem hi)).1
theorem cnt_small {ds : List Dec} (h : typesOk ds = true) : ∀ k, k ≤ ds.length → cnt ds k ≤ 3 * k := by
  intro k
  induction k with
  | zero => intro _; rw [cnt_zero]; omega
  | succ k ih => intro hk; rw [cnt_succ (by omega)]; have := ih (by omega); have := cons_three h (k := k) (by omega); omega
theorem cnt_twelve {ds : List Dec} (h : typesOk ds = true) : cnt ds ds.length ≤ 12 := by
  have := cnt_small h _ (Nat.le_refl _); have := typesOk_four h; omega
/-- Is a number a data type? -/
def isDat (ds : List Dec) (t : Int) : Bool := decide (0 < t) && (isTy ds.length t && decide (0 < (nthD ds (t - 1).toNat).cons.length))

/-- What the functions that are called from outside answer. -/
def conCountV (ds : List Dec) : Int := if typesOk ds = true then (cnt ds ds.length : Int) else -1
def conTypeV (ds : List Dec) (c : Int) : Int := if typesOk ds = true then conTy ds c else -1
def arrowV (ds : List Dec) (f t : Int) : Int := if typesOk ds = true then seek ds.length (fun k => isArr f t (nthD ds k)) else -1
def conFieldsV (ds : List Dec) (c : Int) : List Int := if typesOk ds = true ∧ 0 ≤ conTy ds c then flds ds c else []
/-- The constructors of the type k + 1. -/
def consAt (ds : List Dec) (k : Nat) : List Int := (List.range (nthD ds k).cons.length).map fun i : Nat => (cnt ds k : Int) + (i : Int)
def consOfV (ds : List Dec) (t : Int) : List Int := if typesOk ds = true ∧ 1 ≤ t ∧ t ≤ ds.length then consAt ds (t - 1).toNat else []
theorem length_consAt (ds : List Dec) (k : Nat) : (consAt ds k).length = (nthD ds k).cons.length := by simp [consAt]
theorem length_take_nthD {ds : List Dec} {k j : Nat} (h : j < k) : nthD (ds.take k) j = nthD ds j := by
  unfold nthD; simp [List.getD_eq_getElem?_getD, h]

/-- The first k declarations, as a slice of the same row. -/
theorem Decs.cut {w : World} {L U : Nat} {A : Option Addr} {ds : List Dec} {c k : Nat} (h : Decs w L U (.slice A ds.length c) ds) (hk : k ≤ ds.length) : Decs w L U (.slice A k c) (ds.take k) := by
  obtain ⟨A', c', V, e, r, hi⟩ := h
  injection e with e1 e2 e3
  subst e1 e3
  have hl : (ds.take k).length = k := by simp; omega
  refine ⟨A, c, V, by rw [hl], ?_, fun i hik => ?_⟩
  · rw [hl]
    have r' := r.short hk
    refine ⟨r'.le, r'.cap, r'.nil, fun hn => ?_⟩
    obtain ⟨b, o, e, h1, h2, hc⟩ := r'.place hn
    exact ⟨b, o, e, h1, h2, fun i j hi hj => by rw [hc i j hi hj, length_take_nthD hi]⟩
  · rw [hl] at hik
    rw [length_take_nthD hik]
    exact hi i (by omega)
end Go.Proofs.Ytgbeongiejppnaa

/- Contracts of the smallest functions of chapter 1: tests on types. -/
namespace Go.Proofs.Ytgbeongiejppnaa
open Go.RowKit

theorem isType_any (A : Option Addr) (n c : Nat) (t : Int) (w : World) (_hn : n ≤ maxLen) :
    Calls Try.prog 83 #[.slice A n c, .int .i64 t] w fun e w' => e = .returned (.bool (isTy n t)) ∧ w = w' := by
  by_cases h0 : 0 ≤ t
  · by_cases h1 : t ≤ n
    · have e1 : isTy n t = true := by simp [isTy, h0, h1]
      rw [e1]
      go_enter Try.func83, Try.ntmps83
      go_wp2
      go_ret
      exact ⟨rfl, rfl⟩
    · have e1 : isTy n t = false := by simp [isTy, h1]
      rw [e1]
      go_enter Try.func83, Try.ntmps83
      go_wp2
      go_ret
      exact ⟨rfl, rfl⟩
  · have e1 : isTy n t = false := by simp [isTy, h0]
    rw [e1]
    go_enter Try.func83, Try.ntmps83
    go_wp2
    go_ret
    exact ⟨rfl, rfl⟩
theorem isType_is (A : Option Addr) (n c : Nat) (t : Int) (b : Bool) (w : World) (hn : n ≤ maxLen) (h : isTy n t = b) :
    Calls Try.prog 83 #[.slice A n c, .int .i64 t] w fun e w' => e = .returned (.bool b) ∧ w' = w := by
  subst h
  exact (isType_any A n c t w hn).mono fun _ _ h => ⟨h.1, h.2.symm⟩
set_option maxHeartbeats 400000 in
theorem areTypes_any (A : Option Addr) (n c L U : Nat) (xs : List Int) (v : Value) (w : World) (hn : n ≤ maxLen) (hv : Ints w L U v xs) :
    Calls Try.prog 64 #[.slice A n c, v] w fun e w' => e = .returned (.bool (xs.all (isTy n))) ∧ w = w' := by
  obtain ⟨B, d, rfl, hl, hd⟩ := hv.open_
  go_enter Try.func64, Try.ntmps64
  go_wp2_with fail
  go_loop [9] (fun i => ∃ k : Nat, k ≤ xs.length ∧ i = .int .i64 k ∧ Hid ((xs.take k).all (isTy n) = true)) (fun i => xs.length - (intOf i).toNat)
  case atStart => exact ⟨0, by omega, rfl, by simp [Hid]⟩
  case round =>
    obtain ⟨k, hk, rfl, H⟩ := hrel
    by_cases hlt : k < xs.length
    · obtain ⟨b, o, rfl, _, _, hc⟩ := hv.at_ hlt
      go_wp2_with (go_at_call 83; refine (isType_any _ _ _ _ _ hn).mono ?_; rintro e w' ⟨rfl, rfl⟩)
      · go_ret
        exact ⟨ret_bool (all_stop hlt (not_true ‹_›)).symm, rfl⟩
      · exact ⟨⟨k + 1, by omega, by go_num, all_step H hlt (not_false ‹_›)⟩, by simp [intOf]; omega⟩
    · go_wp2_with fail
      go_ret
      exact ⟨ret_bool (all_done H hlt).symm, rfl⟩
theorem inRange_any (a b c : Int) (w : World)  :
    Calls Try.prog 84 #[.int .i64 a, .int .i64 b, .int .i64 c] w fun e w' => e = .returned (.bool (decide (b ≤ a) && decide (a ≤ c))) ∧ w = w' := by
  by_cases h0 : b ≤ a
  · by_cases h1 : a ≤ c
    · rw [show (decide (b ≤ a) && decide (a ≤ c)) = true by simp [h0, h1]]
      go_enter Try.func84, Try.ntmps84
      go_wp2
      go_ret
      exact ⟨rfl, rfl⟩
    · rw [show (decide (b ≤ a) && decide (a ≤ c)) = false by simp [h1]]
      go_enter Try.func84, Try.ntmps84
      go_wp2
      go_ret
      exact ⟨rfl, rfl⟩
  · rw [show (decide (b ≤ a) && decide (a ≤ c)) = false by simp [h0]]
    go_enter Try.func84, Try.ntmps84
    go_wp2
    go_ret
    exact ⟨rfl, rfl⟩
end Go.Proofs.Ytgbeongiejppnaa

/- Contracts of chapter 1: lists of types, constructors, arrow types, counts. -/
namespace Go.Proofs.Ytgbeongiejppnaa
open Go.RowKit
set_option maxHeartbeats 400000 in
theorem allTypes_any (A : Option Addr) (n c L U : Nat) (xs : List Int) (v : Value) (w : World) (hv : Ints w L U v xs) :
    Calls Try.prog 66 #[.slice A n c, v] w fun e w' => e = .returned (.bool (xs.all (isTy n))) ∧ w = w' := by
  obtain ⟨B, d, rfl, hl, hd⟩ := hv.open_
  go_enter Try.func66, Try.ntmps66
  go_wp2_with fail
  go_loop [5] (fun i => ∃ k : Nat, k ≤ xs.length ∧ i = .int .i64 k ∧ Hid ((xs.take k).all (isTy n) = true)) (fun i => xs.length - (intOf i).toNat)
  case atStart => exact ⟨0, by omega, rfl, by simp [Hid]⟩
  case round =>
    obtain ⟨k, hk, rfl, H⟩ := hrel
    by_cases hlt : k < xs.length
    · obtain ⟨b, o, rfl, _, _, hc⟩ := hv.at_ hlt
      go_wp2_with (go_at_call 84; refine (inRange_any _ _ _ _).mono ?_; rintro e w' ⟨rfl, rfl⟩)
      · go_ret
        exact ⟨ret_bool (all_stop hlt (isTy_no ‹_›)).symm, rfl⟩
      · exact ⟨⟨k + 1, by omega, by go_num, all_step H hlt (isTy_yes ‹_›)⟩, by simp [intOf]; omega⟩
    · go_wp2_with fail
      go_ret
      exact ⟨ret_bool (all_done H hlt).symm, rfl⟩
set_option maxHeartbeats 400000 in
theorem validCons_any (A : Option Addr) (n c L U : Nat) (xs : List (List Int)) (v : Value) (w : World) (hn : n ≤ maxLen) (hv : Cons w L U v xs) (hU : U ≤ w.heap.size) :
    Calls Try.prog 103 #[.slice A n c, v] w fun e w' => e = .returned (.bool (consOk n xs)) ∧ Below w.heap.size w w' := by
  obtain ⟨B, d, rfl, hl, hd⟩ := hv.open_
  by_cases h3 : xs.length ≤ 3
  · go_enter Try.func103, Try.ntmps103
    go_wp2_with fail
    go_loopw [12] (fun i wr => ∃ k : Nat, k ≤ xs.length ∧ i = .int .i64 k ∧ Hid ((xs.take k).all (fun c => decide (c.length ≤ 3) && c.all (isTy n)) = true) ∧ Below w.heap.size w wr) (fun i _ => xs.length - (intOf i).toNat)
    case atStart => exact ⟨0, by omega, rfl, by simp [Hid], Below.refl _ _⟩
    case round =>
      obtain ⟨k, hk, rfl, H, hB⟩ := hrel
      have hz := hB.size
      by_cases hlt : k < xs.length
      · obtain ⟨b, o, A', c', rfl, _, _, hc, hu⟩ := (hv.keep (Same.of_below hB hU)).at_ hlt
        have hB1 := hB.alloc hz (.cells #[.slice A' (xs[k]).length c'] 32)
        have hu1 := hu.keep (Same.of_below (Below.alloc (Below.refl _ _) (Nat.le_refl _) (.cells #[.slice A' (xs[k]).length c'] 32)) (by omega))
        clear hu hv
        by_cases hk3 : (xs[k]).length ≤ 3
        · go_wp2_with (go_at_call 64; refine (areTypes_any _ _ _ _ _ _ _ _ hn hu1).mono ?_; rintro e w' ⟨rfl, rfl⟩)
          · go_ret
            exact ⟨ret_bool (by rw [consOk, all_stop hlt (con_no (by assumption)), Bool.and_false]), hB1⟩
          · go_roundw
            case rel => exact ⟨k + 1, by omega, by go_num, all_step H hlt (con_yes (by assumption)), hB1⟩
            case measure => simp [intOf]; omega
        · go_wp2_with fail
          go_ret
          exact ⟨ret_bool (by rw [consOk, all_stop hlt (by simp [hk3]), Bool.and_false]), hB1⟩
      · go_wp2_with fail
        go_ret
        exact ⟨ret_bool (by rw [consOk, all_done H hlt]; simp [h3]), hB⟩
  · go_enter Try.func103, Try.ntmps103
    go_wp2_with fail
    go_ret
    exact ⟨ret_bool (by simp [consOk, h3]), Below.refl _ _⟩
set_option maxHeartbeats 400000 in
theorem arrowBetween_any (f t : Int) (L U : Nat) (ds : List Dec) (v : Value) (w : World) (hv : Decs w L U v ds) (hU : U ≤ w.heap.size) :
    Calls Try.prog 104 #[v, .int .i64 f, .int .i64 t] w fun e w' => e = .returned (.int .i64 (seek ds.length fun k => isArr f t (nthD ds k))) ∧ Below w.heap.size w w' := by
  obtain ⟨B, d, rfl, hl, hd⟩ := hv.open_
  go_enter Try.func104, Try.ntmps104
  go_wp2_with fail
  go_loopw [11] (fun i wr => ∃ k : Nat, k ≤ ds.length ∧ i = .int .i64 k ∧ Hid (∀ j, j < k → isArr f t (nthD ds j) = false) ∧ Below w.heap.size w wr) (fun i _ => ds.length - (intOf i).toNat)
  case atStart => exact ⟨0, by omega, rfl, before_zero, Below.refl _ _⟩
  case round =>
    obtain ⟨k, hk, rfl, H, hB⟩ := hrel
    have hz := hB.size
    by_cases hlt : k < ds.length
    · obtain ⟨b, o, A', c', rfl, _, _, hc0, hc1, hc2, hu⟩ := (hv.keep (Same.of_below hB hU)).at_ hlt
      clear hu hv
      go_wp2_with fail
      · go_ret
        exact ⟨ret_int (seek_hit H hlt (isArr_yes ‹_› ‹_› ‹_›)).symm, hB.alloc hz _⟩
      · go_roundw
        case rel => exact ⟨k + 1, by omega, by go_num, before_step H (isArr_no fun _ _ => ‹_›), hB.alloc hz _⟩
        case measure => simp [intOf]; omega
      · go_roundw
        case rel => exact ⟨k + 1, by omega, by go_num, before_step H (isArr_no fun _ h => absurd h ‹_›), hB.alloc hz _⟩
        case measure => simp [intOf]; omega
      · go_roundw
        case rel => exact ⟨k + 1, by omega, by go_num, before_step H (isArr_no fun h => absurd h ‹_›), hB.alloc hz _⟩
        case measure => simp [intOf]; omega
    · go_wp2_with fail
      go_ret
      exact ⟨ret_int (seek_none H hlt).symm, hB⟩
set_option maxHeartbeats 400000 in
theorem arrowOf_any (f t : Int) (L U : Nat) (ds : List Dec) (v : Value) (w : World) (hv : Decs w L U v ds) :
    Calls Try.prog 125 #[v, .int .i64 f, .int .i64 t] w fun e w' => e = .returned (.int .i64 (seek ds.length fun k => isArr f t (nthD ds k))) ∧ w = w' := by
  obtain ⟨B, d, rfl, hl, hd⟩ := hv.open_
  go_enter Try.func125, Try.ntmps125
  go_wp2_with fail
  go_loop [7] (fun i => ∃ k : Nat, k ≤ ds.length ∧ i = .int .i64 k ∧ Hid (∀ j, j < k → isArr f t (nthD ds j) = false)) (fun i => ds.length - (intOf i).toNat)
  case atStart => exact ⟨0, by omega, rfl, before_zero⟩
  case round =>
    obtain ⟨k, hk, rfl, H⟩ := hrel
    by_cases hlt : k < ds.length
    · obtain ⟨b, o, A', c', rfl, _, _, hc0, hc1, hc2, hu⟩ := hv.at_ hlt
      clear hu hv
      go_wp2_with fail
      · go_ret
        exact ⟨ret_int (seek_hit H hlt (isArr_yes ‹_› ‹_› ‹_›)).symm, rfl⟩
      · exact ⟨⟨k + 1, by omega, by go_num, before_step H (isArr_no fun _ _ => ‹_›)⟩, by simp [intOf]; omega⟩
      · exact ⟨⟨k + 1, by omega, by go_num, before_step H (isArr_no fun _ h => absurd h ‹_›)⟩, by simp [intOf]; omega⟩
      · exact ⟨⟨k + 1, by omega, by go_num, before_step H (isArr_no fun h => absurd h ‹_›)⟩, by simp [intOf]; omega⟩
    · go_wp2_with fail
      go_ret
      exact ⟨ret_int (seek_none H hlt).symm, rfl⟩
set_option maxHeartbeats 400000 in
theorem countCons_any (L U : Nat) (ds : List Dec) (v : Value) (w : World) (hv : Decs w L U v ds) (hU : U ≤ w.heap.size) (hb : cnt ds ds.length ≤ 4611686018427387904) :
    Calls Try.prog 144 #[v] w fun e w' => e = .returned (.int .i64 (cnt ds ds.length)) ∧ Below w.heap.size w w' := by
  obtain ⟨B, d, rfl, hl, hd⟩ := hv.open_
  go_enter Try.func144, Try.ntmps144
  go_wp2_with fail
  go_loopw [3, 8] (fun m i wr => ∃ k : Nat, k ≤ ds.length ∧ i = .int .i64 k ∧ m = .int .i64 (cnt ds k) ∧ Below w.heap.size w wr) (fun _ i _ => ds.length - (intOf i).toNat)
  case atStart => exact ⟨0, by omega, rfl, by rw [cnt_zero]; rfl, Below.refl _ _⟩
  case round =>
    obtain ⟨k, hk, rfl, rfl, hB⟩ := hrel
    have hz := hB.size
    by_cases hlt : k < ds.length
    · obtain ⟨b, o, A', c', rfl, _, _, hc0, hc1, hc2, hu⟩ := (hv.keep (Same.of_below hB hU)).at_ hlt
      have hB1 := hB.alloc hz (.cells #[.int .i64 (nthD ds k).frm, .int .i64 (nthD ds k).to, .slice A' (nthD ds k).cons.length c'] 30)
      clear hu hv
      have hs := cnt_succ hlt
      have hm := cnt_mono ds (i := k + 1) (j := ds.length) (by omega)
      have hz : cnt ds k + (nthD ds k).cons.length ≤ 4611686018427387904 := by omega
      have HS := Lib.hid hs
      clear hs hm
      go_wp2_with fail
      go_roundw
      case rel => exact ⟨k + 1, by omega, by go_num, by rw [HS.out]; go_num, hB1⟩
      case measure => simp [intOf]; omega
    · go_wp2_with fail
      go_ret
      exact ⟨ret_int (by rw [show k = ds.length by omega]), hB⟩
end Go.Proofs.Ytgbeongiejppnaa

/- Contracts of chapter 1: counts and places of constructors. -/
namespace Go.Proofs.Ytgbeongiejppnaa
open Go.RowKit
set_option maxHeartbeats 400000 in
theorem sFirstCon_any (L U : Nat) (ds : List Dec) (v : Value) (at_ : Nat) (w : World) (hv : Decs w L U v ds) (ha : at_ ≤ ds.length) (hb : cnt ds ds.length ≤ 4611686018427387904) :
    Calls Try.prog 123 #[v, .int .i64 at_] w fun e w' => e = .returned (.int .i64 (cnt ds at_)) ∧ w = w' := by
  obtain ⟨B, d, rfl, hl, hd⟩ := hv.open_
  go_enter Try.func123, Try.ntmps123
  go_wp2_with fail
  go_loop [5, 6] (fun m i => ∃ k : Nat, k ≤ at_ ∧ i = .int .i64 k ∧ m = .int .i64 (cnt ds k)) (fun _ i => at_ - (intOf i).toNat)
  case atStart => exact ⟨0, by omega, rfl, by rw [cnt_zero]; rfl⟩
  case round =>
    obtain ⟨k, hk, rfl, rfl⟩ := hrel
    by_cases hlt : k < at_
    · have hlt' : k < ds.length := by omega
      obtain ⟨b, o, A', c', rfl, _, _, hc0, hc1, hc2, hu⟩ := hv.at_ hlt'
      clear hu hv
      have hs := cnt_succ hlt'
      have hm := cnt_mono ds (i := k + 1) (j := ds.length) (by omega)
      have hz : cnt ds k + (nthD ds k).cons.length ≤ 4611686018427387904 := by omega
      have HS := Lib.hid hs
      clear hs hm
      go_wp2_with fail
      exact ⟨⟨k + 1, by omega, by go_num, by rw [HS.out]; go_num⟩, by simp [intOf]; omega⟩
    · go_wp2_with fail
      go_ret
      exact ⟨ret_int (by rw [show k = at_ by omega]), rfl⟩
set_option maxHeartbeats 400000 in
theorem isData_any (t : Int) (L U : Nat) (ds : List Dec) (v : Value) (w : World) (hv : Decs w L U v ds) :
    Calls Try.prog 116 #[v, .int .i64 t] w fun e w' => e = .returned (.bool (isDat ds t)) ∧ w = w' := by
  obtain ⟨B, d, rfl, hl, hd⟩ := hv.open_
  by_cases h : 0 < t
  · by_cases h2 : t ≤ ds.length
    · obtain ⟨b, o, A', c', rfl, _, _, hc0, hc1, hc2, hu⟩ := hv.at_ (k := (t - 1).toNat) (by omega)
      clear hu hv
      obtain ⟨k, rfl⟩ : ∃ k : Nat, t = k + 1 := ⟨(t - 1).toNat, by omega⟩
      have hk : ((k : Int) + 1 - 1).toNat = k := by omega
      rw [hk] at hc0 hc1 hc2
      clear hk
      have ht : isTy ds.length ((k : Int) + 1) = true := by simp [isTy, h2]; omega
      have hD : isDat ds ((k : Int) + 1) = decide (0 < (nthD ds k).cons.length) := by
        unfold isDat; rw [ht, show ((k : Int) + 1 - 1).toNat = k by omega, decide_eq_true h]; simp
      rw [hD]
      clear hD
      have HT := Lib.hid ht
      clear ht
      go_enter Try.func116, Try.ntmps116
      go_wp2_with (go_at_call 83; refine (isType_any _ _ _ _ _ (by unfold maxLen; omega)).mono ?_; rintro e w' ⟨rfl, rfl⟩; rw [HT.out])
      go_ret
      exact ⟨ret_bool (by first | rfl | (rw [decide_eq_decide]; omega)), rfl⟩
    · have ht : isTy ds.length t = false := by simp [isTy, h2]
      rw [show isDat ds t = false by simp [isDat, ht]]
      have HT := Lib.hid ht
      clear ht
      go_enter Try.func116, Try.ntmps116
      go_wp2_with (go_at_call 83; refine (isType_any _ _ _ _ _ (by unfold maxLen; omega)).mono ?_; rintro e w' ⟨rfl, rfl⟩; rw [HT.out])
      go_ret
      exact ⟨rfl, rfl⟩
  · rw [show isDat ds t = false by simp [isDat, h]]
    go_enter Try.func116, Try.ntmps116
    go_wp2_with fail
    go_ret
    exact ⟨rfl, rfl⟩
set_option maxHeartbeats 400000 in
theorem firstCon_any (k : Nat) (L U : Nat) (ds : List Dec) (v : Value) (w : World) (hv : Decs w L U v ds) (hU : U ≤ w.heap.size) (hk : k < ds.length) (hb : cnt ds ds.length ≤ 4611686018427387904) :
    Calls Try.prog 143 #[v, .int .i64 (k + 1)] w fun e w' => e = .returned (.int .i64 (cnt ds k)) ∧ Below w.heap.size w w' := by
  obtain ⟨B, d, rfl, hl, hd⟩ := hv.open_
  obtain ⟨b, o, A', c', rfl, _, _, hc0, hc1, hc2, hu⟩ := hv.at_ hk
  clear hu hc0 hc1 hc2
  have hv2 := hv.cut (k := k) (by omega)
  have hm := cnt_mono ds (i := k) (j := ds.length) (by omega)
  have hcut : cnt (ds.take k) (ds.take k).length = cnt ds k := by rw [show (ds.take k).length = k by simp; omega, cnt_take ds (Nat.le_refl k)]
  have C := countCons_any L U (ds.take k) _ w hv2 hU (by rw [hcut]; omega)
  rw [hcut] at C
  clear hv hv2 hm hcut
  have H := Lib.hid C
  clear C
  go_enter Try.func143, Try.ntmps143
  go_wp2_with fail
  refine H.out.mono ?_
  rintro e w' ⟨rfl, hB⟩
  go_wp2_with fail
  go_ret
  exact ⟨rfl, hB⟩
set_option maxHeartbeats 400000 in
theorem typeOfCon_any (c : Int) (L U : Nat) (ds : List Dec) (v : Value) (w : World) (hv : Decs w L U v ds) (hU : U ≤ w.heap.size) (hb : cnt ds ds.length ≤ 4611686018427387904) :
    Calls Try.prog 136 #[v, .int .i64 c] w fun e w' => e = .returned (.int .i64 (conTy ds c)) ∧ Below w.heap.size w w' := by
  obtain ⟨B, d, rfl, hl, hd⟩ := hv.open_
  go_enter Try.func136, Try.ntmps136
  go_wp2_with fail
  go_loopw [5, 10] (fun m i wr => ∃ k : Nat, k ≤ ds.length ∧ i = .int .i64 k ∧ m = .int .i64 (cnt ds k) ∧ Hid (∀ j, j < k → (decide ((cnt ds j : Int) ≤ c) && decide (c < (cnt ds (j + 1) : Int))) = false) ∧ Below w.heap.size w wr) (fun _ i _ => ds.length - (intOf i).toNat)
  case atStart => exact ⟨0, by omega, rfl, by rw [cnt_zero]; rfl, before_zero, Below.refl _ _⟩
  case round =>
    obtain ⟨k, hk, rfl, rfl, H, hB⟩ := hrel
    have hz := hB.size
    by_cases hlt : k < ds.length
    · obtain ⟨b, o, A', c', rfl, _, _, hc0, hc1, hc2, hu⟩ := (hv.keep (Same.of_below hB hU)).at_ hlt
      clear hu hv
      have hs := cnt_succ hlt
      have hm := cnt_mono ds (i := k + 1) (j := ds.length) (by omega)
      have hx : cnt ds k + (nthD ds k).cons.length ≤ 4611686018427387904 := by omega
      have HS := Lib.hid hs
      clear hs hm
      by_cases h1 : (cnt ds k : Int) ≤ c
      · by_cases h2 : c < (cnt ds k : Int) + ((nthD ds k).cons.length : Int)
        · go_wp2_with fail
          go_ret
          exact ⟨ret_int (seek_hit H hlt (inCon_yes hlt h1 h2)).symm, hB.alloc hz _⟩
        · go_wp2_with fail
          go_roundw
          case rel => exact ⟨k + 1, by omega, by go_num, by rw [HS.out]; go_num, before_step H (inCon_no hlt fun _ => by omega), hB.alloc hz _⟩
          case measure => simp [intOf]; omega
      · go_wp2_with fail
        go_roundw
        case rel => exact ⟨k + 1, by omega, by go_num, by rw [HS.out]; go_num, before_step H (inCon_no hlt fun h => by omega), hB.alloc hz _⟩
        case measure => simp [intOf]; omega
    · go_wp2_with fail
      go_ret
      exact ⟨ret_int (seek_none H hlt).symm, hB⟩
set_option maxHeartbeats 400000 in
theorem conType_any (c : Int) (L U : Nat) (ds : List Dec) (v : Value) (w : World) (hv : Decs w L U v ds) (hb : cnt ds ds.length ≤ 4611686018427387904) :
    Calls Try.prog 97 #[v, .int .i64 c] w fun e w' => e = .returned (.int .i64 (conTy ds c)) ∧ w = w' := by
  obtain ⟨B, d, rfl, hl, hd⟩ := hv.open_
  go_enter Try.func97, Try.ntmps97
  go_wp2_with fail
  go_loop [5] (fun i => ∃ k : Nat, k ≤ ds.length ∧ i = .int .i64 k ∧ Hid (∀ j, j < k → (decide ((cnt ds j : Int) ≤ c) && decide (c < (cnt ds (j + 1) : Int))) = false)) (fun i => ds.length - (intOf i).toNat)
  case atStart => exact ⟨0, by omega, rfl, before_zero⟩
  case round =>
    obtain ⟨k, hk, rfl, H⟩ := hrel
    by_cases hlt : k < ds.length
    · obtain ⟨b, o, A', c', rfl, _, _, hc0, hc1, hc2, hu⟩ := hv.at_ hlt
      clear hu
      have hs := cnt_succ hlt
      have hm := cnt_mono ds (i := k + 1) (j := ds.length) (by omega)
      have hx : cnt ds k + (nthD ds k).cons.length ≤ 4611686018427387904 := by omega
      have HS := Lib.hid hs
      clear hs hm
      by_cases h1 : (cnt ds k : Int) ≤ c
      · by_cases h2 : c < (cnt ds k : Int) + ((nthD ds k).cons.length : Int)
        · go_wp2_with (first | (go_at_call 123; refine (sFirstCon_any _ _ _ _ _ _ hv hk hb).mono ?_; rintro e w' ⟨rfl, rfl⟩) | (go_at_call 84; refine (inRange_any _ _ _ _).mono ?_; rintro e w' ⟨rfl, rfl⟩))
          go_ret
          exact ⟨ret_int (seek_hit H hlt (inCon_yes hlt h1 h2)).symm, rfl⟩
        · go_wp2_with (first | (go_at_call 123; refine (sFirstCon_any _ _ _ _ _ _ hv hk hb).mono ?_; rintro e w' ⟨rfl, rfl⟩) | (go_at_call 84; refine (inRange_any _ _ _ _).mono ?_; rintro e w' ⟨rfl, rfl⟩))
          exact ⟨⟨k + 1, by omega, by go_num, before_step H (inCon_no hlt fun _ => by omega)⟩, by simp [intOf]; omega⟩
      · go_wp2_with (first | (go_at_call 123; refine (sFirstCon_any _ _ _ _ _ _ hv hk hb).mono ?_; rintro e w' ⟨rfl, rfl⟩) | (go_at_call 84; refine (inRange_any _ _ _ _).mono ?_; rintro e w' ⟨rfl, rfl⟩))
        exact ⟨⟨k + 1, by omega, by go_num, before_step H (inCon_no hlt fun _ => by omega)⟩, by simp [intOf]; omega⟩
    · go_wp2_with fail
      go_ret
      exact ⟨ret_int (seek_none H hlt).symm, rfl⟩
theorem arrowCut_any (f t : Int) (k L U : Nat) (ds : List Dec) (A : Option Addr) (d : Nat) (w : World) (hv : Decs w L U (.slice A ds.length d) ds) (hU : U ≤ w.heap.size) (hk : k ≤ ds.length) :
    Calls Try.prog 104 #[.slice A k d, .int .i64 f, .int .i64 t] w fun e w' => e = .returned (.int .i64 (seek k fun j => isArr f t (nthD ds j))) ∧ Below w.heap.size w w' := by
  have C := arrowBetween_any f t L U (ds.take k) _ w (hv.cut hk) hU
  rw [show (ds.take k).length = k by simp; omega, seek_congr (R := fun j => isArr f t (nthD ds j)) (fun j hj => by rw [length_take_nthD hj])] at C
  exact C
set_option maxHeartbeats 400000 in
theorem validDecl_any (k : Nat) (L U : Nat) (ds : List Dec) (v : Value) (w : World) (hv : Decs w L U v ds) (hU : U ≤ w.heap.size) (hk : k < ds.length) :
    Calls Try.prog 75 #[v, .int .i64 k] w fun e w' => e = .returned (.bool (decOk ds k)) ∧ Below w.heap.size w w' := by
  obtain ⟨B, d, rfl, hl, hd⟩ := hv.open_
  obtain ⟨b, o, A', c', rfl, _, _, hc0, hc1, hc2, hu⟩ := hv.at_ hk
  have hn : ds.length ≤ maxLen := by unfold maxLen; omega
  have Hu := Lib.hid fun O => hu.keep (Same.of_below ((Below.refl w.heap.size w).alloc (Nat.le_refl _) O) hU)
  have Hv := Lib.hid fun O => hv.keep (Same.of_below ((Below.refl w.heap.size w).alloc (Nat.le_refl _) O).drew hU)
  have HB := Lib.hid fun O => (Below.refl w.heap.size w).alloc (Nat.le_refl _) O
  have i0 : (0 : Int) ≤ (k : Int) := by omega
  have i1 : (k : Int) ≤ (ds.length : Int) := by omega
  have i2 : (k : Int) ≤ (d : Int) := by omega
  clear hu hv
  by_cases hp : 0 < (nthD ds k).cons.length
  · have hdO : decOk ds k = (decide ((nthD ds k).frm = 0) && (decide ((nthD ds k).to = 0) && consOk ds.length (nthD ds k).cons)) := by unfold decOk; rw [if_pos hp]
    have HD := Lib.hid hdO
    clear hdO
    go_enter Try.func75, Try.ntmps75
    go_wp2_with (go_at_call 103; refine (validCons_any _ _ _ _ _ _ _ _ hn (Hu.out _) (by simp; omega)).mono ?_; rintro e w' ⟨rfl, hB⟩)
    · go_ret
      exact ⟨ret_bool (by rw [HD.out]; simp [*]), (HB.out _).trans (hB.mono (by simp))⟩
    · go_ret
      exact ⟨ret_bool (by rw [HD.out]; simp [*]), HB.out _⟩
    · go_ret
      exact ⟨ret_bool (by rw [HD.out]; simp [*]), HB.out _⟩
  · have hdO : decOk ds k = (isTy ds.length (nthD ds k).frm && (isTy ds.length (nthD ds k).to && decide (seek k (fun j => isArr (nthD ds k).frm (nthD ds k).to (nthD ds j)) < 0))) := by unfold decOk; rw [if_neg hp]
    have HD := Lib.hid hdO
    clear hdO
    obtain ⟨bf, hf⟩ : ∃ b, isTy ds.length (nthD ds k).frm = b := ⟨_, rfl⟩
    obtain ⟨bt, ht⟩ : ∃ b, isTy ds.length (nthD ds k).to = b := ⟨_, rfl⟩
    have HF := Lib.hid hf
    have HT := Lib.hid ht
    clear hf ht
    by_cases hbb : bf = true ∧ bt = true
    · obtain ⟨rfl, rfl⟩ := hbb
      go_enter Try.func75, Try.ntmps75
      go_wp2_with fail
      go_region_held3 (fun w' => w'.cell? ⟨w.heap.size, 0, none⟩ = some (.int .i64 (nthD ds k).frm) ∧ w'.cell? ⟨w.heap.size, 1, none⟩ = some (.int .i64 (nthD ds k).to))
        (first | go_keep | (exact ⟨(hB.cell (by simp)).trans (by simp), (hB.cell (by simp)).trans (by simp)⟩))
        (first | (go_at_call_of 83 (Value.int .i64 (nthD ds k).frm); refine (isType_is _ _ _ _ _ _ hn HF.out).mono ?_; rintro e w' ⟨rfl, rfl⟩) | (go_at_call_of 83 (Value.int .i64 (nthD ds k).to); refine (isType_is _ _ _ _ _ _ hn HT.out).mono ?_; rintro e w' ⟨rfl, rfl⟩) | (go_at_call 104; refine (arrowCut_any _ _ _ _ _ _ _ _ _ (Hv.out _) (by simp; omega) (by omega)).mono ?_; rintro e w' ⟨rfl, hB⟩))
      go_wp2
      go_ret
      exact ⟨ret_bool (by rw [HD.out, HF.out, HT.out]; simp), (HB.out _).drew.trans (hB.mono (by simp))⟩
    · have hcase : bf = false ∨ (bf = true ∧ bt = false) := by cases bf <;> cases bt <;> simp at hbb ⊢
      clear hbb
      rcases hcase with rfl | ⟨rfl, rfl⟩
      · go_enter Try.func75, Try.ntmps75
        go_wp2_with fail
        go_quiet ((go_at_call_of 83 (Value.int .i64 (nthD ds k).frm); exact Calls.quiet_of_same (isType_is _ _ _ _ _ _ hn HF.out)))
        go_wp2
        go_ret
        exact ⟨ret_bool (by rw [HD.out, HF.out]; rfl), below_drewN (HB.out _) _⟩
      · go_enter Try.func75, Try.ntmps75
        go_wp2_with fail
        go_quiet ((first | (go_at_call_of 83 (Value.int .i64 (nthD ds k).frm); exact Calls.quiet_of_same (isType_is _ _ _ _ _ _ hn HF.out)) | (go_at_call_of 83 (Value.int .i64 (nthD ds k).to); exact Calls.quiet_of_same (isType_is _ _ _ _ _ _ hn HT.out))))
        go_wp2
        go_ret
        exact ⟨ret_bool (by rw [HD.out, HF.out, HT.out]; rfl), below_drewN (HB.out _) _⟩
end Go.Proofs.Ytgbeongiejppnaa

/- Contracts of chapter 1: valid declarations. -/
namespace Go.Proofs.Ytgbeongiejppnaa
open Go.RowKit
set_option maxHeartbeats 400000 in
theorem validTypes_any (L U : Nat) (ds : List Dec) (v : Value) (w : World) (hv : Decs w L U v ds) (hU : U ≤ w.heap.size) :
    Calls Try.prog 47 #[v] w fun e w' => e = .returned (.bool (typesOk ds)) ∧ Below w.heap.size w w' := by
  obtain ⟨B, d, rfl, hl, hd⟩ := hv.open_
  by_cases h4 : ds.length ≤ 4
  · have hT : typesOk ds = upTo ds.length (decOk ds) := by simp [typesOk, h4]
    have HT := Lib.hid hT
    clear hT
    go_enter Try.func47, Try.ntmps47
    go_wp2_with fail
    go_loopw [9] (fun i wr => ∃ k : Nat, k ≤ ds.length ∧ i = .int .i64 k ∧ Hid (∀ j, j < k → decOk ds j = true) ∧ Below w.heap.size w wr) (fun i _ => ds.length - (intOf i).toNat)
    case atStart => exact ⟨0, by omega, rfl, before_zero, Below.refl _ _⟩
    case round =>
      obtain ⟨k, hk, rfl, H, hB⟩ := hrel
      have hz := hB.size
      by_cases hlt : k < ds.length
      · have hv1 := hv.keep (Same.of_below hB hU)
        have hU1 : U ≤ wr.heap.size := by omega
        go_wp2_with (go_at_call 75; refine (validDecl_any _ _ _ _ _ _ hv1 hU1 hlt).mono ?_; rintro e w' ⟨rfl, hB2⟩)
        · go_ret
          exact ⟨ret_bool (by rw [HT.out, upTo_stop hlt (not_true ‹_›)]), hB.trans (hB2.mono hz)⟩
        · go_roundw
          case rel => exact ⟨k + 1, by omega, by go_num, before_step H (not_false ‹_›), hB.trans (hB2.mono hz)⟩
          case measure => simp [intOf]; omega
      · go_wp2_with fail
        go_ret
        exact ⟨ret_bool (by rw [HT.out, upTo_done H hlt]), hB⟩
  · go_enter Try.func47, Try.ntmps47
    go_wp2_with fail
    go_ret
    exact ⟨ret_bool (by simp [typesOk, h4]), Below.refl _ _⟩
set_option maxHeartbeats 400000 in
theorem sValidDecl_any (k : Nat) (L U : Nat) (ds : List Dec) (v : Value) (w : World) (hv : Decs w L U v ds) (hU : U ≤ w.heap.size) (hk : k < ds.length) :
    Calls Try.prog 78 #[v, .int .i64 k] w fun e w' => e = .returned (.bool (decOk ds k)) ∧ Below w.heap.size w w' := by
  obtain ⟨B, d, rfl, hl, hd⟩ := hv.open_
  obtain ⟨b, o, A', c', rfl, _, _, hc0, hc1, hc2, hu⟩ := hv.at_ hk
  have i0 : (0 : Int) ≤ (k : Int) := by omega
  have i1 : (k : Int) ≤ (ds.length : Int) := by omega
  have HB := Lib.hid fun O => (Below.refl w.heap.size w).alloc (Nat.le_refl _) O
  by_cases hp : 0 < (nthD ds k).cons.length
  · have hdO : decOk ds k = (decide ((nthD ds k).frm = 0) && (decide ((nthD ds k).to = 0) && consOk ds.length (nthD ds k).cons)) := by unfold decOk; rw [if_pos hp]
    have HD := Lib.hid hdO
    clear hdO
    by_cases h3 : (nthD ds k).cons.length ≤ 3
    · by_cases hf : (nthD ds k).frm = 0
      · have hfb : ((nthD ds k).frm != 0) = false := by simp [hf]
        have HF := Lib.hid hf
        clear hf
        by_cases ht : (nthD ds k).to = 0
        · have htb : ((nthD ds k).to != 0) = false := by simp [ht]
          have HTo := Lib.hid ht
          clear ht
          go_enter Try.func78, Try.ntmps78
          go_wp2_with fail
          go_loop [6] (fun i => ∃ j : Nat, j ≤ (nthD ds k).cons.length ∧ i = .int .i64 j ∧ Hid (((nthD ds k).cons.take j).all (fun c => decide (c.length ≤ 3) && c.all (isTy ds.length)) = true)) (fun i => (nthD ds k).cons.length - (intOf i).toNat)
          case atStart => exact ⟨0, by omega, rfl, by simp [Hid]⟩
          case round =>
            obtain ⟨j, hj, rfl, H⟩ := hrel
            by_cases hlt : j < (nthD ds k).cons.length
            · obtain ⟨b2, o2, A2, c2, rfl, _, hb2, hc, hx⟩ := hu.at_ hlt
              have hb2' : b2 < w.heap.size := by omega
              have Hx := Lib.hid fun O => hx.keep (Same.of_below ((Below.refl w.heap.size w).alloc (Nat.le_refl _) O) hU)
              clear hx
              go_wp2_with (go_at_call 66; refine (allTypes_any _ _ _ _ _ _ _ _ (Hx.out _)).mono ?_; rintro e w' ⟨rfl, rfl⟩)
              · go_ret
                exact ⟨ret_bool (by rw [HD.out, consOk, all_stop hlt (con_no (by assumption))]; simp), HB.out _⟩
              · exact ⟨⟨j + 1, by omega, by go_num, all_step H hlt (con_yes (by assumption))⟩, by simp [intOf]; omega⟩
              · go_ret
                exact ⟨ret_bool (by rw [HD.out, consOk, all_stop hlt (con_no (.inl (by assumption)))]; simp), HB.out _⟩
            · go_wp2_with fail
              go_ret
              exact ⟨ret_bool (by rw [HD.out, consOk, all_done H hlt, HF.out, HTo.out]; simp [h3]), HB.out _⟩
        · have htb : ((nthD ds k).to != 0) = true := by simp [ht]
          go_enter Try.func78, Try.ntmps78
          go_wp2_with fail
          go_ret
          exact ⟨ret_bool (by rw [HD.out]; simp [ht]), HB.out _⟩
      · have hfb : ((nthD ds k).frm != 0) = true := by simp [hf]
        go_enter Try.func78, Try.ntmps78
        go_wp2_with fail
        go_ret
        exact ⟨ret_bool (by rw [HD.out]; simp [hf]), HB.out _⟩
    · go_enter Try.func78, Try.ntmps78
      go_wp2_with fail
      go_ret
      exact ⟨ret_bool (by rw [HD.out]; simp [consOk, h3]), HB.out _⟩
  · have hdO : decOk ds k = (isTy ds.length (nthD ds k).frm && (isTy ds.length (nthD ds k).to && decide (seek k (fun j => isArr (nthD ds k).frm (nthD ds k).to (nthD ds j)) < 0))) := by unfold decOk; rw [if_neg hp]
    have HD := Lib.hid hdO
    clear hdO
    clear hu
    go_enter Try.func78, Try.ntmps78
    go_wp2_with fail
    go_loopw [7] (fun i wr => ∃ j m : Nat, j ≤ k ∧ i = .int .i64 j ∧ Hid (∀ x, x < j → isArr (nthD ds k).frm (nthD ds k).to (nthD ds x) = false) ∧ wr = (w.alloc (.cells #[.int .i64 (nthD ds k).frm, .int .i64 (nthD ds k).to, .slice A' (nthD ds k).cons.length c'] 30)).drewN m) (fun i _ => k - (intOf i).toNat)
    case atStart => exact ⟨0, 0, by omega, rfl, before_zero, rfl⟩
    case round =>
      obtain ⟨j, m, hj, rfl, H, rfl⟩ := hrel
      by_cases hlt : j < k
      · have hjl : j < ds.length := by omega
        obtain ⟨b2, o2, A2, c2, hA2, _, hb2, e0, e1, e2, _⟩ := hv.at_ hjl
        injection hA2 with hA2
        injection hA2 with hA3 hA4
        subst hA3 hA4
        have hb2' : b < w.heap.size := by omega
        by_cases g0 : (nthD ds j).cons.length = 0
        · have g0b : (((nthD ds j).cons.length : Int) == 0) = true := by simp [g0]
          by_cases g1 : (nthD ds j).frm = (nthD ds k).frm
          · have g1b : ((nthD ds j).frm == (nthD ds k).frm) = true := by simp [g1]
            by_cases g2 : (nthD ds j).to = (nthD ds k).to
            · have g2b : ((nthD ds j).to == (nthD ds k).to) = true := by simp [g2]
              have HG := Lib.hid (isArr_yes (List.eq_nil_of_length_eq_zero g0) g1 g2b)
              clear g0 g1 g2
              go_wp2_with fail
              go_quiet (fail)
              go_wp2_with fail
              go_ret
              exact ⟨ret_bool (by rw [HD.out, seek_hit H hlt HG.out, decide_eq_false (by omega), Bool.and_false, Bool.and_false]), below_drewN (below_drewN (HB.out _) _) _⟩
            · have g2b : ((nthD ds j).to == (nthD ds k).to) = false := by simp [g2]
              have HG := Lib.hid (isArr_no (d := nthD ds j) (f := (nthD ds k).frm) (t := (nthD ds k).to) fun _ _ => g2b)
              clear g0 g1 g2
              go_wp2_with fail
              go_quiet (fail)
              go_wp2_with fail
              go_roundw
              case rel => exact ⟨j + 1, _, by omega, by go_num, before_step H HG.out, rfl⟩
              case measure => simp [intOf]; omega
          · have g1b : ((nthD ds j).frm == (nthD ds k).frm) = false := by simp [g1]
            have HG := Lib.hid (isArr_no (d := nthD ds j) (f := (nthD ds k).frm) (t := (nthD ds k).to) fun _ h => absurd h g1)
            clear g0 g1
            go_wp2_with fail
            go_quiet (fail)
            go_wp2_with fail
            go_roundw
            case rel => exact ⟨j + 1, _, by omega, by go_num, before_step H HG.out, rfl⟩
            case measure => simp [intOf]; omega
        · have g0b : (((nthD ds j).cons.length : Int) == 0) = false := by simp; exact fun h => g0 (by simp [h])
          have HG := Lib.hid (isArr_no (d := nthD ds j) (f := (nthD ds k).frm) (t := (nthD ds k).to) fun h => absurd (List.length_eq_zero_iff.2 h) g0)
          clear g0
          go_wp2_with fail
          go_quiet (fail)
          go_wp2_with fail
          go_roundw
          case rel => exact ⟨j + 1, _, by omega, by go_num, before_step H HG.out, rfl⟩
          case measure => simp [intOf]; omega
      · clear hv
        have HS := Lib.hid (seek_none (n := k) H hlt)
        go_wp2_with (go_at_call 84; refine (inRange_any _ _ _ _).mono ?_; rintro e w' ⟨rfl, rfl⟩)
        · go_ret
          exact ⟨ret_bool (by rw [HD.out, HS.out]; simp [isTy, *]), below_drewN (HB.out _) _⟩
        · go_ret
          exact ⟨ret_bool (by rw [HD.out, HS.out]; simp [isTy]; omega), below_drewN (HB.out _) _⟩
set_option maxHeartbeats 400000 in
theorem sValidTypes_any (L U : Nat) (ds : List Dec) (v : Value) (w : World) (hv : Decs w L U v ds) (hU : U ≤ w.heap.size) :
    Calls Try.prog 49 #[v] w fun e w' => e = .returned (.bool (typesOk ds)) ∧ Below w.heap.size w w' := by
  obtain ⟨B, d, rfl, hl, hd⟩ := hv.open_
  by_cases h4 : ds.length ≤ 4
  · have hT : typesOk ds = upTo ds.length (decOk ds) := by simp [typesOk, h4]
    have HT := Lib.hid hT
    clear hT
    go_enter Try.func49, Try.ntmps49
    go_wp2_with fail
    go_loopw [3] (fun i wr => ∃ k : Nat, k ≤ ds.length ∧ i = .int .i64 k ∧ Hid (∀ j, j < k → decOk ds j = true) ∧ Below w.heap.size w wr) (fun i _ => ds.length - (intOf i).toNat)
    case atStart => exact ⟨0, by omega, rfl, before_zero, Below.refl _ _⟩
    case round =>
      obtain ⟨k, hk, rfl, H, hB⟩ := hrel
      have hz := hB.size
      by_cases hlt : k < ds.length
      · have hv1 := hv.keep (Same.of_below hB hU)
        have hU1 : U ≤ wr.heap.size := by omega
        go_wp2_with (go_at_call 78; refine (sValidDecl_any _ _ _ _ _ _ hv1 hU1 hlt).mono ?_; rintro e w' ⟨rfl, hB2⟩)
        · go_ret
          exact ⟨ret_bool (by rw [HT.out, upTo_stop hlt (not_true ‹_›)]), hB.trans (hB2.mono hz)⟩
        · go_roundw
          case rel => exact ⟨k + 1, by omega, by go_num, before_step H (not_false ‹_›), hB.trans (hB2.mono hz)⟩
          case measure => simp [intOf]; omega
      · go_wp2_with fail
        go_ret
        exact ⟨ret_bool (by rw [HT.out, upTo_done H hlt]), hB⟩
  · go_enter Try.func49, Try.ntmps49
    go_wp2_with fail
    go_ret
    exact ⟨ret_bool (by simp [typesOk, h4]), Below.refl _ _⟩
end Go.Proofs.Ytgbeongiejppnaa

/- Contracts of chapter 1: copies, constructors of a type. -/
namespace Go.Proofs.Ytgbeongiejppnaa
open Go.RowKit
theorem infoInt : (Try.prog.info? 3).map (fun i => (i.zero, i.size, i.bytes)) = some (some (.int .i64 0), 1, 8) := by kernel_rfl
set_option maxHeartbeats 400000 in
theorem copyInts_own (L U : Nat) (xs : List Int) (v : Value) (w : World) (hv : Ints w L U v xs) (hU : U ≤ w.heap.size) (hb : xs.length ≤ 1000000000) :
    Calls Try.prog 135 #[v] w fun e w' => ∃ u, e = .returned u ∧ Below w.heap.size w w' ∧ Own w' w.heap.size u xs := by
  obtain ⟨B, d, rfl, hl, hd⟩ := hv.open_
  obtain ⟨i0, hi, hz0, hz1, hz2⟩ := info_parts infoInt
  go_enter Try.func135, Try.ntmps135
  go_wp2_with fail
  go_loopw [3, 8] (fun u i wr => ∃ k : Nat, k ≤ xs.length ∧ i = .int .i64 k ∧ wr.ownsRow w.heap.size 3 1 u k ((xs.take k).map (Value.int .i64)) ∧ Below w.heap.size w wr) (fun _ i _ => xs.length - (intOf i).toNat)
  case atStart => exact ⟨0, by omega, rfl, World.ownsRow_nil _ _ _ _, Below.refl _ _⟩
  case round =>
    obtain ⟨k, hk, rfl, hown, hB⟩ := hrel
    have hz := hB.size
    by_cases hlt : k < xs.length
    · obtain ⟨b, o, rfl, _, _, hc⟩ := (hv.keep (Same.of_below hB hU)).at_ hlt
      go_wp2_with (at_builtin; refine wpList_append_own _ rfl _ _ 25 rfl w.heap.size 3 i0 (.int .i64 0) 1 8 Try.underlying25 hi hz0 hz1 hz2 rfl (by decide) _ _ _ rfl (hown.alloc _) ⟨wr.heap.size, 0, none⟩ 1 1 [.int .i64 xs[k]] rfl rfl ?c1 ?c2 ?c3 ?c4 ?c5 ?_)
      case c1 => exact cell_one_new _ _ _
      case c2 => simp [Value.oneCell']
      case c3 => unfold maxLen; omega
      case c4 => omega
      case c5 => simp; omega
      intro u' w1 hown1 hg _
      have hB1 : Below w.heap.size w w1 := Below.own (hB.alloc hz _) (hown.alloc _) hg (Nat.le_refl _) (by simp; omega)
      have hown2 : w1.ownsRow w.heap.size 3 1 u' (k + 1) ((xs.take (k + 1)).map (Value.int .i64)) := by
        rw [List.take_succ_eq_append_getElem hlt, List.map_append, List.map_take]; exact hown1
      clear hown hown1 hg hv hc
      go_wp2_with fail
      go_roundw
      case rel => exact ⟨k + 1, by omega, by go_num, hown2, hB1⟩
      case measure => simp [intOf]; omega
    · go_wp2_with fail
      go_ret
      rw [List.take_of_length_le (by omega)] at hown
      exact ⟨_, rfl, hB, Own.of hown⟩
theorem copyInts_any (L U : Nat) (xs : List Int) (v : Value) (w : World) (hv : Ints w L U v xs) (hU : U ≤ w.heap.size) (hb : xs.length ≤ 1000000000) :
    Calls Try.prog 135 #[v] w fun e w' => ∃ u, e = .returned u ∧ Below w.heap.size w w' ∧ Ints w' w.heap.size w'.heap.size u xs :=
  (copyInts_own L U xs v w hv hU hb).mono fun _ _ ⟨u, h1, h2, h3⟩ => ⟨u, h1, h2, h3.ints⟩
set_option maxHeartbeats 400000 in
theorem sCopyInts_any (L U : Nat) (xs : List Int) (v : Value) (w : World) (hv : Ints w L U v xs) (hU : U ≤ w.heap.size) (hb : xs.length ≤ 1000000000) :
    Calls Try.prog 59 #[v] w fun e w' => ∃ u, e = .returned u ∧ Below w.heap.size w w' ∧ Ints w' w.heap.size w'.heap.size u xs := by
  obtain ⟨B, d, rfl, hl, hd⟩ := hv.open_
  obtain ⟨i0, hi, hz0, hz1, hz2⟩ := info_parts infoInt
  go_enter Try.func59, Try.ntmps59
  have hr : ∃ A', Row (w.alloc (.cells #[] 3)) L U 1 B xs.length d (fun i _ => .int .i64 (nth xs i)) ∧ A' = B := by
    obtain ⟨A, c, e, r⟩ := hv
    injection e with e1 e2 e3
    subst e1 e3
    exact ⟨_, r.keep (Same.of_below ((Below.refl w.heap.size w).alloc (Nat.le_refl _) _) hU), rfl⟩
  obtain ⟨_, hr, _⟩ := hr
  have hown := World.ownsRow_lit (base := w.heap.size) (e := 3) (size := 1) w #[] 0 (Nat.le_refl _) (by simp [maxLen]) rfl
  go_wp2_with (at_builtin; refine wpList_append_row rfl _ _ 25 rfl w.heap.size 3 i0 (.int .i64 0) 1 8 Try.underlying25 hi hz0 hz1 hz2 rfl (by decide) _ _ _ rfl hown L U _ _ _ _ rfl hr ?c2 ?c3 ?c4 ?c5 ?_)
  case c2 => intros; rfl
  case c3 => unfold maxLen; omega
  case c4 => omega
  intro u' w1 hown1 hg
  have hB1 : Below w.heap.size w w1 := Below.own ((Below.refl w.heap.size w).alloc (Nat.le_refl _) _) hown hg (Nat.le_refl _) (by simp)
  rw [cellsOf_ints] at hown1
  go_wp2_with fail
  go_ret
  exact ⟨_, rfl, hB1, ints_of_own hown1⟩
end Go.Proofs.Ytgbeongiejppnaa

/- Contracts of chapter 1: the functions that are called from outside. -/
namespace Go.Proofs.Ytgbeongiejppnaa
open Go.RowKit
/-- The place of a constructor's fields, step by step. -/
theorem con_place {w : World} {L U : Nat} {ds : List Dec} {A : Option Addr} {n d : Nat} {c : Int} {k : Nat} (hv : Decs w L U (.slice A n d) ds) (hk : k < ds.length) (h : conTy ds c = (k : Int) + 1) (h1 : (cnt ds k : Int) ≤ c) (h2 : c < (cnt ds k : Int) + ((nthD ds k).cons.length : Int)) :
    ∃ b o b2 o2 i c' u, A = some ⟨b, o, none⟩ ∧ b < U ∧ b2 < U ∧ c - (cnt ds k : Int) = (i : Nat) ∧ i < (nthD ds k).cons.length ∧ w.cell? ⟨b, o + k * 3 + 2, none⟩ = some (.slice (some ⟨b2, o2, none⟩) (nthD ds k).cons.length c') ∧ w.cell? ⟨b2, o2 + i, none⟩ = some u ∧ Ints w L U u (flds ds c) := by
  obtain ⟨b, o, A', c', rfl, _, hb2, hc0, hc1, hc2, hu⟩ := hv.at_ hk
  obtain ⟨i, hi⟩ : ∃ i : Nat, c - (cnt ds k : Int) = i := ⟨(c - (cnt ds k : Int)).toNat, by omega⟩
  obtain ⟨b2, o2, A2, c2, rfl, _, hb3, hc4, hu2⟩ := hu.at_ (k := i) (by omega)
  refine ⟨b, o, b2, o2, i, c', _, rfl, hb2, hb3, hi, by omega, hc2, hc4, ?_⟩
  rw [flds_at h, hi, Int.toNat_natCast, nthL_of (by omega)]
  exact hu2
set_option maxHeartbeats 400000 in
theorem fieldsOfCon_any (c : Int) (L U : Nat) (ds : List Dec) (v : Value) (w : World) (hv : Decs w L U v ds) (hU : U ≤ w.heap.size) (hb : cnt ds ds.length ≤ 4611686018427387904) (hc : 0 ≤ conTy ds c) :
    Calls Try.prog 137 #[v, .int .i64 c] w fun e w' => ∃ u, e = .returned u ∧ Below w.heap.size w w' ∧ Ints w' L U u (flds ds c) := by
  obtain ⟨B, d, rfl, hl, hd⟩ := hv.open_
  rcases conTy_cases ds c with h | ⟨k, hk, h, h1, h2⟩
  · omega
  have C := typeOfCon_any c L U ds _ w hv hU hb
  rw [h] at C
  have HC := Lib.hid C
  have HT := Lib.hid h
  have n1 : (cnt ds k : Int) ≤ 4611686018427387904 := by have := cnt_mono ds (i := k) (j := ds.length) (by omega); omega
  have n2 : ((nthD ds k).cons.length : Int) ≤ 4611686018427387904 := by have := cnt_mono ds (i := k + 1) (j := ds.length) (by omega); have := cnt_succ hk; omega
  clear C h
  go_enter Try.func137, Try.ntmps137
  go_wp2_with fail
  refine HC.out.mono ?_
  rintro e w1 ⟨rfl, hB1⟩
  have hz := hB1.size
  have hv1 := hv.keep (Same.of_below hB1 hU)
  obtain ⟨b, o, b2, o2, i, c', u, rfl, hb1, hb2, hi, hil, e1, e2, hu⟩ := con_place hv1 hk HT.out h1 h2
  have Hv := Lib.hid (hv1.keep (same_drew L U w1))
  have Hu := Lib.hid hu
  have i2 : (0 : Int) ≤ (k : Int) := by omega
  have i3 : (k : Int) < (ds.length : Int) := by omega
  have i4 : (0 : Int) ≤ (i : Int) := by omega
  have i5 : (i : Int) < ((nthD ds k).cons.length : Int) := by omega
  have s3 : IntKind.i64.wrap (k : Int) = (k : Int) := IntWalk.i64_in _ (by omega)
  have s1 : IntKind.i64.wrap ((k : Int) + 1 - 1) = (k : Int) := by rw [IntWalk.i64_in _ (by omega)]; omega
  have s2 : IntKind.i64.wrap (c - (cnt ds k : Int)) = (i : Int) := by rw [IntWalk.i64_in _ (by omega)]; omega
  have g1 : b < w1.heap.size := by omega
  have g2 : b2 < w1.heap.size := by omega
  have g3 : U ≤ w1.heap.size := by omega
  clear hu hv hv1 h1 h2 hi
  go_wp2_with fail
  go_region_held3 (fun w' => w'.cell? ⟨b, o + k * 3 + 2, none⟩ = some (.slice (some ⟨b2, o2, none⟩) (nthD ds k).cons.length c') ∧ w'.cell? ⟨b2, o2 + i, none⟩ = some u)
    (first | go_keep | (exact ⟨(hB.cell (by simp; assumption)).trans (by simp; assumption), (hB.cell (by simp; assumption)).trans (by simp; assumption)⟩))
    (first | (go_at_call 143; refine (firstCon_any _ _ _ _ _ _ Hv.out (by simp; assumption) hk hb).mono ?_; rintro e w' ⟨rfl, hB⟩))
  go_wp2_with fail
  go_ret
  have hB3 : Below w1.heap.size w1 w' := (Below.refl _ w1).drew.trans (hB.mono (by simp))
  exact ⟨_, rfl, hB1.trans (hB3.mono hz), Hu.out.keep (Same.of_below hB3 g3)⟩
set_option maxHeartbeats 400000 in
theorem conFields_any (c : Int) (L U : Nat) (ds : List Dec) (v : Value) (w : World) (hv : Decs w L U v ds) (hb : cnt ds ds.length ≤ 4611686018427387904) (hc : 0 ≤ conTy ds c) :
    Calls Try.prog 99 #[v, .int .i64 c] w fun e w' => ∃ u, e = .returned u ∧ Below w.heap.size w w' ∧ Ints w' L U u (flds ds c) := by
  obtain ⟨B, d, rfl, hl, hd⟩ := hv.open_
  rcases conTy_cases ds c with h | ⟨k, hk, h, h1, h2⟩
  · omega
  have C := conType_any c L U ds _ w hv hb
  rw [h] at C
  have HC := Lib.hid C
  have HT := Lib.hid h
  have n1 : (cnt ds k : Int) ≤ 4611686018427387904 := by have := cnt_mono ds (i := k) (j := ds.length) (by omega); omega
  have n2 : ((nthD ds k).cons.length : Int) ≤ 4611686018427387904 := by have := cnt_mono ds (i := k + 1) (j := ds.length) (by omega); have := cnt_succ hk; omega
  clear C h
  go_enter Try.func99, Try.ntmps99
  go_wp2_with fail
  refine HC.out.mono ?_
  rintro e w1 ⟨rfl, rfl⟩
  obtain ⟨b, o, b2, o2, i, c', u, rfl, hb1, hb2, hi, hil, e1, e2, hu⟩ := con_place hv hk HT.out h1 h2
  have Hv := Lib.hid fun n => hv.keep (same_drewN L U w n)
  have Hu := Lib.hid hu
  have i2 : (0 : Int) ≤ (k : Int) := by omega
  have i3 : (k : Int) < (ds.length : Int) := by omega
  have i4 : (0 : Int) ≤ (i : Int) := by omega
  have i5 : (i : Int) < ((nthD ds k).cons.length : Int) := by omega
  have hkl : k ≤ ds.length := by omega
  have s3 : IntKind.i64.wrap (k : Int) = (k : Int) := IntWalk.i64_in _ (by omega)
  have s1 : IntKind.i64.wrap ((k : Int) + 1 - 1) = (k : Int) := by rw [IntWalk.i64_in _ (by omega)]; omega
  have s2 : IntKind.i64.wrap (c - (cnt ds k : Int)) = (i : Int) := by rw [IntWalk.i64_in _ (by omega)]; omega
  clear hu hv h1 h2 hi
  go_wp2_with fail
  go_quiet ((go_at_call 123; exact quiet_eq (sFirstCon_any _ _ _ _ _ _ (Hv.out _) hkl hb)))
  go_wp2_with fail
  go_ret
  exact ⟨_, rfl, below_drewN (Below.refl _ _) _, Hu.out.keep (same_drewN _ _ _ _)⟩
end Go.Proofs.Ytgbeongiejppnaa
