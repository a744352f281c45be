/- Declarations with one constructor more; a row of declarations that is written. -/
import Derived.Test.YtgbeongiejppnaaZb
import Derived.Test.YtgbeongiejppnaaAp
import Derived.Test.YtgbeongiejppnaaH
namespace Go.Proofs.Ytgbeongiejppnaa
open Go.RowKit Go.BigFrame
/-- The k-th declaration has one constructor more, without fields. -/
def moreD (ds : List Dec) (k : Nat) : List Dec := ds.set k ⟨0, 0, (nthD ds k).cons ++ [[]]⟩
theorem moreD_len (ds : List Dec) (k : Nat) : (moreD ds k).length = ds.length := by simp [moreD]
theorem moreD_at {ds : List Dec} {k i : Nat} (hk : k < ds.length) : nthD (moreD ds k) i = if i = k then ⟨0, 0, (nthD ds k).cons ++ [[]]⟩ else nthD ds i := nthD_set _ hk
theorem moreD_ok {ds : List Dec} {k : Nat} (h : typesOk ds = true) (hk : k < ds.length) (h0 : 0 < (nthD ds k).cons.length) (h3 : (nthD ds k).cons.length < 3) : typesOk (moreD ds k) = true := by
  have h4 := typesOk_four h
  have hc := consOk_of h hk
  unfold typesOk
  rw [moreD_len, decide_eq_true h4, Bool.true_and]
  unfold upTo
  rw [List.all_eq_true]
  intro i hi
  rw [List.mem_range] at hi
  have hok := typesOk_at h hi
  unfold decOk at hok ⊢
  rw [moreD_at hk, moreD_len]
  by_cases hik : i = k
  · subst hik
    simp only [if_true]
    rw [if_pos (by simp)]
    simp only [decide_true, Bool.true_and]
    unfold consOk at hc ⊢
    simp only [Bool.and_eq_true, decide_eq_true_eq, List.all_eq_true] at hc ⊢
    refine ⟨by simp; omega, fun c hcm => ?_⟩
    rcases List.mem_append.1 hcm with hcm | hcm
    · exact hc.2 c hcm
    · simp only [List.mem_singleton] at hcm
      subst hcm
      exact ⟨by simp, fun x hx => by cases hx⟩
  · simp only [hik, if_false]
    by_cases hp : 0 < (nthD ds i).cons.length
    · rw [if_pos hp] at hok ⊢
      exact hok
    · rw [if_neg hp] at hok ⊢
      rw [seek_congr (R := fun j => isArr (nthD ds i).frm (nthD ds i).to (nthD ds j)) (fun j hj => ?_)]
      · exact hok
      · rw [moreD_at hk]
        by_cases hjk : j = k
        · subst hjk
          simp only [if_true]
          have e1 : isArr (nthD ds i).frm (nthD ds i).to (nthD ds j) = false := by
            unfold isArr; rw [decide_eq_false (by omega)]; rfl
          rw [e1]
          unfold isArr
          rw [decide_eq_false (by simp)]; rfl
        · simp only [hjk, if_false]
theorem moreD_full {ds : List Dec} {k : Nat} (hk : k < ds.length) (S : List Int) : fullB (nthD (moreD ds k) k) S = true := by
  rw [moreD_at hk]
  simp only [if_true]
  rw [fullB_iff]
  exact .inr ⟨[], by simp, fun t ht => by cases ht⟩
theorem more_has {ds : List Dec} {k : Nat} (h : typesOk ds = true) (hk : k < ds.length) (h0 : 0 < (nthD ds k).cons.length) (h3 : (nthD ds k).cons.length < 3) : memI (inhV (moreD ds k)) ((k : Int) + 1) = true := by
  rw [inh_full (moreD_ok h hk h0 h3) (by rw [moreD_len]; exact hk)]
  exact moreD_full hk _
theorem more_within {ds : List Dec} {k : Nat} (h : typesOk ds = true) (hk : k < ds.length) (h0 : 0 < (nthD ds k).cons.length) (h3 : (nthD ds k).cons.length < 3) : allI (inhV ds) (inhV (moreD ds k)) = true := by
  have hm := moreD_ok h hk h0 h3
  unfold allI
  rw [List.all_eq_true]
  intro x hx
  rw [memI_iff]
  rw [show inhV ds = iterJ ds ds.length by unfold inhV; rw [h]; rfl] at hx
  refine iterJ_least ds _ (inhV (moreD ds k)) (fun j hj hf => ?_) (memI_iff.1 (inh_zero hm)) x hx
  refine memI_iff.1 ?_
  rw [inh_full hm (by rw [moreD_len]; exact hj), moreD_at hk]
  by_cases hjk : j = k
  · subst hjk
    have := moreD_full hk (inhV (moreD ds j))
    rw [moreD_at hk] at this
    exact this
  · simp only [hjk, if_false]
    exact hf
/-- What is known of a row of declarations that is written. -/
structure S4 (N r c L : Nat) (w : World) (ds : List Dec) (V : Nat → Value) : Prop where
  row : w.ownsRow N 30 3 (.slice (some ⟨r, 0, none⟩) ds.length c) ds.length (cellsOf 3 ds.length fun i j => decCell (nthD ds i) (V i) j)
  cs : ∀ i, i < ds.length → ∃ A U, Cons w A U (V i) (nthD ds i).cons ∧ L ≤ A ∧ U ≤ w.heap.size ∧ (U ≤ r ∨ r < A)
  hL : L ≤ N
  hN : N ≤ r
  hr : r < w.heap.size
section
variable {N r c L : Nat} {w : World} {ds : List Dec} {V : Nat → Value}
theorem S4.alloc (h : S4 N r c L w ds V) (o : Obj) : S4 N r c L (w.alloc o) ds V :=
  ⟨h.row.alloc o, fun i hi => by
    obtain ⟨A, U, hc, h1, h2, h3⟩ := h.cs i hi
    exact ⟨A, U, hc.keep (fun k _ hk => Below.heap_alloc w o k (by omega)), h1, by simp; omega, h3⟩, h.hL, h.hN, by have := h.hr; simp; omega⟩
/-- Blocks that were there stay. -/
theorem S4.below (h : S4 N r c L w ds V) {w' : World} (hB : Below w.heap.size w w') : S4 N r c L w' ds V := by
  have hr := h.hr
  refine ⟨⟨h.row.1, ?_⟩, fun i hi => ?_, h.hL, h.hN, by have := hB.size; omega⟩
  · rcases h.row.2 with h0 | ⟨g, cap, cur, e, hb, hh, rest⟩
    · exact .inl h0
    · cases e
      exact .inr ⟨_, _, cur, rfl, hb, by rw [hB.block _ hr]; exact hh, rest⟩
  · obtain ⟨A, U, hc, h1, h2, h3⟩ := h.cs i hi
    exact ⟨A, U, hc.keep (fun k _ hk => hB.block k (by omega)), h1, by have := hB.size; omega, h3⟩
theorem S4.cells (h : S4 N r c L w ds V) {k j : Nat} (hk : k < ds.length) (hj : j < 3) : w.cell? ⟨r, k * 3 + j, none⟩ = some (decCell (nthD ds k) (V k) j) ∧ w.frozen? ⟨r, k * 3 + j, none⟩ = false := by
  refine ⟨?_, h.row.frozenAt _⟩
  rw [h.row.cellAt _ (by omega)]
  exact cellsOf_at _ hk hj
/-- The declaration at a place is another one now. -/
theorem S4.done (h : S4 N r c L w ds V) {k : Nat} (hk : k < ds.length) (d : Dec) (u : Value) (hu : ∀ w' : World, (∀ b, b ≠ r → w'.heap[b]? = w.heap[b]?) → w'.heap.size = w.heap.size → Cons w' L w.heap.size u d.cons) {m : Nat} (hm : ds.length = m) :
    Decs (((w.setCell ⟨r, k * 3, none⟩ (.int .i64 d.frm)).setCell ⟨r, k * 3 + 1, none⟩ (.int .i64 d.to)).setCell ⟨r, k * 3 + 2, none⟩ u) L w.heap.size (.slice (some ⟨r, 0, none⟩) m c) (ds.set k d) := by
  subst hm
  have hN := h.hN
  have hL := h.hL
  have hrr := h.hr
  have s1 := (h.row.stored (k * 3) (.int .i64 d.frm)).1
  have s2 := (s1.stored (k * 3 + 1) (.int .i64 d.to)).1
  have s3 := (s2.stored (k * 3 + 2) u).1
  have z := cells_set (n := ds.length) (k := k) (j := 0) (fun i j => decCell (nthD ds i) (V i) j) (.int .i64 d.frm) (by omega)
  rw [Nat.add_zero] at z
  rw [z, cells_set _ _ (by omega), cells_set _ _ (by omega)] at s3
  have hsame : ∀ b, b ≠ r → (((w.setCell ⟨r, k * 3, none⟩ (.int .i64 d.frm)).setCell ⟨r, k * 3 + 1, none⟩ (.int .i64 d.to)).setCell ⟨r, k * 3 + 2, none⟩ u).heap[b]? = w.heap[b]? := fun b hb =>
    (Below.heap_setCell _ _ _ b hb).trans ((Below.heap_setCell _ _ _ b hb).trans (Below.heap_setCell _ _ _ b hb))
  have hlen : (ds.set k d).length = ds.length := by simp
  have hcong : cellsOf 3 ds.length (fun i x => if i = k ∧ x = 2 then u else if i = k ∧ x = 1 then Value.int .i64 d.to else if i = k ∧ x = 0 then Value.int .i64 d.frm else decCell (nthD ds i) (V i) x) = cellsOf 3 (ds.set k d).length (fun i j => decCell (nthD (ds.set k d) i) (if i = k then u else V i) j) := by
    rw [hlen]
    unfold cellsOf
    refine List.map_congr_left fun x _ => ?_
    have l2 : x % 3 < 3 := by omega
    simp only [nthD_set d hk]
    by_cases hik : x / 3 = k
    · rcases (by omega : x % 3 = 0 ∨ x % 3 = 1 ∨ x % 3 = 2) with e | e | e <;> simp [hik, e, decCell]
    · simp [hik]
  rw [hcong] at s3
  rw [hlen] at s3
  rw [← hlen] at s3
  obtain ⟨A, c', e, ro⟩ := row_of_own s3
  rw [hlen] at e
  have hs : (((w.setCell ⟨r, k * 3, none⟩ (.int .i64 d.frm)).setCell ⟨r, k * 3 + 1, none⟩ (.int .i64 d.to)).setCell ⟨r, k * 3 + 2, none⟩ u).heap.size = w.heap.size := by simp
  refine ⟨A, c', fun i => if i = k then u else V i, by rw [hlen]; exact e, ro.wide hL (by rw [hs]; exact Nat.le_refl _), fun i hi => ?_⟩
  rw [hlen] at hi
  rw [nthD_set d hk]
  by_cases hik : i = k
  · simp only [hik, if_true]
    exact hu _ hsame hs
  · simp only [hik, if_false]
    obtain ⟨A, U, hc, h1, h2, h3⟩ := h.cs i hi
    exact (hc.keep (fun b h1 h2 => hsame b (by omega))).wide h1 h2
theorem S4.decs (h : S4 N r c L w ds V) {m : Nat} (hm : ds.length = m) : Decs w L w.heap.size (.slice (some ⟨r, 0, none⟩) m c) ds := by
  subst hm
  obtain ⟨A, c', e, ro⟩ := row_of_own h.row
  exact ⟨A, c', V, e, ro.wide h.hL (Nat.le_refl _), fun i hi => by
    obtain ⟨A, U, hc, h1, h2, _⟩ := h.cs i hi
    exact hc.wide h1 h2⟩
end
/-- A new row of declarations, as a copy gives it. -/
theorem own_s4 {w0 w : World} {v : Value} {ds : List Dec} {V : Nat → Value} {L U : Nat} (h : w.ownsRow w0.heap.size 30 3 v ds.length (cellsOf 3 ds.length fun i j => decCell (nthD ds i) (V i) j)) (hl : 0 < ds.length)
    (hc : ∀ i, i < ds.length → Cons w L U (V i) (nthD ds i).cons) (hU : U ≤ w0.heap.size) (hL : L ≤ w0.heap.size) : ∃ r c, v = .slice (some ⟨r, 0, none⟩) ds.length c ∧ ds.length ≤ c ∧ c ≤ maxLen ∧ S4 w0.heap.size r c L w ds V := by
  rcases h.2 with ⟨_, h0⟩ | ⟨r, c, cur, rfl, hb, hh, hnc, hcm, _⟩
  · omega
  · have hr := (Array.getElem?_eq_some_iff.1 hh).1
    exact ⟨r, c, rfl, hnc, hcm, h, fun i hi => ⟨L, U, hc i hi, Nat.le_refl _, by omega, .inl (by omega)⟩, hL, hb, hr⟩
/-- Constructors with one more at their end. -/
theorem cons_pushed {w : World} {L base U : Nat} {e : TypeId} {v : Value} {cs : List (List Int)} {V : Nat → Value}
    (h : w.ownsRow base e 1 v (cs.length + 1) (cellsOf 1 cs.length (fun i _ => V i) ++ [.slice none 0 0])) (hL : L ≤ base) (hU : U ≤ w.heap.size)
    (hc : ∀ i, i < cs.length → Ints w L U (V i) (nthL cs i)) : Cons w L w.heap.size v (cs ++ [[]]) := by
  have hlen : (cs ++ [([] : List Int)]).length = cs.length + 1 := by simp
  have hcell : cellsOf 1 cs.length (fun i _ => V i) ++ [.slice none 0 0] = cellsOf 1 (cs.length + 1) (fun i _ => if i < cs.length then V i else .slice none 0 0) := by
    refine cells_push _ _ _ (by omega) rfl (fun i j hi _ => by rw [if_pos hi]) (fun j hj => ?_)
    obtain rfl : j = 0 := by omega
    rw [if_neg (Nat.lt_irrefl _)]
    rfl
  rw [hcell] at h
  obtain ⟨A, c, e, r⟩ := row_of_own h
  refine ⟨A, c, fun i => if i < cs.length then V i else .slice none 0 0, by rw [hlen]; exact e, by rw [hlen]; exact r.wide hL (Nat.le_refl _), fun i hi => ?_⟩
  rw [hlen] at hi
  by_cases hlt : i < cs.length
  · simp only [hlt, if_true]
    rw [show nthL (cs ++ [[]]) i = nthL cs i by simp [nthL, List.getElem?_append_left hlt]]
    exact (hc i hlt).wide (Nat.le_refl _) hU
  · obtain rfl : i = cs.length := by omega
    simp only [Nat.lt_irrefl, if_false]
    rw [show nthL (cs ++ [[]]) cs.length = [] by simp [nthL]]
    exact ints_nil _ _ _
end Go.Proofs.Ytgbeongiejppnaa
