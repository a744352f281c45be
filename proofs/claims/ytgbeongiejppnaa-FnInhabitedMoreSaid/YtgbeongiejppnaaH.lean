/- What is known while the generator bends declarations. -/
import Derived.Test.YtgbeongiejppnaaS
import Derived.Test.YtgbeongiejppnaaH0
namespace Go.Proofs.Ytgbeongiejppnaa
open Go.RowKit Go.BigFrame
/-- What is known while declarations are bent: the reader, the row, its constructors. -/
structure St (N g q r c M : Nat) (w0 w : World) (ds : List Dec) (V : Nat → Value) : Prop where
  rd : Rd w g q
  only : w0.grownBy w (some g)
  size : w0.heap.size = N
  row : w.ownsRow N 30 3 (.slice (some ⟨r, 0, none⟩) ds.length c) ds.length (cellsOf 3 ds.length fun i j => decCell (nthD ds i) (V i) j)
  cs : ∀ i, i < ds.length → Cons w N M (V i) (nthD ds i).cons
  hM : M ≤ r
  hN : N ≤ r
  hg : g < N
  hr : r < w.heap.size
section
variable {N g q r c M : Nat} {w0 w : World} {ds : List Dec} {V : Nat → Value}
theorem St.alloc (h : St N g q r c M w0 w ds V) (o : Obj) : St N g q r c M w0 (w.alloc o) ds V :=
  ⟨h.rd.alloc o, only_alloc h.only o, h.size, h.row.alloc o, fun i hi => (h.cs i hi).keep (fun k _ hk => Below.heap_alloc w o k (by have := h.hM; have := h.hr; omega)), h.hM, h.hN, h.hg, by have := h.hr; simp; omega⟩
theorem St.step (h : St N g q r c M w0 w ds V) {w' : World} {q' : Nat} (hr : Rd w' g q') (ho : w.grownBy w' (some g)) : St N g q' r c M w0 w' ds V :=
  ⟨hr, only_trans h.only ho, h.size, h.row.kept ho (.inr (by simp [Value.ownBlock]; have := h.hg; have := h.hN; omega)), fun i hi => (h.cs i hi).keep (Same.of_grown ho (by have := h.hM; have := h.hr; omega) (fun k e => by injection e; have := h.hg; omega)), h.hM, h.hN, h.hg, by have := h.hr; have := ho.size; omega⟩
theorem St.cells (h : St N g q r c M w0 w ds V) {k j : Nat} (hk : k < ds.length) (hj : j < 3) : w.cell? ⟨r, k * 3 + j, none⟩ = some (decCell (nthD ds k) (V k) j) ∧ w.frozen? ⟨r, k * 3 + j, none⟩ = false := by
  refine ⟨?_, h.row.frozenAt _⟩
  rw [h.row.cellAt _ (by omega)]
  exact cellsOf_at _ hk hj
theorem cells_set {n k j : Nat} (V : Nat → Nat → Value) (u : Value) (hj : j < 3) : (cellsOf 3 n V).set (k * 3 + j) u = cellsOf 3 n fun i x => if i = k ∧ x = j then u else V i x := by
  apply List.ext_getElem?
  intro x
  by_cases hx : x < n * 3
  · have e : x / 3 * 3 + x % 3 = x := by omega
    have l1 : x / 3 < n := by omega
    have l2 : x % 3 < 3 := by omega
    have hR := cellsOf_at (fun i x => if i = k ∧ x = j then u else V i x) l1 l2
    have hL := cellsOf_at V l1 l2
    rw [e] at hR hL
    rw [hR, List.getElem?_set]
    by_cases he : k * 3 + j = x
    · rw [if_pos he, if_pos (by rw [length_cellsOf]; omega), if_pos ⟨by omega, by omega⟩]
    · rw [if_neg he, hL, if_neg (by omega)]
  · rw [List.getElem?_eq_none (by rw [List.length_set, length_cellsOf]; omega), List.getElem?_eq_none (by rw [length_cellsOf]; omega)]
theorem nthD_set {ds : List Dec} {k i : Nat} (d : Dec) (hk : k < ds.length) : nthD (ds.set k d) i = if i = k then d else nthD ds i := by
  unfold nthD
  rw [List.getD_eq_getElem?_getD, List.getD_eq_getElem?_getD, List.getElem?_set]
  by_cases e : k = i
  · subst e; simp [hk]
  · rw [if_neg e, if_neg (fun h => e h.symm)]
/-- The declaration at a place is another one now. -/
theorem St.done (h : St N g q r c M w0 w ds V) {k : Nat} (hk : k < ds.length) (d : Dec) (u : Value) (hu : Cons w (r + 1) w.heap.size u d.cons) :
    Decs (((w.setCell ⟨r, k * 3, none⟩ (.int .i64 d.frm)).setCell ⟨r, k * 3 + 1, none⟩ (.int .i64 d.to)).setCell ⟨r, k * 3 + 2, none⟩ u) N w.heap.size (.slice (some ⟨r, 0, none⟩) ds.length c) (ds.set k d) ∧
    Rd (((w.setCell ⟨r, k * 3, none⟩ (.int .i64 d.frm)).setCell ⟨r, k * 3 + 1, none⟩ (.int .i64 d.to)).setCell ⟨r, k * 3 + 2, none⟩ u) g q ∧
    w0.grownBy (((w.setCell ⟨r, k * 3, none⟩ (.int .i64 d.frm)).setCell ⟨r, k * 3 + 1, none⟩ (.int .i64 d.to)).setCell ⟨r, k * 3 + 2, none⟩ u) (some g) := by
  have hN := h.hN
  have hg := h.hg
  have hM := h.hM
  have hrr := h.hr
  have s1 := (h.row.stored (k * 3) (.int .i64 d.frm)).1
  have s2 := (s1.stored (k * 3 + 1) (.int .i64 d.to)).1
  have s3 := (s2.stored (k * 3 + 2) u).1
  have z := cells_set (n := ds.length) (k := k) (j := 0) (fun i j => decCell (nthD ds i) (V i) j) (.int .i64 d.frm) (by omega)
  rw [Nat.add_zero] at z
  rw [z, cells_set _ _ (by omega), cells_set _ _ (by omega)] at s3
  have hsame : ∀ b, b ≠ r → (((w.setCell ⟨r, k * 3, none⟩ (.int .i64 d.frm)).setCell ⟨r, k * 3 + 1, none⟩ (.int .i64 d.to)).setCell ⟨r, k * 3 + 2, none⟩ u).heap[b]? = w.heap[b]? := fun b hb =>
    (Below.heap_setCell _ _ _ b hb).trans ((Below.heap_setCell _ _ _ b hb).trans (Below.heap_setCell _ _ _ b hb))
  refine ⟨?_, ((h.rd.set (by show g < r; omega) _).set (by show g < r; omega) _).set (by show g < r; omega) _, only_set (only_set (only_set h.only (by show _ ≤ r; rw [h.size]; omega) _) (by show _ ≤ r; rw [h.size]; omega) _) (by show _ ≤ r; rw [h.size]; omega) _⟩
  obtain ⟨A, c', e, ro⟩ := row_of_own s3
  injection e with e1 e2 e3
  subst e1 e3
  have hlen : (ds.set k d).length = ds.length := by simp
  refine ⟨some ⟨r, 0, none⟩, c, fun i => if i = k then u else V i, by rw [hlen], ⟨by rw [hlen]; exact ro.le, ro.cap, (fun e => by cases e), fun hn => ?_⟩, fun i hi => ?_⟩
  · obtain ⟨b, o, e, h1, h2, h3⟩ := ro.place (by omega)
    refine ⟨b, o, e, h1, by simpa using h2, fun i j hi hj => ?_⟩
    rw [hlen] at hi
    rw [h3 i j hi hj, nthD_set d hk]
    by_cases hik : i = k
    · subst hik
      rcases (by omega : j = 0 ∨ j = 1 ∨ j = 2) with rfl | rfl | rfl <;> simp [decCell]
    · simp [hik]
  · rw [hlen] at hi
    rw [nthD_set d hk]
    by_cases hik : i = k
    · simp only [hik, if_true]
      exact (hu.keep (fun b h1 _ => hsame b (by omega))).wide (by omega) (Nat.le_refl _)
    · simp only [hik, if_false]
      exact ((h.cs i hi).keep (fun b _ h2 => hsame b (by omega))).wide (Nat.le_refl _) (by omega)
end
/-- What the draw leaves. -/
def Drawn (g p : Nat) (w : World) (e : Ending) (w' : World) : Prop := ∃ v ds, e = .returned v ∧ ds.length ≤ 6 ∧ Decs w' w.heap.size w'.heap.size v ds ∧ (∃ q, q ≤ p + 10 ∧ Rd w' g q) ∧ w.grownBy w' (some g)
theorem St.fin {N g q r c M p : Nat} {w0 w : World} {ds : List Dec} {V : Nat → Value} (h : St N g q r c M w0 w ds V) {k : Nat} (hk : k < ds.length) (d : Dec) (u : Value) (hu : Cons w (r + 1) w.heap.size u d.cons) (hl : ds.length ≤ 4) (hq : q ≤ p + 10) :
    Drawn g p w0 (.returned (.slice (some ⟨r, 0, none⟩) ds.length c)) (((w.setCell ⟨r, k * 3, none⟩ (.int .i64 d.frm)).setCell ⟨r, k * 3 + 1, none⟩ (.int .i64 d.to)).setCell ⟨r, k * 3 + 2, none⟩ u) := by
  obtain ⟨hd, hrd, ho⟩ := h.done hk d u hu
  exact ⟨_, _, rfl, by simp; omega, hd.wide (by rw [h.size]; exact Nat.le_refl _) (by simp), ⟨_, hq, hrd⟩, ho⟩
/-- The declarations with some more at the end. -/
theorem St.more {N g q r c M p m : Nat} {w0 w w' : World} {ds more : List Dec} {V : Nat → Value} (h : St N g q r c M w0 w ds V) {v' : Value} (o : Obj) (hm : more.length = m) (hnil : ∀ d ∈ more, d.cons = [])
    (hown : w'.ownsRow N 30 3 v' (ds.length + m) (cellsOf 3 ds.length (fun i j => decCell (nthD ds i) (V i) j) ++ cellsOf 3 m fun i j => decCell (nthD more i) (.slice none 0 0) j))
    (hg : (w.alloc o).grownBy w' (some r)) (hl : ds.length + m ≤ 6) (hq : q ≤ p + 10) : Drawn g p w0 (.returned v') w' := by
  have hlen : (ds ++ more).length = ds.length + m := by simp [hm]
  have hgr : ∀ b, b < w.heap.size → b ≠ r → w'.heap[b]? = w.heap[b]? := fun b hb hne => (hg.block b (by simp; omega) (by intro e; injection e; omega)).trans (Below.heap_alloc w o b hb)
  have h1 := h.hg
  have h2 := h.hN
  have h3 := h.hM
  have h4 := h.hr
  have hsz : w.heap.size ≤ w'.heap.size := by have := hg.size; simp at this; omega
  have hcat : cellsOf 3 ds.length (fun i j => decCell (nthD ds i) (V i) j) ++ cellsOf 3 m (fun i j => decCell (nthD more i) (.slice none 0 0) j) = cellsOf 3 (ds.length + m) fun i j => decCell (nthD (ds ++ more) i) (if i < ds.length then V i else .slice none 0 0) j := by
    apply List.ext_getElem?
    intro x
    have e : x / 3 * 3 + x % 3 = x := by omega
    by_cases hx : x < (ds.length + m) * 3
    · have hR := cellsOf_at (k := 3) (m := ds.length + m) (i := x / 3) (j := x % 3) (fun i j => decCell (nthD (ds ++ more) i) (if i < ds.length then V i else .slice none 0 0) j) (by omega) (by omega)
      rw [e] at hR
      rw [hR]
      by_cases hy : x < ds.length * 3
      · rw [List.getElem?_append_left (by rw [length_cellsOf]; exact hy)]
        have hL := cellsOf_at (k := 3) (m := ds.length) (i := x / 3) (j := x % 3) (fun i j => decCell (nthD ds i) (V i) j) (by omega) (by omega)
        rw [e] at hL
        rw [hL]
        have hi : x / 3 < ds.length := by omega
        simp [hi, nthD, List.getElem?_append_left hi]
      · rw [List.getElem?_append_right (by rw [length_cellsOf]; omega), length_cellsOf]
        have hL := cellsOf_at (k := 3) (m := m) (i := x / 3 - ds.length) (j := x % 3) (fun i j => decCell (nthD more i) (.slice none 0 0) j) (by omega) (by omega)
        rw [show (x / 3 - ds.length) * 3 + x % 3 = x - ds.length * 3 by omega] at hL
        rw [hL]
        have hi : ¬ x / 3 < ds.length := by omega
        simp [hi, nthD, List.getElem?_append_right (Nat.le_of_not_lt hi)]
    · rw [List.getElem?_eq_none (by rw [List.length_append, length_cellsOf, length_cellsOf]; omega), List.getElem?_eq_none (by rw [length_cellsOf]; omega)]
  rw [hcat] at hown
  obtain ⟨A, c', e, ro⟩ := row_of_own hown
  refine ⟨v', ds ++ more, rfl, by rw [hlen]; omega, ?_, ⟨q, hq, h.rd.keep fun b hb => hgr b (by omega) (by omega)⟩, ?_⟩
  · rw [h.size]
    refine ⟨A, c', fun i => if i < ds.length then V i else .slice none 0 0, by rw [hlen]; exact e, by rw [hlen]; exact ro, fun i hi => ?_⟩
    by_cases hlt : i < ds.length
    · simp only [hlt, if_true]
      have e2 : nthD (ds ++ more) i = nthD ds i := by simp [nthD, List.getElem?_append_left hlt]
      rw [e2]
      exact ((h.cs i hlt).keep (fun b _ hb => hgr b (by omega) (by omega))).wide (Nat.le_refl _) (by omega)
    · simp only [hlt, if_false]
      rw [nthD_of hi, hnil _ (by rw [List.getElem_append_right (by omega)]; exact List.getElem_mem _)]
      exact cons_nil _ _ _
  · have ho := h.only
    have hs := h.size
    exact ⟨hg.os.trans ho.os, hg.tape.trans ho.tape, hg.output.trans ho.output, Nat.le_trans ho.size hsz, fun b hb hne => (hgr b (by have := ho.size; omega) (by omega)).trans (ho.block b hb hne)⟩
theorem St.same {N g q r c M p : Nat} {w0 w : World} {ds : List Dec} {V : Nat → Value} (h : St N g q r c M w0 w ds V) (hl : ds.length ≤ 4) (hq : q ≤ p + 10) : Drawn g p w0 (.returned (.slice (some ⟨r, 0, none⟩) ds.length c)) w := by
  obtain ⟨A, c', e, ro⟩ := row_of_own h.row
  have h3 := h.hM
  have h4 := h.hr
  exact ⟨_, ds, rfl, by omega, by rw [h.size]; exact ⟨A, c', V, e, ro, fun i hi => (h.cs i hi).wide (Nat.le_refl _) (by omega)⟩, ⟨q, hq, h.rd⟩, h.only⟩
/-- The constructors from a place on. -/
theorem cons_drop {w : World} {L U b c j : Nat} {cs : List (List Int)} (h : Cons w L U (.slice (some ⟨b, 0, none⟩) cs.length c) cs) (hj : j < cs.length) : Cons w L U (.slice (some ⟨b, j, none⟩) (cs.length - j) (c - j)) (cs.drop j) := by
  obtain ⟨A, c', V, e, r, hi⟩ := h
  injection e with e1 e2 e3
  subst e1 e3
  have hlen : (cs.drop j).length = cs.length - j := by simp
  refine ⟨_, _, fun i => V (j + i), by rw [hlen], ⟨by rw [hlen]; have := r.le; omega, by have := r.cap; omega, (fun e => by cases e), fun hn => ?_⟩, fun i hil => ?_⟩
  · obtain ⟨b', o', e, h1, h2, h3⟩ := r.place (by omega)
    injection e with e
    injection e with e1 e2
    subst e1 e2
    refine ⟨b, j, rfl, h1, h2, fun i x hil hx => ?_⟩
    rw [hlen] at hil
    have := h3 (j + i) x (by omega) hx
    rw [show j + i * 1 + x = 0 + (j + i) * 1 + x by omega]
    exact this
  · rw [hlen] at hil
    have e : nthL (cs.drop j) i = nthL cs (j + i) := by simp [nthL, List.getElem?_drop]
    rw [e]; exact hi _ (by omega)
theorem own_st {g q : Nat} {w w1 : World} {v : Value} {ds : List Dec} (h : OwnDecs w1 w.heap.size v ds) (hr : Rd w1 g q) (ho : w.grownBy w1 (some g)) (hg : g < w.heap.size) (hl : 0 < ds.length) :
    ∃ r c M V, v = .slice (some ⟨r, 0, none⟩) ds.length c ∧ ds.length ≤ c ∧ c ≤ 9223372036854775807 ∧ St w.heap.size g q r c M w w1 ds V := by
  obtain ⟨M, V, hrow, hcs, hM, hlt⟩ := h
  rcases hrow.2 with ⟨_, h0⟩ | ⟨r, c, cur, rfl, hb, hh, hnc, hcm, _⟩
  · omega
  · exact ⟨r, c, M, V, rfl, hnc, hcm, hr, ho, rfl, hrow, hcs, hlt _ rfl, hb, hg, (Array.getElem?_eq_some_iff.1 hh).1⟩
end Go.Proofs.Ytgbeongiejppnaa
