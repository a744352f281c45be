/- What comes in as data, opened: slices of ints, of constructors, of declarations. Nothing here speaks of a program's code. -/
import Derived.Test.YtdooageiopnhaaaLib
import Derived.Deep.Slices
import Derived.ChangeSame
import Derived.OpenShut
namespace Go.Proofs.Ytdooageiopnhaaa
open Go.RowKit Go.Deep Go.ChangeShapes
section
variable {H : Type} {enc : TypeId × Value → H} {P : Program} {w : World} {held : Bool}
theorem add_spot {b o i : Nat} : (⟨b, o, none⟩ : Addr).add i = ⟨b, o + i, none⟩ := by unfold Addr.add; split <;> simp_all
/-- A slice opened, its elements read with less fuel. -/
theorem open_slice_fuel {t e : TypeId} {fuel : Nat} {cs : List Value} {x : DataW H × List MemPlace} (ht : P.underlying t = some (.slice e)) (h : DataW.trod enc P w 0 (fun _ => true) held fuel t cs = some x) :
    (cs = [.slice none 0 0] ∧ x = (.nil, [])) ∨
    ∃ (a : Addr) (len cap n : Nat), fuel = n + 1 ∧ cs = [.slice (some a) len cap] ∧ len ≤ cap ∧ cap ≤ maxLen ∧ ∀ i, i < len → ∃ cs' y, w.cells? 0 (a.add (i * P.cellsOf e)) (P.cellsOf e) = some cs' ∧ DataW.trod enc P w 0 (fun _ => true) held n e cs' = some y := by
  rcases DataW.trod_slice ht h with h0 | ⟨a, len, cap, elems, rest, n, hf, rfl, _, hb, hl, hm, hlen, hel, _, _⟩
  · exact .inl h0
  · refine .inr ⟨a, len, cap, n, hf, rfl, hl, hm, fun i hi => ?_⟩
    have h1 := hel i hi
    rw [List.getElem?_eq_getElem (by omega), Option.bind_eq_some_iff] at h1
    obtain ⟨cs', h2, h3⟩ := h1
    exact ⟨cs', _, h2, h3⟩
/-- A family of groups of k cells behind an address reads as a row. -/
theorem row_open {a : Addr} {n c k : Nat} (hk : 0 < k) (hl : n ≤ c) (hm : c ≤ maxLen) {CS : Nat → List Value} (h : ∀ i, i < n → w.cells? 0 (a.add (i * k)) k = some (CS i)) :
    Row w 0 w.heap.size k (some a) n c (fun i j => (CS i).getD j undef) := by
  refine ⟨hl, hm, (fun e => by cases e), fun hn => ?_⟩
  obtain ⟨b, o, spot⟩ := a
  have h0 := (World.cells?_some (h 0 hn)).2.2 0 hk
  have hlen : ∀ i, i < n → (CS i).length = k := fun i hi => (World.cells?_some (h i hi)).2.1
  have hg0 : (CS 0)[0]? = some ((CS 0)[0]'(by rw [hlen 0 hn]; exact hk)) := List.getElem?_eq_getElem _
  have h00 : w.cell? ((⟨b, o, spot⟩ : Addr).add (0 * k + 0)) = some ((CS 0)[0]'(by rw [hlen 0 hn]; exact hk)) := by
    rw [← add_add]; rw [h0]; exact hg0
  have hspot : spot = none := by
    have := World.cell?_spot (show w.cell? ⟨b, o, spot⟩ = _ by simpa [Addr.add] using h00)
    simpa using this
  subst hspot
  refine ⟨b, o, rfl, Nat.zero_le _, World.block_lt_of_cell? w _ (show w.cell? ⟨b, o, none⟩ = _ by simpa [Addr.add] using h00), fun i j hi hj => ?_⟩
  have hij := (World.cells?_some (h i hi)).2.2 j hj
  rw [add_add, add_spot, ← Nat.add_assoc] at hij
  rw [hij, List.getElem?_eq_getElem (by rw [hlen i hi]; exact hj), List.getD_eq_getElem?_getD, List.getElem?_eq_getElem (by rw [hlen i hi]; exact hj), Option.getD_some]
theorem ints_open {t e : TypeId} {fuel : Nat} {v : Value} {x : DataW H × List MemPlace} (ht : P.underlying t = some (.slice e)) (he : P.underlying e = some (.int .i64)) (hc : P.cellsOf e = 1)
    (h : DataW.trod enc P w 0 (fun _ => true) held fuel t [v] = some x) : ∃ xs, Ints w 0 w.heap.size v xs := by
  rcases open_ints ht he hc h with ⟨e, _⟩ | ⟨a, l, c, zs, e, _, hl, hm, hz, _, hcell, _⟩
  · injection e with e _
    exact ⟨[], none, 0, e, Nat.le_refl _, by simp [maxLen], fun _ => ⟨rfl, rfl⟩, fun h => absurd h (by simp)⟩
  · injection e with e _
    simp only [if_true] at hz
    have hlen : (zs.take l).length = l := by rw [List.length_take]; omega
    refine ⟨zs.take l, some a, c, by rw [hlen]; exact e, ?_⟩
    rw [hlen]
    have r := row_open (w := w) (a := a) (n := l) (c := c) (k := 1) (by omega) hl hm (CS := fun i => [.int .i64 (zs.getD i 0)]) (fun i hi => by
      rw [Nat.mul_one]; exact cells?_one (Nat.zero_le _) (hcell i (by omega)))
    refine ⟨r.le, r.cap, r.nil, fun hn => ?_⟩
    obtain ⟨b, o, e, h1, h2, h3⟩ := r.place hn
    refine ⟨b, o, e, h1, h2, fun i j hi hj => ?_⟩
    obtain rfl : j = 0 := by omega
    rw [h3 i 0 hi hj]
    simp [nth, List.getD_eq_getElem?_getD, hi]
theorem cons_open {t e q r : TypeId} {f0 : Field} {fuel : Nat} {v : Value} {x : DataW H × List MemPlace} (ht : P.underlying t = some (.slice e)) (he : P.underlying e = some (.struct #[f0])) (hce : P.cellsOf e = 1)
    (hf0 : f0.offset = 0) (hf1 : f0.type = q) (hq : P.underlying q = some (.slice r)) (hcq : P.cellsOf q = 1) (hr : P.underlying r = some (.int .i64)) (hcr : P.cellsOf r = 1)
    (h : DataW.trod enc P w 0 (fun _ => true) held fuel t [v] = some x) : ∃ cs, Cons w 0 w.heap.size v cs := by
  rcases open_slice ht h with ⟨e, _⟩ | ⟨a, l, c, m, n, D, Pl, e, _, hl, hm, hmm, _, hx⟩
  · injection e with e _
    exact ⟨[], none, 0, fun _ => undef, e, ⟨Nat.le_refl _, by simp [maxLen], fun _ => ⟨rfl, rfl⟩, fun h => absurd h (by simp)⟩, fun i h => absurd h (by simp)⟩
  · injection e with e _
    simp only [if_true] at hmm
    subst hmm
    have each : ∀ i, i < m → ∃ y : List Value × List Int, w.cells? 0 (a.add (i * 1)) 1 = some y.1 ∧ Ints w 0 w.heap.size (y.1.getD 0 undef) y.2 := by
      intro i hi
      obtain ⟨cs, h1, h2⟩ := hx i hi
      rw [hce] at h1
      have hlen := (World.cells?_some h1).2.1
      obtain ⟨u, rfl⟩ : ∃ u, cs = [u] := by
        match cs, hlen with
        | [u], _ => exact ⟨u, rfl⟩
      obtain ⟨xs, n', _, _, _, _, hf⟩ := DataW.trod_struct he h2
      have h3 := hf 0 f0 rfl
      rw [hf0, hf1, hcq] at h3
      simp only [List.drop_zero, List.take_succ_cons, List.take_zero] at h3
      obtain ⟨y, hy⟩ : ∃ y, xs[0]? = some y := by
        rcases hxs : xs[0]? with _ | y
        · rename_i hxl
          rw [List.getElem?_eq_none_iff] at hxs
          simp at hxl
          omega
        · exact ⟨y, rfl⟩
      rw [hy] at h3
      obtain ⟨zs, hz⟩ := ints_open hq hr hcr h3
      exact ⟨([u], zs), h1, hz⟩
    obtain ⟨Y, hY⟩ := choose_lt each
    refine ⟨(List.range l).map fun i => (Y i).2, some a, m, fun i => (Y i).1.getD 0 undef, by simpa using e, ?_, fun i hi => ?_⟩
    · have r := row_open (w := w) (a := a) (n := l) (c := m) (k := 1) (by omega) hl hm (CS := fun i => (Y i).1) (fun i hi => (hY i (by omega)).1)
      rw [List.length_map, List.length_range]
      refine ⟨r.le, r.cap, r.nil, fun hn => ?_⟩
      obtain ⟨b, o, e, h1, h2, h3⟩ := r.place hn
      refine ⟨b, o, e, h1, h2, fun i j hi hj => ?_⟩
      obtain rfl : j = 0 := by omega
      exact h3 i 0 hi hj
    · rw [List.length_map, List.length_range] at hi
      have := (hY i (by omega)).2
      rwa [nthL_of (by simpa using hi), List.getElem_map, List.getElem_range]
theorem decs_open {t e ti tc ec q r : TypeId} {g0 g1 g2 f0 : Field} {fuel : Nat} {v : Value} {x : DataW H × List MemPlace} (ht : P.underlying t = some (.slice e)) (he : P.underlying e = some (.struct #[g0, g1, g2])) (hce : P.cellsOf e = 3)
    (hg0 : g0.offset = 0) (ht0 : g0.type = ti) (hg1 : g1.offset = 1) (ht1 : g1.type = ti) (hg2 : g2.offset = 2) (ht2 : g2.type = tc) (hti : P.underlying ti = some (.int .i64)) (hci : P.cellsOf ti = 1) (hct : P.cellsOf tc = 1)
    (htc : P.underlying tc = some (.slice ec)) (hec : P.underlying ec = some (.struct #[f0])) (hcec : P.cellsOf ec = 1)
    (hf0 : f0.offset = 0) (hf1 : f0.type = q) (hq : P.underlying q = some (.slice r)) (hcq : P.cellsOf q = 1) (hr : P.underlying r = some (.int .i64)) (hcr : P.cellsOf r = 1)
    (h : DataW.trod enc P w 0 (fun _ => true) held fuel t [v] = some x) : ∃ ds, Decs w 0 w.heap.size v ds := by
  rcases open_slice ht h with ⟨e, _⟩ | ⟨a, l, c, m, n, D, Pl, e, _, hl, hm, hmm, _, hx⟩
  · injection e with e _
    exact ⟨[], none, 0, fun _ => undef, e, ⟨Nat.le_refl _, by simp [maxLen], fun _ => ⟨rfl, rfl⟩, fun h => absurd h (by simp)⟩, fun i h => absurd h (by simp)⟩
  · injection e with e _
    simp only [if_true] at hmm
    subst hmm
    haveI : Inhabited Dec := ⟨noDec⟩
    have each : ∀ i, i < m → ∃ y : List Value × Dec, w.cells? 0 (a.add (i * 3)) 3 = some y.1 ∧ y.1.getD 0 undef = .int .i64 y.2.frm ∧ y.1.getD 1 undef = .int .i64 y.2.to ∧ Cons w 0 w.heap.size (y.1.getD 2 undef) y.2.cons := by
      intro i hi
      obtain ⟨cs, h1, h2⟩ := hx i hi
      rw [hce] at h1
      have hlen := (World.cells?_some h1).2.1
      obtain ⟨u0, u1, u2, rfl⟩ : ∃ u0 u1 u2, cs = [u0, u1, u2] := by
        match cs, hlen with
        | [u0, u1, u2], _ => exact ⟨u0, u1, u2, rfl⟩
      obtain ⟨xs, n', _, _, _, hxl, hf⟩ := DataW.trod_struct he h2
      match xs, hxl with
      | [y0, y1, y2], _ =>
        have h3 := hf 0 g0 rfl
        have h4 := hf 1 g1 rfl
        have h5 := hf 2 g2 rfl
        rw [hg0, ht0, hci] at h3
        rw [hg1, ht1, hci] at h4
        rw [hg2, ht2, hct] at h5
        simp only [List.drop_zero, List.drop_succ_cons, List.take_succ_cons, List.take_zero, List.getElem?_cons_zero, List.getElem?_cons_succ] at h3 h4 h5
        obtain ⟨k0, e0, _⟩ := DataW.trod_int hti h3
        obtain ⟨k1, e1, _⟩ := DataW.trod_int hti h4
        obtain ⟨cs, hcs⟩ := cons_open htc hec hcec hf0 hf1 hq hcq hr hcr h5
        injection e0 with e0 _
        injection e1 with e1 _
        exact ⟨([u0, u1, u2], ⟨k0, k1, cs⟩), h1, e0, e1, hcs⟩
    obtain ⟨Y, hY⟩ := choose_lt each
    refine ⟨(List.range l).map fun i => (Y i).2, some a, m, fun i => (Y i).1.getD 2 undef, by simpa using e, ?_, fun i hi => ?_⟩
    · have r := row_open (w := w) (a := a) (n := l) (c := m) (k := 3) (by omega) hl hm (CS := fun i => (Y i).1) (fun i hi => (hY i (by omega)).1)
      rw [List.length_map, List.length_range]
      refine ⟨r.le, r.cap, r.nil, fun hn => ?_⟩
      obtain ⟨b, o, e, h1, h2, h3⟩ := r.place hn
      refine ⟨b, o, e, h1, h2, fun i j hi hj => ?_⟩
      rw [h3 i j hi hj, nthD_of (by simpa using hi), List.getElem_map, List.getElem_range]
      obtain ⟨_, c0, c1, _⟩ := hY i (by omega)
      rcases (by omega : j = 0 ∨ j = 1 ∨ j = 2) with rfl | rfl | rfl
      · exact congrArg some c0
      · exact congrArg some c1
      · rfl
    · rw [List.length_map, List.length_range] at hi
      have := (hY i (by omega)).2.2.2
      rwa [nthD_of (by simpa using hi), List.getElem_map, List.getElem_range]
end
end Go.Proofs.Ytdooageiopnhaaa
