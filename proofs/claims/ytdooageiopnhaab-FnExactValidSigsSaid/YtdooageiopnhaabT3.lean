/- What the exact laws ask of expressions: contracts of the sizes and of the equality; expressions as they come in. -/
import Derived.Test.YtdooageiopnhaabT2
import Derived.Test.YtdooageiopnhaabOp
namespace Go.Proofs.Ytdooageiopnhaab
open Go.RowKit Go.BigFrame Go.Deep Go.ChangeShapes
section
variable {H : Type} {enc : TypeId × Value → H} {P : Program} {w : World} {held : Bool}
/-- A slice of expressions comes in. -/
theorem exprs_open {t e ti : TypeId} {g0 g1 g2 : Field} (ht : P.underlying t = some (.slice e)) (he : P.underlying e = some (.struct #[g0, g1, g2])) (hce : P.cellsOf e = 3)
    (hg0 : g0.offset = 0) (ht0 : g0.type = ti) (hg1 : g1.offset = 1) (ht1 : g1.type = ti) (hg2 : g2.offset = 2) (ht2 : g2.type = t) (hti : P.underlying ti = some (.int .i64)) (hci : P.cellsOf ti = 1) (hct : P.cellsOf t = 1) :
    ∀ (fuel : Nat) (v : Value) (x : DataW H × List MemPlace), DataW.trod enc P w 0 (fun _ => true) held fuel t [v] = some x → ∃ es, Exs w 0 w.heap.size v es := by
  intro fuel
  induction fuel using Nat.strongRecOn with
  | _ fuel ih =>
  intro v x h
  rcases DataW.trod_slice ht h with ⟨e, _⟩ | ⟨a0, l0, c0, _, _, n0, hn0, _⟩
  · injection e with e _
    rw [e]
    exact ⟨[], .mk none 0 (fun _ => undef) [] ⟨Nat.le_refl _, by simp [maxLen], fun _ => ⟨rfl, rfl⟩, fun h => absurd h (by simp)⟩ (fun i h => absurd h (by simp))⟩
  · rcases open_slice_fuel ht h with ⟨e, _⟩ | ⟨a, l, c, n, hfu, e, hl, hm, hx⟩
    · injection e with e _
      rw [e]
      exact ⟨[], .mk none 0 (fun _ => undef) [] ⟨Nat.le_refl _, by simp [maxLen], fun _ => ⟨rfl, rfl⟩, fun h => absurd h (by simp)⟩ (fun i h => absurd h (by simp))⟩
    · injection e with e _
      haveI : Inhabited Ex := ⟨noEx⟩
      have each : ∀ i, i < l → ∃ y : List Value × Ex, w.cells? 0 (a.add (i * 3)) 3 = some y.1 ∧ y.1.getD 0 undef = .int .i64 y.2.op ∧ y.1.getD 1 undef = .int .i64 y.2.num ∧ Exs w 0 w.heap.size (y.1.getD 2 undef) y.2.kids := by
        intro i hi
        obtain ⟨cs, x', h1, h2⟩ := hx i hi
        rw [hce] at h1
        have hlen := (World.cells?_some h1).2.1
        obtain ⟨u0, u1, u2, rfl⟩ : ∃ u0 u1 u2, cs = [u0, u1, u2] := by
          match cs, hlen with
          | [u0, u1, u2], _ => exact ⟨u0, u1, u2, rfl⟩
        obtain ⟨xs, n', hn', _, _, hxl, hf⟩ := DataW.trod_struct he h2
        match xs, hxl with
        | [y0, y1, y2], _ =>
          have h3 := hf 0 g0 rfl
          have h4 := hf 1 g1 rfl
          have h5 := hf 2 g2 rfl
          rw [hg0, ht0, hci] at h3
          rw [hg1, ht1, hci] at h4
          rw [hg2, ht2, hct] at h5
          simp only [List.drop_zero, List.drop_succ_cons, List.take_succ_cons, List.take_zero, List.getElem?_cons_zero, List.getElem?_cons_succ] at h3 h4 h5
          obtain ⟨k0, e0, _⟩ := DataW.trod_int hti h3
          obtain ⟨k1, e1, _⟩ := DataW.trod_int hti h4
          obtain ⟨es, hes⟩ := ih n' (by omega) u2 y2 h5
          injection e0 with e0 _
          injection e1 with e1 _
          exact ⟨([u0, u1, u2], .node k0 k1 es), h1, e0, e1, hes⟩
      obtain ⟨Y, hY⟩ := choose_lt each
      have hlen : ((List.range l).map fun i => (Y i).2).length = l := by simp
      have hN : ∀ i, i < l → nthX ((List.range l).map fun i => (Y i).2) i = (Y i).2 := fun i hi => by rw [nthX_of (by simpa using hi), List.getElem_map, List.getElem_range]
      refine ⟨(List.range l).map fun i => (Y i).2, ?_⟩
      have hv : v = .slice (some a) ((List.range l).map fun i => (Y i).2).length c := by rw [hlen]; exact e
      rw [hv]
      refine .mk (some a) c (fun i => (Y i).1.getD 2 undef) _ ?_ fun i hi => ?_
      · have r := row_open (w := w) (a := a) (n := l) (c := c) (k := 3) (by omega) hl hm (CS := fun i => (Y i).1) (fun i hi => (hY i hi).1)
        rw [hlen]
        refine ⟨r.le, r.cap, r.nil, fun hn => ?_⟩
        obtain ⟨b, o, e, h1, h2, h3⟩ := r.place hn
        refine ⟨b, o, e, h1, h2, fun i j hi hj => ?_⟩
        rw [h3 i j hi hj, hN i hi]
        obtain ⟨_, c0, c1, _⟩ := hY i hi
        rcases (by omega : j = 0 ∨ j = 1 ∨ j = 2) with rfl | rfl | rfl
        · exact congrArg some c0
        · exact congrArg some c1
        · rfl
      · rw [hlen] at hi
        rw [hN i hi]
        exact (hY i hi).2.2.2
/-- One expression comes in. -/
theorem expr_open {t e ti : TypeId} {g0 g1 g2 : Field} {fuel : Nat} {vs : List Value} {x : DataW H × List MemPlace} (he : P.underlying e = some (.struct #[g0, g1, g2])) (hce : P.cellsOf e = 3)
    (hg0 : g0.offset = 0) (ht0 : g0.type = ti) (hg1 : g1.offset = 1) (ht1 : g1.type = ti) (hg2 : g2.offset = 2) (ht2 : g2.type = t) (hti : P.underlying ti = some (.int .i64)) (hci : P.cellsOf ti = 1) (hct : P.cellsOf t = 1)
    (ht : P.underlying t = some (.slice e)) (h : DataW.trod enc P w 0 (fun _ => true) held fuel e vs = some x) : ∃ a b u ks, vs = [.int .i64 a, .int .i64 b, u] ∧ Exs w 0 w.heap.size u ks := by
  obtain ⟨xs, n', hn', _, hlen, hxl, hf⟩ := DataW.trod_struct he h
  rw [hce] at hlen
  obtain ⟨u0, u1, u2, rfl⟩ : ∃ u0 u1 u2, vs = [u0, u1, u2] := by
    match vs, hlen with
    | [u0, u1, u2], _ => exact ⟨u0, u1, u2, rfl⟩
  match xs, hxl with
  | [y0, y1, y2], _ =>
    have h3 := hf 0 g0 rfl
    have h4 := hf 1 g1 rfl
    have h5 := hf 2 g2 rfl
    rw [hg0, ht0, hci] at h3
    rw [hg1, ht1, hci] at h4
    rw [hg2, ht2, hct] at h5
    simp only [List.drop_zero, List.drop_succ_cons, List.take_succ_cons, List.take_zero, List.getElem?_cons_zero, List.getElem?_cons_succ] at h3 h4 h5
    obtain ⟨k0, e0, _⟩ := DataW.trod_int hti h3
    obtain ⟨k1, e1, _⟩ := DataW.trod_int hti h4
    obtain ⟨es, hes⟩ := exprs_open ht he hce hg0 ht0 hg1 ht1 hg2 ht2 hti hci hct n' u2 y2 h5
    injection e0 with e0 _
    injection e1 with e1 _
    exact ⟨k0, k1, u2, es, by rw [e0, e1], hes⟩
end
end Go.Proofs.Ytdooageiopnhaab
