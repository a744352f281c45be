/- Expressions and programs as they come in, with the ranges of their numbers. Nothing here speaks of a program's code. -/
import Derived.Test.YtihmkaodjpgikaaGreatPt6
import Derived.Test.YtihmkaodjpgikaaGreatGb
import Derived.Test.YtihmkaodjpgikaaGreatGe
namespace Go.Proofs.YtihmkaodjpgikaaGreat
open Go.RowKit Go.BigFrame Go.Deep Go.ChangeShapes
theorem rngL_all {es : List Ex} (h : ∀ i, i < es.length → (nthX es i).rng) : rngL es := by
  induction es with
  | nil => simp [rngL]
  | cons e es ih =>
    simp only [rngL]
    refine ⟨h 0 (by simp), ih fun i hi => ?_⟩
    have := h (i + 1) (by simpa using hi)
    simpa [nthX] using this
theorem lit_le {n : Int} (h : (Lit.int .i64 n).wf = true) : n ≤ 9223372036854775807 := by
  unfold Lit.wf at h
  simp only [Bool.and_eq_true, decide_eq_true_eq] at h
  exact Int.le_trans h.2 (by first | decide | simp [IntKind.max])
/-- All numbers of the bodies are integers of the machine. -/
def progR (p : Pg) : Prop := ∀ k, k < p.funcs.length → (nthF p.funcs k).body.rng
section
variable {H : Type} {enc : TypeId × Value → H} {P : Program} {w : World} {held : Bool}
/-- A slice of expressions comes in. -/
theorem exprs_openR {t e ti : TypeId} {g0 g1 g2 : Field} (ht : P.underlying t = some (.slice e)) (he : P.underlying e = some (.struct #[g0, g1, g2])) (hce : P.cellsOf e = 3)
    (hg0 : g0.offset = 0) (ht0 : g0.type = ti) (hg1 : g1.offset = 1) (ht1 : g1.type = ti) (hg2 : g2.offset = 2) (ht2 : g2.type = t) (hti : P.underlying ti = some (.int .i64)) (hci : P.cellsOf ti = 1) (hct : P.cellsOf t = 1) :
    ∀ (fuel : Nat) (v : Value) (x : DataW H × List MemPlace), DataW.trod enc P w 0 (fun _ => true) held fuel t [v] = some x → ∃ es, Exs w 0 w.heap.size v es ∧ rngL es := by
  intro fuel
  induction fuel using Nat.strongRecOn with
  | _ fuel ih =>
  intro v x h
  rcases DataW.trod_slice ht h with ⟨e, _⟩ | ⟨a0, l0, c0, _, _, n0, hn0, _⟩
  · injection e with e _
    rw [e]
    exact ⟨[], .mk none 0 (fun _ => undef) [] ⟨Nat.le_refl _, by simp [maxLen], fun _ => ⟨rfl, rfl⟩, fun h => absurd h (by simp)⟩ (fun i h => absurd h (by simp)), by simp [rngL]⟩
  · rcases open_slice_fuel ht h with ⟨e, _⟩ | ⟨a, l, c, n, hfu, e, hl, hm, hx⟩
    · injection e with e _
      rw [e]
      exact ⟨[], .mk none 0 (fun _ => undef) [] ⟨Nat.le_refl _, by simp [maxLen], fun _ => ⟨rfl, rfl⟩, fun h => absurd h (by simp)⟩ (fun i h => absurd h (by simp)), by simp [rngL]⟩
    · injection e with e _
      haveI : Inhabited Ex := ⟨noEx⟩
      have each : ∀ i, i < l → ∃ y : List Value × Ex, w.cells? 0 (a.add (i * 3)) 3 = some y.1 ∧ y.1.getD 0 undef = .int .i64 y.2.op ∧ y.1.getD 1 undef = .int .i64 y.2.num ∧ Exs w 0 w.heap.size (y.1.getD 2 undef) y.2.kids ∧ y.2.rng := by
        intro i hi
        obtain ⟨cs, x', h1, h2⟩ := hx i hi
        rw [hce] at h1
        have hlen := (World.cells?_some h1).2.1
        obtain ⟨u0, u1, u2, rfl⟩ : ∃ u0 u1 u2, cs = [u0, u1, u2] := by
          match cs, hlen with
          | [u0, u1, u2], _ => exact ⟨u0, u1, u2, rfl⟩
        obtain ⟨xs, n', hn', _, _, hxl, hf⟩ := DataW.trod_struct he h2
        match xs, hxl with
        | [y0, y1, y2], _ =>
          have h3 := hf 0 g0 rfl
          have h4 := hf 1 g1 rfl
          have h5 := hf 2 g2 rfl
          rw [hg0, ht0, hci] at h3
          rw [hg1, ht1, hci] at h4
          rw [hg2, ht2, hct] at h5
          simp only [List.drop_zero, List.drop_succ_cons, List.take_succ_cons, List.take_zero, List.getElem?_cons_zero, List.getElem?_cons_succ] at h3 h4 h5
          obtain ⟨k0, e0, _⟩ := DataW.trod_int hti h3
          obtain ⟨k1, e1, _, b1⟩ := DataW.trod_int hti h4
          obtain ⟨es, hes, hre⟩ := ih n' (by omega) u2 y2 h5
          injection e0 with e0 _
          injection e1 with e1 _
          exact ⟨([u0, u1, u2], .node k0 k1 es), h1, e0, e1, hes, by simp only [Ex.rng]; exact ⟨lit_le b1, hre⟩⟩
      obtain ⟨Y, hY⟩ := choose_lt each
      have hlen : ((List.range l).map fun i => (Y i).2).length = l := by simp
      have hN : ∀ i, i < l → nthX ((List.range l).map fun i => (Y i).2) i = (Y i).2 := fun i hi => by rw [nthX_of (by simpa using hi), List.getElem_map, List.getElem_range]
      refine ⟨(List.range l).map fun i => (Y i).2, ?_, rngL_all fun i hi => by rw [hlen] at hi; rw [hN i hi]; exact (hY i hi).2.2.2.2⟩
      have hv : v = .slice (some a) ((List.range l).map fun i => (Y i).2).length c := by rw [hlen]; exact e
      rw [hv]
      refine .mk (some a) c (fun i => (Y i).1.getD 2 undef) _ ?_ fun i hi => ?_
      · have r := row_open (w := w) (a := a) (n := l) (c := c) (k := 3) (by omega) hl hm (CS := fun i => (Y i).1) (fun i hi => (hY i hi).1)
        rw [hlen]
        refine ⟨r.le, r.cap, r.nil, fun hn => ?_⟩
        obtain ⟨b, o, e, h1, h2, h3⟩ := r.place hn
        refine ⟨b, o, e, h1, h2, fun i j hi hj => ?_⟩
        rw [h3 i j hi hj, hN i hi]
        obtain ⟨_, c0, c1, _⟩ := hY i hi
        rcases (by omega : j = 0 ∨ j = 1 ∨ j = 2) with rfl | rfl | rfl
        · exact congrArg some c0
        · exact congrArg some c1
        · rfl
      · rw [hlen] at hi
        rw [hN i hi]
        exact (hY i hi).2.2.2.1
/-- One expression comes in. -/
theorem expr_openR {t e ti : TypeId} {g0 g1 g2 : Field} {fuel : Nat} {vs : List Value} {x : DataW H × List MemPlace} (he : P.underlying e = some (.struct #[g0, g1, g2])) (hce : P.cellsOf e = 3)
    (hg0 : g0.offset = 0) (ht0 : g0.type = ti) (hg1 : g1.offset = 1) (ht1 : g1.type = ti) (hg2 : g2.offset = 2) (ht2 : g2.type = t) (hti : P.underlying ti = some (.int .i64)) (hci : P.cellsOf ti = 1) (hct : P.cellsOf t = 1)
    (ht : P.underlying t = some (.slice e)) (h : DataW.trod enc P w 0 (fun _ => true) held fuel e vs = some x) : ∃ a b u ks, vs = [.int .i64 a, .int .i64 b, u] ∧ Exs w 0 w.heap.size u ks ∧ b ≤ 9223372036854775807 ∧ rngL ks := by
  obtain ⟨xs, n', hn', _, hlen, hxl, hf⟩ := DataW.trod_struct he h
  rw [hce] at hlen
  obtain ⟨u0, u1, u2, rfl⟩ : ∃ u0 u1 u2, vs = [u0, u1, u2] := by
    match vs, hlen with
    | [u0, u1, u2], _ => exact ⟨u0, u1, u2, rfl⟩
  match xs, hxl with
  | [y0, y1, y2], _ =>
    have h3 := hf 0 g0 rfl
    have h4 := hf 1 g1 rfl
    have h5 := hf 2 g2 rfl
    rw [hg0, ht0, hci] at h3
    rw [hg1, ht1, hci] at h4
    rw [hg2, ht2, hct] at h5
    simp only [List.drop_zero, List.drop_succ_cons, List.take_succ_cons, List.take_zero, List.getElem?_cons_zero, List.getElem?_cons_succ] at h3 h4 h5
    obtain ⟨k0, e0, _⟩ := DataW.trod_int hti h3
    obtain ⟨k1, e1, _, b1⟩ := DataW.trod_int hti h4
    obtain ⟨es, hes, hre⟩ := exprs_openR ht he hce hg0 ht0 hg1 ht1 hg2 ht2 hti hci hct n' u2 y2 h5
    injection e0 with e0 _
    injection e1 with e1 _
    exact ⟨k0, k1, u2, es, by rw [e0, e1], hes, lit_le b1, hre⟩
/-- A slice of functions comes in. -/
theorem funcs_openR {t e tl te tk ti : TypeId} {g0 g1 g2 x0 x1 x2 : Field} {fuel : Nat} {v : Value} {x : DataW H × List MemPlace} (ht : P.underlying t = some (.slice e)) (he : P.underlying e = some (.struct #[g0, g1, g2])) (hce : P.cellsOf e = 5)
    (o0 : g0.offset = 0) (t0 : g0.type = tl) (o1 : g1.offset = 1) (t1 : g1.type = ti) (o2 : g2.offset = 2) (t2 : g2.type = te)
    (htl : P.underlying tl = some (.slice ti)) (hcl : P.cellsOf tl = 1) (hti : P.underlying ti = some (.int .i64)) (hci : P.cellsOf ti = 1)
    (hte : P.underlying te = some (.struct #[x0, x1, x2])) (hcte : P.cellsOf te = 3) (p0 : x0.offset = 0) (s0 : x0.type = ti) (p1 : x1.offset = 1) (s1 : x1.type = ti) (p2 : x2.offset = 2) (s2 : x2.type = tk)
    (htk : P.underlying tk = some (.slice te)) (hck : P.cellsOf tk = 1)
    (h : DataW.trod enc P w 0 (fun _ => true) held fuel t [v] = some x) : ∃ fs, Fns w 0 w.heap.size v fs ∧ ∀ k, k < fs.length → (nthF fs k).body.rng := by
  rcases open_slice ht h with ⟨e, _⟩ | ⟨a, l, c, m, n, D, Pl, e, _, hl, hm, hmm, _, hx⟩
  · injection e with e _
    exact ⟨[], ⟨none, 0, fun _ => undef, fun _ => undef, e, ⟨Nat.le_refl _, by simp [maxLen], fun _ => ⟨rfl, rfl⟩, fun h => absurd h (by simp)⟩, fun i h => absurd h (by simp), fun i h => absurd h (by simp)⟩, fun i h => absurd h (by simp)⟩
  · injection e with e _
    simp only [if_true] at hmm
    subst hmm
    haveI : Inhabited Fn := ⟨noFn⟩
    have each : ∀ i, i < m → ∃ y : List Value × Fn, w.cells? 0 (a.add (i * 5)) 5 = some y.1 ∧ y.1.getD 1 undef = .int .i64 y.2.result ∧ y.1.getD 2 undef = .int .i64 y.2.body.op ∧ y.1.getD 3 undef = .int .i64 y.2.body.num ∧
        Ints w 0 w.heap.size (y.1.getD 0 undef) y.2.params ∧ Exs w 0 w.heap.size (y.1.getD 4 undef) y.2.body.kids ∧ y.2.body.rng := by
      intro i hi
      obtain ⟨cs, h1, h2⟩ := hx i hi
      rw [hce] at h1
      have hlen := (World.cells?_some h1).2.1
      obtain ⟨u0, u1, u2, u3, u4, rfl⟩ : ∃ u0 u1 u2 u3 u4, cs = [u0, u1, u2, u3, u4] := by
        match cs, hlen with
        | [u0, u1, u2, u3, u4], _ => exact ⟨u0, u1, u2, u3, u4, rfl⟩
      obtain ⟨xs, n', _, _, _, hxl, hf⟩ := DataW.trod_struct he h2
      match xs, hxl with
      | [y0, y1, y2], _ =>
        have h3 := hf 0 g0 rfl
        have h4 := hf 1 g1 rfl
        have h5 := hf 2 g2 rfl
        rw [o0, t0, hcl] at h3
        rw [o1, t1, hci] at h4
        rw [o2, t2, hcte] at h5
        simp only [List.drop_zero, List.drop_succ_cons, List.take_succ_cons, List.take_zero, List.getElem?_cons_zero, List.getElem?_cons_succ] at h3 h4 h5
        obtain ⟨ps, hps⟩ := ints_open htl hti hci h3
        obtain ⟨k1, e1, _⟩ := DataW.trod_int hti h4
        obtain ⟨p, q, u, ks, ee, hks, hq1, hq2⟩ := expr_openR hte hcte p0 s0 p1 s1 p2 s2 hti hci hck htk h5
        injection e1 with e1 _
        injection ee with ee1 ee
        injection ee with ee2 ee
        injection ee with ee3 _
        subst ee3
        exact ⟨([u0, u1, u2, u3, u4], ⟨ps, k1, .node p q ks⟩), h1, e1, ee1, ee2, hps, hks, by simp only [Ex.rng]; exact ⟨hq1, hq2⟩⟩
    obtain ⟨Y, hY⟩ := choose_lt each
    refine ⟨(List.range l).map fun i => (Y i).2, ⟨some a, m, fun i => (Y i).1.getD 0 undef, fun i => (Y i).1.getD 4 undef, by simpa using e, ?_, fun i hi => ?_, fun i hi => ?_⟩, fun i hi => ?_⟩
    · have r := row_open (w := w) (a := a) (n := l) (c := m) (k := 5) (by omega) hl hm (CS := fun i => (Y i).1) (fun i hi => (hY i (by omega)).1)
      rw [List.length_map, List.length_range]
      refine ⟨r.le, r.cap, r.nil, fun hn => ?_⟩
      obtain ⟨b, o, e, h1, h2, h3⟩ := r.place hn
      refine ⟨b, o, e, h1, h2, fun i j hi hj => ?_⟩
      rw [h3 i j hi hj, nthF_of (by simpa using hi), List.getElem_map, List.getElem_range]
      obtain ⟨_, c1, c2, c3, _⟩ := hY i (by omega)
      rcases (by omega : j = 0 ∨ j = 1 ∨ j = 2 ∨ j = 3 ∨ j = 4) with rfl | rfl | rfl | rfl | rfl
      · rfl
      · exact congrArg some c1
      · exact congrArg some c2
      · exact congrArg some c3
      · rfl
    · rw [List.length_map, List.length_range] at hi
      have := (hY i (by omega)).2.2.2.2.1
      rwa [nthF_of (by simpa using hi), List.getElem_map, List.getElem_range]
    · rw [List.length_map, List.length_range] at hi
      have := (hY i (by omega)).2.2.2.2.2.1
      rwa [nthF_of (by simpa using hi), List.getElem_map, List.getElem_range]
    · rw [List.length_map, List.length_range] at hi
      have := (hY i (by omega)).2.2.2.2.2.2
      rwa [nthF_of (by simpa using hi), List.getElem_map, List.getElem_range]
/-- One program comes in. -/
theorem prog_openR {tp td ed tc ec q t e tl te tk ti : TypeId} {r0 r1 d0 d1 d2 f0 g0 g1 g2 x0 x1 x2 : Field} {fuel : Nat} {vs : List Value} {x : DataW H × List MemPlace} (htp : P.underlying tp = some (.struct #[r0, r1])) (hcp : P.cellsOf tp = 2)
    (a0 : r0.offset = 0) (b0 : r0.type = td) (a1 : r1.offset = 1) (b1 : r1.type = t) (hctd : P.cellsOf td = 1) (hct : P.cellsOf t = 1)
    (htd : P.underlying td = some (.slice ed)) (hed : P.underlying ed = some (.struct #[d0, d1, d2])) (hced : P.cellsOf ed = 3)
    (hg0 : d0.offset = 0) (ht0 : d0.type = ti) (hg1 : d1.offset = 1) (ht1 : d1.type = ti) (hg2 : d2.offset = 2) (ht2 : d2.type = tc) (hctc : P.cellsOf tc = 1)
    (htc : P.underlying tc = some (.slice ec)) (hec : P.underlying ec = some (.struct #[f0])) (hcec : P.cellsOf ec = 1) (hf0 : f0.offset = 0) (hf1 : f0.type = q) (hq : P.underlying q = some (.slice ti)) (hcq : P.cellsOf q = 1)
    (ht : P.underlying t = some (.slice e)) (he : P.underlying e = some (.struct #[g0, g1, g2])) (hce : P.cellsOf e = 5)
    (o0 : g0.offset = 0) (t0 : g0.type = tl) (o1 : g1.offset = 1) (t1 : g1.type = ti) (o2 : g2.offset = 2) (t2 : g2.type = te)
    (htl : P.underlying tl = some (.slice ti)) (hcl : P.cellsOf tl = 1) (hti : P.underlying ti = some (.int .i64)) (hci : P.cellsOf ti = 1)
    (hte : P.underlying te = some (.struct #[x0, x1, x2])) (hcte : P.cellsOf te = 3) (p0 : x0.offset = 0) (s0 : x0.type = ti) (p1 : x1.offset = 1) (s1 : x1.type = ti) (p2 : x2.offset = 2) (s2 : x2.type = tk)
    (htk : P.underlying tk = some (.slice te)) (hck : P.cellsOf tk = 1)
    (h : DataW.trod enc P w 0 (fun _ => true) held fuel tp vs = some x) : ∃ u v p, vs = [u, v] ∧ Pgm w 0 w.heap.size (.agg #[u, v]) p ∧ progR p := by
  obtain ⟨xs, n', hn', _, hlen, hxl, hf⟩ := DataW.trod_struct htp h
  rw [hcp] at hlen
  obtain ⟨u0, u1, rfl⟩ : ∃ u0 u1, vs = [u0, u1] := by
    match vs, hlen with
    | [u0, u1], _ => exact ⟨u0, u1, rfl⟩
  match xs, hxl with
  | [y0, y1], _ =>
    have h3 := hf 0 r0 rfl
    have h4 := hf 1 r1 rfl
    rw [a0, b0, hctd] at h3
    rw [a1, b1, hct] at h4
    simp only [List.drop_zero, List.drop_succ_cons, List.take_succ_cons, List.take_zero, List.getElem?_cons_zero, List.getElem?_cons_succ] at h3 h4
    obtain ⟨ds, hds⟩ := decs_open htd hed hced hg0 ht0 hg1 ht1 hg2 ht2 hti hci hctc htc hec hcec hf0 hf1 hq hcq hti hci h3
    obtain ⟨fs, hfs, hfr⟩ := funcs_openR ht he hce o0 t0 o1 t1 o2 t2 htl hcl hti hci hte hcte p0 s0 p1 s1 p2 s2 htk hck h4
    exact ⟨u0, u1, ⟨ds, fs⟩, rfl, ⟨u0, u1, rfl, hds, hfs⟩, hfr⟩
end
end Go.Proofs.YtihmkaodjpgikaaGreat
