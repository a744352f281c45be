/- Blocks as they come in. Nothing here speaks of a program's code. -/
import Derived.Test.YtdooageiopnhaaaY0
import Derived.Test.YtdooageiopnhaaaOp
namespace Go.Proofs.Ytdooageiopnhaaa
open Go.RowKit Go.Deep Go.ChangeShapes
section
variable {H : Type} {enc : TypeId × Value → H} {P : Program} {w : World} {held : Bool}
theorem ints_nil (w : World) (L U : Nat) : Ints w L U (.slice none 0 0) [] := ⟨none, 0, rfl, Nat.le_refl _, by simp [maxLen], fun _ => ⟨rfl, rfl⟩, fun h => absurd h (by simp)⟩
/-- A slice of steps comes in. -/
theorem steps_open {t e ti tl tb eb : TypeId} {g0 g1 g2 g3 g4 h0 h1 : Field} (ht : P.underlying t = some (.slice e)) (he : P.underlying e = some (.struct #[g0, g1, g2, g3, g4])) (hce : P.cellsOf e = 5)
    (o0 : g0.offset = 0) (t0 : g0.type = ti) (o1 : g1.offset = 1) (t1 : g1.type = ti) (o2 : g2.offset = 2) (t2 : g2.type = ti) (o3 : g3.offset = 3) (t3 : g3.type = tl) (o4 : g4.offset = 4) (t4 : g4.type = tb)
    (hti : P.underlying ti = some (.int .i64)) (hci : P.cellsOf ti = 1) (htl : P.underlying tl = some (.slice ti)) (hcl : P.cellsOf tl = 1) (htb : P.underlying tb = some (.slice eb)) (hcb : P.cellsOf tb = 1)
    (heb : P.underlying eb = some (.struct #[h0, h1])) (hceb : P.cellsOf eb = 2) (p0 : h0.offset = 0) (s0 : h0.type = t) (p1 : h1.offset = 1) (s1 : h1.type = ti) (hct : P.cellsOf t = 1) :
    ∀ (fuel : Nat) (v : Value) (x : DataW H × List MemPlace), DataW.trod enc P w 0 (fun _ => true) held fuel t [v] = some x → ∃ ss, Sts w 0 w.heap.size v ss := by
  intro fuel
  induction fuel using Nat.strongRecOn with
  | _ fuel ih =>
  intro v x h
  rcases open_slice_fuel ht h with ⟨e, _⟩ | ⟨a, l, c, n, hfu, e, hl, hm, hx⟩
  · injection e with e _
    rw [e]
    exact ⟨[], .mk none 0 (fun _ => undef) (fun _ => none) (fun _ => 0) (fun _ _ => undef) [] ⟨Nat.le_refl _, by simp [maxLen], fun _ => ⟨rfl, rfl⟩, fun h => absurd h (by simp)⟩ (fun i h => absurd h (by simp)) (fun i h => absurd h (by simp)) (fun i h => absurd h (by simp))⟩
  · injection e with e _
    haveI : Inhabited St := ⟨noSt⟩
    haveI : Inhabited Bl := ⟨noBl⟩
    have each : ∀ i, i < l → ∃ y : List Value × St × Option Addr × Nat × (Nat → Value), w.cells? 0 (a.add (i * 5)) 5 = some y.1 ∧ y.1.getD 0 undef = .int .i64 y.2.1.op ∧ y.1.getD 1 undef = .int .i64 y.2.1.num ∧ y.1.getD 2 undef = .int .i64 y.2.1.into ∧ Ints w 0 w.heap.size (y.1.getD 3 undef) y.2.1.args ∧
        y.1.getD 4 undef = .slice y.2.2.1 y.2.1.kids.length y.2.2.2.1 ∧ Row w 0 w.heap.size 2 y.2.2.1 y.2.1.kids.length y.2.2.2.1 (fun j x => blCell (nthB y.2.1.kids j) (y.2.2.2.2 j) x) ∧ ∀ j, j < y.2.1.kids.length → Sts w 0 w.heap.size (y.2.2.2.2 j) (nthB y.2.1.kids j).steps := by
      intro i hi
      obtain ⟨cs, x', h1', h2'⟩ := hx i hi
      rw [hce] at h1'
      have hlen := (World.cells?_some h1').2.1
      obtain ⟨u0, u1, u2, u3, u4, rfl⟩ : ∃ u0 u1 u2 u3 u4, cs = [u0, u1, u2, u3, u4] := by
        match cs, hlen with
        | [u0, u1, u2, u3, u4], _ => exact ⟨u0, u1, u2, u3, u4, rfl⟩
      obtain ⟨xs, n', hn', _, _, hxl, hf⟩ := DataW.trod_struct he h2'
      match xs, hxl with
      | [y0, y1, y2, y3, y4], _ =>
        have f0 := hf 0 g0 rfl
        have f1 := hf 1 g1 rfl
        have f2 := hf 2 g2 rfl
        have f3 := hf 3 g3 rfl
        have f4 := hf 4 g4 rfl
        rw [o0, t0, hci] at f0
        rw [o1, t1, hci] at f1
        rw [o2, t2, hci] at f2
        rw [o3, t3, hcl] at f3
        rw [o4, t4, hcb] at f4
        simp only [List.drop_zero, List.drop_succ_cons, List.take_succ_cons, List.take_zero, List.getElem?_cons_zero, List.getElem?_cons_succ] at f0 f1 f2 f3 f4
        obtain ⟨k0, e0, _⟩ := DataW.trod_int hti f0
        obtain ⟨k1, e1, _⟩ := DataW.trod_int hti f1
        obtain ⟨k2, e2, _⟩ := DataW.trod_int hti f2
        obtain ⟨as, has⟩ := ints_open htl hti hci f3
        injection e0 with e0 _
        injection e1 with e1 _
        injection e2 with e2 _
        rcases open_slice_fuel htb f4 with ⟨eb', _⟩ | ⟨ab, lb, cb, nb, hfb, eb', hlb, hmb, hxb⟩
        · injection eb' with eb' _
          exact ⟨([u0, u1, u2, u3, u4], .mk k0 k1 k2 as [], none, 0, fun _ => undef), h1', e0, e1, e2, has, eb', ⟨Nat.le_refl _, by simp [maxLen], fun _ => ⟨rfl, rfl⟩, fun h => absurd h (by simp [St.kids])⟩, fun j hj => absurd hj (by simp [St.kids])⟩
        · injection eb' with eb' _
          have eachb : ∀ j, j < lb → ∃ z : List Value × Bl, w.cells? 0 (ab.add (j * 2)) 2 = some z.1 ∧ z.1.getD 1 undef = .int .i64 z.2.result ∧ Sts w 0 w.heap.size (z.1.getD 0 undef) z.2.steps := by
            intro j hj
            obtain ⟨cs, x'', q1, q2⟩ := hxb j hj
            rw [hceb] at q1
            have hlen := (World.cells?_some q1).2.1
            obtain ⟨v0, v1, rfl⟩ : ∃ v0 v1, cs = [v0, v1] := by
              match cs, hlen with
              | [v0, v1], _ => exact ⟨v0, v1, rfl⟩
            obtain ⟨xs, n'', hn'', _, _, hxl, hf⟩ := DataW.trod_struct heb q2
            match xs, hxl with
            | [z0, z1], _ =>
              have f0 := hf 0 h0 rfl
              have f1 := hf 1 h1 rfl
              rw [p0, s0, hct] at f0
              rw [p1, s1, hci] at f1
              simp only [List.drop_zero, List.drop_succ_cons, List.take_succ_cons, List.take_zero, List.getElem?_cons_zero, List.getElem?_cons_succ] at f0 f1
              obtain ⟨k, ek, _⟩ := DataW.trod_int hti f1
              obtain ⟨ss, hss⟩ := ih n'' (by omega) v0 z0 f0
              injection ek with ek _
              exact ⟨([v0, v1], .mk ss k), q1, ek, hss⟩
          obtain ⟨Z, hZ⟩ := choose_lt eachb
          have hlenb : ((List.range lb).map fun j => (Z j).2).length = lb := by simp
          have hNb : ∀ j, j < lb → nthB ((List.range lb).map fun j => (Z j).2) j = (Z j).2 := fun j hj => by rw [nthB_of (by simpa using hj), List.getElem_map, List.getElem_range]
          refine ⟨([u0, u1, u2, u3, u4], .mk k0 k1 k2 as ((List.range lb).map fun j => (Z j).2), some ab, cb, fun j => (Z j).1.getD 0 undef), h1', e0, e1, e2, has, ?_, ?_, fun j hj => ?_⟩
          · show u4 = .slice (some ab) ((List.range lb).map fun j => (Z j).2).length cb
            rw [hlenb]; exact eb'
          · show Row w 0 w.heap.size 2 (some ab) ((List.range lb).map fun j => (Z j).2).length cb _
            have r := row_open (w := w) (a := ab) (n := lb) (c := cb) (k := 2) (by omega) hlb hmb (CS := fun j => (Z j).1) (fun j hj => (hZ j hj).1)
            rw [hlenb]
            refine ⟨r.le, r.cap, r.nil, fun hn => ?_⟩
            obtain ⟨b, o, e, r1, r2, r3⟩ := r.place hn
            refine ⟨b, o, e, r1, r2, fun j x hj hx => ?_⟩
            rw [r3 j x hj hx]
            show _ = some (blCell (nthB ((List.range lb).map fun j => (Z j).2) j) _ x)
            rw [hNb j hj]
            obtain ⟨_, c1, _⟩ := hZ j hj
            rcases (by omega : x = 0 ∨ x = 1) with rfl | rfl
            · rfl
            · exact congrArg some c1
          · have hj' : j < lb := by simpa [St.kids] using hj
            show Sts w 0 w.heap.size _ (nthB ((List.range lb).map fun j => (Z j).2) j).steps
            rw [hNb j hj']
            exact (hZ j hj').2.2
    obtain ⟨Y, hY⟩ := choose_lt each
    have hlen : ((List.range l).map fun i => (Y i).2.1).length = l := by simp
    have hN : ∀ i, i < l → nthS ((List.range l).map fun i => (Y i).2.1) i = (Y i).2.1 := fun i hi => by rw [nthS_of (by simpa using hi), List.getElem_map, List.getElem_range]
    refine ⟨(List.range l).map fun i => (Y i).2.1, ?_⟩
    have hv : v = .slice (some a) ((List.range l).map fun i => (Y i).2.1).length c := by rw [hlen]; exact e
    rw [hv]
    refine .mk (some a) c (fun i => (Y i).1.getD 3 undef) (fun i => (Y i).2.2.1) (fun i => (Y i).2.2.2.1) (fun i => (Y i).2.2.2.2) _ ?_ (fun i hi => ?_) (fun i hi => ?_) (fun i hi j hj => ?_)
    · have r := row_open (w := w) (a := a) (n := l) (c := c) (k := 5) (by omega) hl hm (CS := fun i => (Y i).1) (fun i hi => (hY i hi).1)
      rw [hlen]
      refine ⟨r.le, r.cap, r.nil, fun hn => ?_⟩
      obtain ⟨b, o, e, r1, r2, r3⟩ := r.place hn
      refine ⟨b, o, e, r1, r2, fun i j hi hj => ?_⟩
      rw [r3 i j hi hj, hN i hi]
      obtain ⟨_, c0, c1, c2, _, c4, _⟩ := hY i hi
      rcases (by omega : j = 0 ∨ j = 1 ∨ j = 2 ∨ j = 3 ∨ j = 4) with rfl | rfl | rfl | rfl | rfl
      · exact congrArg some c0
      · exact congrArg some c1
      · exact congrArg some c2
      · rfl
      · exact congrArg some c4
    · rw [hlen] at hi
      rw [hN i hi]
      exact (hY i hi).2.2.2.2.1
    · rw [hlen] at hi
      rw [hN i hi]
      exact (hY i hi).2.2.2.2.2.2.1
    · rw [hlen] at hi
      rw [hN i hi] at hj ⊢
      exact (hY i hi).2.2.2.2.2.2.2 j hj
/-- One block comes in. -/
theorem block_open {t e ti tl tb eb : TypeId} {g0 g1 g2 g3 g4 h0 h1 : Field} {fuel : Nat} {vs : List Value} {x : DataW H × List MemPlace} (ht : P.underlying t = some (.slice e)) (he : P.underlying e = some (.struct #[g0, g1, g2, g3, g4])) (hce : P.cellsOf e = 5)
    (o0 : g0.offset = 0) (t0 : g0.type = ti) (o1 : g1.offset = 1) (t1 : g1.type = ti) (o2 : g2.offset = 2) (t2 : g2.type = ti) (o3 : g3.offset = 3) (t3 : g3.type = tl) (o4 : g4.offset = 4) (t4 : g4.type = tb)
    (hti : P.underlying ti = some (.int .i64)) (hci : P.cellsOf ti = 1) (htl : P.underlying tl = some (.slice ti)) (hcl : P.cellsOf tl = 1) (htb : P.underlying tb = some (.slice eb)) (hcb : P.cellsOf tb = 1)
    (heb : P.underlying eb = some (.struct #[h0, h1])) (hceb : P.cellsOf eb = 2) (p0 : h0.offset = 0) (s0 : h0.type = t) (p1 : h1.offset = 1) (s1 : h1.type = ti) (hct : P.cellsOf t = 1)
    (h : DataW.trod enc P w 0 (fun _ => true) held fuel eb vs = some x) : ∃ u b ss, vs = [u, .int .i64 b] ∧ Sts w 0 w.heap.size u ss := by
  obtain ⟨xs, n', hn', _, hlen, hxl, hf⟩ := DataW.trod_struct heb h
  rw [hceb] at hlen
  obtain ⟨u0, u1, rfl⟩ : ∃ u0 u1, vs = [u0, u1] := by
    match vs, hlen with
    | [u0, u1], _ => exact ⟨u0, u1, rfl⟩
  match xs, hxl with
  | [y0, y1], _ =>
    have f0 := hf 0 h0 rfl
    have f1 := hf 1 h1 rfl
    rw [p0, s0, hct] at f0
    rw [p1, s1, hci] at f1
    simp only [List.drop_zero, List.drop_succ_cons, List.take_succ_cons, List.take_zero, List.getElem?_cons_zero, List.getElem?_cons_succ] at f0 f1
    obtain ⟨k, ek, _⟩ := DataW.trod_int hti f1
    obtain ⟨ss, hss⟩ := steps_open ht he hce o0 t0 o1 t1 o2 t2 o3 t3 o4 t4 hti hci htl hcl htb hcb heb hceb p0 s0 p1 s1 hct n' u0 y0 f0
    injection ek with ek _
    exact ⟨u0, k, ss, by rw [ek], hss⟩
end
end Go.Proofs.Ytdooageiopnhaaa
