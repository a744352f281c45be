/- Copies of expressions that the exact laws make. -/
import Derived.Test.YtdooageiopnhaabT4
import Derived.Test.YtdooageiopnhaabBk
namespace Go.Proofs.Ytdooageiopnhaab
open Go.RowKit Go.BigFrame
theorem infoX : (Try.prog.info? 28).map (fun i => (i.zero, i.size, i.bytes)) = some (some (.agg #[.int .i64 0, .int .i64 0, .slice none 0 0]), 3, 40) := by kernel_rfl
/-- Expressions in blocks of the call's own. -/
inductive OExs (w : World) (L U : Nat) : Value → List Ex → Prop
  | mk (v : Value) (V : Nat → Value) (es : List Ex) (b : Blk w L U 28 v es.length (cellsOf 3 es.length fun i j => exCell (nthX es i) (V i) j)) (h : ∀ i, i < es.length → OExs w L U (V i) (nthX es i).kids) : OExs w L U v es
theorem OExs.keep {w w' : World} {L U : Nat} {v : Value} {es : List Ex} (h : OExs w L U v es) (s : Same L U w w') : OExs w' L U v es := by
  induction h with
  | mk v V es b _ ih => exact .mk v V es (b.keep s) ih
theorem OExs.wide {w : World} {L U L' U' : Nat} {v : Value} {es : List Ex} (h : OExs w L U v es) (hL : L' ≤ L) (hU : U ≤ U') : OExs w L' U' v es := by
  induction h with
  | mk v V es b _ ih => exact .mk v V es (b.wide hL hU) ih
theorem OExs.exs {w : World} {L U : Nat} {v : Value} {es : List Ex} (h : OExs w L U v es) : Exs w L U v es := by
  induction h with
  | mk v V es b _ ih =>
    obtain ⟨g, rfl, r⟩ := b.row
    exact .mk _ _ V es r ih
theorem OExs.form {w : World} {L U : Nat} {v : Value} {es : List Ex} (h : OExs w L U v es) : ∃ g, v = .slice (some ⟨g, 0, none⟩) es.length es.length := by
  cases h with
  | mk v V es b h => obtain ⟨g, a, e, _⟩ := b; exact ⟨g, e⟩
set_option maxHeartbeats 400000 in
theorem toExpr_of {w : World} {L U : Nat} {v : Value} {ks : List Ex} (x y : Int) (hv : Exs w L U v ks) (hU : U ≤ w.heap.size)
    (C : ∀ W, Same L U w W → U ≤ W.heap.size → Calls Try.prog 39 #[v] W fun e w' => ∃ u, e = .returned u ∧ Below W.heap.size W w' ∧ OExs w' W.heap.size w'.heap.size u ks) :
    Calls Try.prog 11 #[.agg #[.int .i64 x, .int .i64 y, v]] w fun e w' => ∃ u, e = .returned (.agg #[.int .i64 x, .int .i64 y, u]) ∧ Below w.heap.size w w' ∧ OExs w' w.heap.size w'.heap.size u ks := by
  obtain ⟨B, d, rfl, hl, hd⟩ := hv.open_
  have HC0 := Lib.hid C
  clear C
  go_enter Try.func11, Try.ntmps11
  go_wp2_with fail
  refine named ?_
  intro W hW
  have hB : Below w.heap.size w W := by
    rw [hW]
    iterate 2 (refine Below.alloc ?_ (by simp only [World.size_alloc]; omega) _)
    exact (Below.refl _ w).alloc (Nat.le_refl _) _
  have hsz : W.heap.size = w.heap.size + 3 := by rw [hW]; simp
  have b1 : W.heap[w.heap.size + 1]? = some (.cells #[.int .i64 0, .int .i64 0, .slice none 0 0] 28 (0, 0)) := by
    rw [hW]
    refine Eq.trans (Below.heap_alloc _ _ _ (by simp only [World.size_alloc]; omega)) ?_
    exact alloc_last _ _ _ (by simp)
  have b2 : W.heap[w.heap.size + 1 + 1]? = some (.cells #[.int .i64 x, .int .i64 y, .slice none 0 0] 28 (0, 0)) := by
    rw [hW]
    exact alloc_last _ _ _ (by simp)
  clear hW
  refine (HC0.out W (Same.of_below hB hU) (by omega)).mono ?_
  rintro e w1 ⟨u, rfl, hB1, ho⟩
  have c1 := (hB1.block _ (by omega)).trans b1
  have c2 := (hB1.block _ (by omega)).trans b2
  have q10 := cell_of_row w1 _ 0 _ _ (0, 0) c1
  have q11 := cell_of_row w1 _ 1 _ _ (0, 0) c1
  have q12 := cell_of_row w1 _ 2 _ _ (0, 0) c1
  have q20 := cell_of_row w1 _ 0 _ _ (0, 0) c2
  have q21 := cell_of_row w1 _ 1 _ _ (0, 0) c2
  have q22 := cell_of_row w1 _ 2 _ _ (0, 0) c2
  have f10 := frozen_of_row w1 _ 0 _ _ c1
  have f11 := frozen_of_row w1 _ 1 _ _ c1
  have f12 := frozen_of_row w1 _ 2 _ _ c1
  have f22 := frozen_of_row w1 _ 2 _ _ c2
  simp only [List.getElem?_toArray, List.getElem?_cons_zero, List.getElem?_cons_succ] at q10 q11 q12 q20 q21 q22
  have HO := Lib.hid ho
  obtain ⟨g, rfl⟩ := ho.form
  have HC := Lib.hid (And.intro c1 c2)
  clear b1 b2 c1 c2 ho
  go_wp2_with fail
  (try simp only [Exit.inBlock, Exit.then])
  refine ended ?_
  intro W4 hW4
  have e4 : W4.heap[w.heap.size + 1]? = some (.cells #[.int .i64 x, .int .i64 y, .slice (some ⟨g, 0, none⟩) ks.length ks.length] 28 (0, 0)) := by
    rw [hW4]
    exact heap_setCell_same _ _ 2 _ _ _ (heap_setCell_same _ _ 1 _ _ _ (heap_setCell_same _ _ 0 _ _ _ ((heap_setCell_other w1 ⟨w.heap.size + 1 + 1, 2, none⟩ (w.heap.size + 1) _ (by simp)).trans HC.out.1)))
  have r0 := cell_of_row W4 _ 0 _ _ (0, 0) e4
  have r1 := cell_of_row W4 _ 1 _ _ (0, 0) e4
  have r2 := cell_of_row W4 _ 2 _ _ (0, 0) e4
  simp only [List.getElem?_toArray, List.getElem?_cons_zero, List.getElem?_cons_succ] at r0 r1 r2
  have hB4 : Below w.heap.size w W4 := by
    rw [hW4]
    exact (((((hB.trans (hB1.mono hB.size)).setCell (by simp; omega) _).setCell (by simp) _).setCell (by simp) _).setCell (by simp) _)
  have ho4 : OExs W4 w.heap.size W4.heap.size (.slice (some ⟨g, 0, none⟩) ks.length ks.length) ks := by
    rw [hW4]
    refine (HO.out.keep (fun k h1 h2 => ?_)).wide (by omega) (by simp)
    rw [heap_setCell_other _ _ _ _ (by simp; omega), heap_setCell_other _ _ _ _ (by simp; omega), heap_setCell_other _ _ _ _ (by simp; omega), heap_setCell_other _ _ _ _ (by simp; omega)]
  clear hW4 e4
  refine bodyPost_ret (v := .agg #[.int .i64 x, .int .i64 y, .slice (some ⟨g, 0, none⟩) ks.length ks.length]) ?_ rfl ⟨_, rfl, hB4, ho4⟩
  rw [results_one rfl]
  go_simp
set_option maxHeartbeats 800000 in
theorem toExprS_any {w0 : World} {L U : Nat} {v : Value} {ks : List Ex} (h : Exs w0 L U v ks) : ∀ w : World, Same L U w0 w → U ≤ w.heap.size → sumL one_ ks ≤ 1048576 →
    Calls Try.prog 39 #[v] w fun e w' => ∃ u, e = .returned u ∧ Below w.heap.size w w' ∧ OExs w' w.heap.size w'.heap.size u ks := by
  induction h with
  | mk A c V0 es r hk ih =>
    intro w hS hU hsum
    have hl := r.le
    have hc : c ≤ 9223372036854775807 := r.cap
    obtain ⟨i0, hi, hz0, hz1, hz2⟩ := info_parts infoX
    have hlen := sumL_length es
    have hs1 : es.length ≤ 1048576 := by omega
    have HK := Lib.hid hk
    have IH := Lib.hid ih
    clear hk ih
    have HSUM := Lib.hid hsum
    clear hsum hlen
    go_enter Try.func39, Try.ntmps39
    go_wp2_with (at_make; refine wpList_make_full _ rfl _ _ 26 rfl w.heap.size 28 i0 (.agg #[.int .i64 0, .int .i64 0, .slice none 0 0]) 3 Try.underlying26 hi hz0 hz1 .i64 .i64 _ _ es.length rfl rfl rfl rfl (by rw [hz2]; omega) (by unfold maxLen; omega) (Nat.le_refl _) ?_)
    intro w1 hown hg
    have hB1 : Below w.heap.size w w1 := (Below.refl _ w).grown hg (Nat.le_refl _) (fun k e => by cases e)
    have hF := Fill.made (k := 3) (z := #[.int .i64 0, .int .i64 0, .slice none 0 0]) hown rfl (fun _ _ => undef)
    have hsz : w.heap.size < w1.heap.size := (hown.lt _ rfl).2
    clear hown hg
    go_wp2_with fail
    go_loopw [4] (fun i wr => ∃ (k : Nat) (V : Nat → Value), k ≤ es.length ∧ i = .int .i64 k ∧ Fill wr w.heap.size 3 es.length k 28 (fun i j => exCell (nthX es i) (V i) j) (fun j => #[Value.int .i64 0, .int .i64 0, .slice none 0 0][j]!) ∧ Hid (∀ i, i < k → OExs wr (w.heap.size + 1) wr.heap.size (V i) (nthX es i).kids) ∧ Below w.heap.size w wr ∧ w.heap.size < wr.heap.size) (fun i _ => es.length - (intOf i).toNat)
    case atStart => exact ⟨0, fun _ => undef, by omega, rfl, hF, fun i hi => absurd hi (by omega), hB1, hsz⟩
    case round =>
      obtain ⟨k, V, hk, rfl, hF, HV, hB, hsz⟩ := hrel
      by_cases hlt : k < es.length
      · have hS1 : Same L U w0 wr := hS.trans (Same.of_below hB hU)
        obtain ⟨b, o, rfl, _, hb, c0, c1, c2⟩ := row_at (r.keep hS1) hlt
        have hz := hB.size
        obtain ⟨A', c', hV0, _, _⟩ := (HK.out k hlt).open_
        have hsub : sumL one_ (nthX es k).kids ≤ 1048576 := by
          have h1 := sumL_mem one_ hlt
          rw [sum_eq] at h1
          have := HSUM.out
          omega
        have CK := toExpr_of (nthX es k).op (nthX es k).num ((HK.out k hlt).keep hS1) (by omega) (fun W h1 h2 => IH.out k hlt W (hS1.trans h1) h2 hsub)
        rw [hV0] at c2 CK
        have CK := Lib.hid CK
        clear hV0 hsub hS1
        go_wp2_with fail
        refine CK.out.mono ?_
        rintro e w2 ⟨u, rfl, hB2, ho⟩
        have hF2 := hF.keep (hB2.block _ hsz)
        have hq0 := hF2.cell hlt (j := 0) (by omega)
        have hq1 := hF2.cell hlt (j := 1) (by omega)
        have hq2 := hF2.cell hlt (j := 2) (by omega)
        have hf0 := hF2.free (k * 3)
        have hf1 := hF2.free (k * 3 + 1)
        have hf2 := hF2.free (k * 3 + 2)
        rw [Nat.add_zero] at hq0
        obtain ⟨W3, hW3⟩ : ∃ W3, W3 = ((w2.setCell ⟨w.heap.size, k * 3, none⟩ (.int .i64 (nthX es k).op)).setCell ⟨w.heap.size, k * 3 + 1, none⟩ (.int .i64 (nthX es k).num)).setCell ⟨w.heap.size, k * 3 + 2, none⟩ u := ⟨_, rfl⟩
        have hz3 : W3.heap.size = w2.heap.size := by rw [hW3]; simp
        have hF3 : Fill W3 w.heap.size 3 es.length (k + 1) 28 (fun i j => exCell (nthX es i) (if i = k then u else V i) j) (fun j => #[Value.int .i64 0, .int .i64 0, .slice none 0 0][j]!) := by
          rw [hW3]
          exact (hF2.congr (V' := fun i j => exCell (nthX es i) (if i = k then u else V i) j) (fun i j hi _ => by rw [if_neg (by omega)])).three rfl rfl (by simp [exCell])
        have hB3 : Below w.heap.size w W3 := by
          rw [hW3]
          exact (((hB.trans (hB2.mono hz)).setCell (Nat.le_refl _) _).setCell (Nat.le_refl _) _).setCell (Nat.le_refl _) _
        have kp0 : ∀ g, w.heap.size + 1 ≤ g → W3.heap[g]? = w2.heap[g]? := fun g hg => by
          rw [hW3, heap_setCell_other _ _ _ _ (by simp; omega), heap_setCell_other _ _ _ _ (by simp; omega), heap_setCell_other _ _ _ _ (by simp; omega)]
        have HV3 : Hid (∀ i, i < k + 1 → OExs W3 (w.heap.size + 1) W3.heap.size (if i = k then u else V i) (nthX es i).kids) := by
          intro i hi
          have kp : ∀ {v : Value} {xs : List Ex}, OExs w2 (w.heap.size + 1) w2.heap.size v xs → OExs W3 (w.heap.size + 1) W3.heap.size v xs := fun h =>
            (h.keep (fun g h1 _ => kp0 g h1)).wide (Nat.le_refl _) (by omega)
          by_cases e : i = k
          · rw [if_pos e, e]
            exact kp (ho.wide (by omega) (Nat.le_refl _))
          · rw [if_neg e]
            exact kp (((HV.out i (by omega)).keep (Same.of_below hB2 (Nat.le_refl _))).wide (Nat.le_refl _) hB2.size)
        have hsz3 : w.heap.size < W3.heap.size := by have := hB2.size; omega
        obtain ⟨g, rfl⟩ := ho.form
        subst hW3
        have HH := Lib.hid (And.intro hF3 (And.intro hB3 hsz3))
        clear hF hF2 hB HV hB2 hF3 hB3 hsz3 hz3 kp0 ho
        go_wp2_with fail
        go_roundw
        case rel => exact ⟨k + 1, _, by omega, by go_num, HH.out.1, HV3, HH.out.2.1, HH.out.2.2⟩
        case measure => simp [intOf]; omega
      · go_wp2_with fail
        go_ret
        obtain rfl : k = es.length := by omega
        exact ⟨_, rfl, hB, .mk _ V es (hF.blk (Nat.le_refl _) hsz (by unfold maxLen; omega)) fun i hi => (HV.out i hi).wide (by omega) (Nat.le_refl _)⟩
theorem toExpr_any {w : World} {L U : Nat} {v : Value} {ks : List Ex} (hv : Exs w L U v ks) (x y : Int) (hU : U ≤ w.heap.size) (hs : sumL one_ ks ≤ 1048576) :
    Calls Try.prog 11 #[.agg #[.int .i64 x, .int .i64 y, v]] w fun e w' => ∃ u, e = .returned (.agg #[.int .i64 x, .int .i64 y, u]) ∧ Below w.heap.size w w' ∧ OExs w' w.heap.size w'.heap.size u ks :=
  toExpr_of x y hv hU fun W h1 h2 => toExprS_any hv W h1 h2 hs
end Go.Proofs.Ytdooageiopnhaab
