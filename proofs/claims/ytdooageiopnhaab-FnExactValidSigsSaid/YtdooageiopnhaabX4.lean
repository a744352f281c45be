/- Copies of declarations that the exact laws make. -/
import Derived.Test.YtdooageiopnhaabX3
namespace Go.Proofs.Ytdooageiopnhaab
open Go.RowKit Go.BigFrame
set_option maxHeartbeats 400000 in
theorem toDecl_any (L U : Nat) (x y : Int) (cs : List (List Int)) (v : Value) (w : World) (hv : Cons w L U v cs) (hU : U ≤ w.heap.size) (hs : SmallC cs) :
    Calls Try.prog 74 #[.agg #[.int .i64 x, .int .i64 y, v]] w fun e w' => ∃ u, e = .returned (.agg #[.int .i64 x, .int .i64 y, u]) ∧ Below w.heap.size w w' ∧ OCons w' w.heap.size w'.heap.size u cs := by
  obtain ⟨B, d, rfl, hl, hd⟩ := hv.open_
  go_enter Try.func74, Try.ntmps74
  go_wp2_with fail
  refine named ?_
  intro W hW
  have hB : Below w.heap.size w W := by
    rw [hW]
    iterate 2 (refine Below.alloc ?_ (by simp only [World.size_alloc]; omega) _)
    exact (Below.refl _ w).alloc (Nat.le_refl _) _
  have hsz : W.heap.size = w.heap.size + 3 := by rw [hW]; simp
  have b1 : W.heap[w.heap.size + 1]? = some (.cells #[.int .i64 0, .int .i64 0, .slice none 0 0] 95 (0, 0)) := by
    rw [hW]
    refine Eq.trans (Below.heap_alloc _ _ _ (by simp only [World.size_alloc]; omega)) ?_
    exact alloc_last _ _ _ (by simp)
  have b2 : W.heap[w.heap.size + 1 + 1]? = some (.cells #[.int .i64 x, .int .i64 y, .slice none 0 0] 95 (0, 0)) := by
    rw [hW]
    exact alloc_last _ _ _ (by simp)
  clear hW
  refine (toConS_any _ _ _ _ _ (hv.keep (Same.of_below hB hU)) (by omega) hs).mono ?_
  rintro e w1 ⟨u, rfl, hB1, ho⟩
  have c1 := (hB1.block _ (by omega)).trans b1
  have c2 := (hB1.block _ (by omega)).trans b2
  have q10 := cell_of_row w1 _ 0 _ _ (0, 0) c1
  have q11 := cell_of_row w1 _ 1 _ _ (0, 0) c1
  have q12 := cell_of_row w1 _ 2 _ _ (0, 0) c1
  have q20 := cell_of_row w1 _ 0 _ _ (0, 0) c2
  have q21 := cell_of_row w1 _ 1 _ _ (0, 0) c2
  have q22 := cell_of_row w1 _ 2 _ _ (0, 0) c2
  have f10 := frozen_of_row w1 _ 0 _ _ c1
  have f11 := frozen_of_row w1 _ 1 _ _ c1
  have f12 := frozen_of_row w1 _ 2 _ _ c1
  have f22 := frozen_of_row w1 _ 2 _ _ c2
  simp only [List.getElem?_toArray, List.getElem?_cons_zero, List.getElem?_cons_succ] at q10 q11 q12 q20 q21 q22
  have HO := Lib.hid ho
  obtain ⟨V, ⟨g, a, rfl, _, _, _, _, _⟩, _⟩ := ho
  have HC := Lib.hid (And.intro c1 c2)
  clear b1 b2 c1 c2
  go_wp2_with fail
  (try simp only [Exit.inBlock, Exit.then])
  refine ended ?_
  intro W4 hW4
  have e4 : W4.heap[w.heap.size + 1]? = some (.cells #[.int .i64 x, .int .i64 y, .slice (some ⟨g, 0, none⟩) cs.length cs.length] 95 (0, 0)) := by
    rw [hW4]
    exact heap_setCell_same _ _ 2 _ _ _ (heap_setCell_same _ _ 1 _ _ _ (heap_setCell_same _ _ 0 _ _ _ ((heap_setCell_other w1 ⟨w.heap.size + 1 + 1, 2, none⟩ (w.heap.size + 1) _ (by simp)).trans HC.out.1)))
  have r0 := cell_of_row W4 _ 0 _ _ (0, 0) e4
  have r1 := cell_of_row W4 _ 1 _ _ (0, 0) e4
  have r2 := cell_of_row W4 _ 2 _ _ (0, 0) e4
  simp only [List.getElem?_toArray, List.getElem?_cons_zero, List.getElem?_cons_succ] at r0 r1 r2
  have hB4 : Below w.heap.size w W4 := by
    rw [hW4]
    exact (((((hB.trans (hB1.mono hB.size)).setCell (by simp; omega) _).setCell (by simp) _).setCell (by simp) _).setCell (by simp) _)
  have ho4 : OCons W4 w.heap.size W4.heap.size (.slice (some ⟨g, 0, none⟩) cs.length cs.length) cs := by
    rw [hW4]
    refine (HO.out.keep (fun k h1 h2 => ?_)).wide (by omega) (by simp)
    rw [heap_setCell_other _ _ _ _ (by simp; omega), heap_setCell_other _ _ _ _ (by simp; omega), heap_setCell_other _ _ _ _ (by simp; omega), heap_setCell_other _ _ _ _ (by simp; omega)]
  clear hW4 e4
  refine bodyPost_ret (v := .agg #[.int .i64 x, .int .i64 y, .slice (some ⟨g, 0, none⟩) cs.length cs.length]) ?_ rfl ⟨_, rfl, hB4, ho4⟩
  rw [results_one rfl]
  go_simp
set_option maxHeartbeats 400000 in
theorem toDeclS_any (L U : Nat) (ds : List Dec) (v : Value) (w : World) (hv : Decs w L U v ds) (hU : U ≤ w.heap.size) (hs : SmallD ds) :
    Calls Try.prog 50 #[v] w fun e w' => ∃ u, e = .returned u ∧ Below w.heap.size w w' ∧ ODecs w' w.heap.size w'.heap.size u ds := by
  obtain ⟨B, d, rfl, hl, hd⟩ := hv.open_
  obtain ⟨i0, hi, hz0, hz1, hz2⟩ := info_parts infoD
  have hs1 := hs.1
  have HS := Lib.hid hs
  clear hs
  go_enter Try.func50, Try.ntmps50
  go_wp2_with (at_make; refine wpList_make_full _ rfl _ _ 41 rfl w.heap.size 95 i0 (.agg #[.int .i64 0, .int .i64 0, .slice none 0 0]) 3 Try.underlying41 hi hz0 hz1 .i64 .i64 _ _ ds.length rfl rfl rfl rfl (by rw [hz2]; omega) (by unfold maxLen; omega) (Nat.le_refl _) ?_)
  intro w1 hown hg
  have hB1 : Below w.heap.size w w1 := (Below.refl _ w).grown hg (Nat.le_refl _) (fun k e => by cases e)
  have hF := Fill.made (k := 3) (z := #[.int .i64 0, .int .i64 0, .slice none 0 0]) hown rfl (fun _ _ => undef)
  have hsz : w.heap.size < w1.heap.size := (hown.lt _ rfl).2
  clear hown hg
  go_wp2_with fail
  go_loopw [4] (fun i wr => ∃ (k : Nat) (V : Nat → Value), k ≤ ds.length ∧ i = .int .i64 k ∧ Fill wr w.heap.size 3 ds.length k 95 (fun i j => decCell (nthD ds i) (V i) j) (fun j => #[Value.int .i64 0, .int .i64 0, .slice none 0 0][j]!) ∧ Hid (∀ i, i < k → OCons wr (w.heap.size + 1) wr.heap.size (V i) (nthD ds i).cons) ∧ Below w.heap.size w wr ∧ w.heap.size < wr.heap.size) (fun i _ => ds.length - (intOf i).toNat)
  case atStart => exact ⟨0, fun _ => undef, by omega, rfl, hF, fun i hi => absurd hi (by omega), hB1, hsz⟩
  case round =>
    obtain ⟨k, V, hk, rfl, hF, HV, hB, hsz⟩ := hrel
    by_cases hlt : k < ds.length
    · obtain ⟨b, o, A', c', rfl, _, _, hc0, hc1, hc2, hu⟩ := (hv.keep (Same.of_below hB hU)).at_ hlt
      have hz := hB.size
      clear hv
      go_wp2_with fail
      refine (toDecl_any _ _ _ _ _ _ _ hu (by omega) (HS.out.2 k hlt)).mono ?_
      rintro e w2 ⟨u, rfl, hB2, ho⟩
      have hF2 := hF.keep (hB2.block _ hsz)
      have hq0 := hF2.cell hlt (j := 0) (by omega)
      have hq1 := hF2.cell hlt (j := 1) (by omega)
      have hq2 := hF2.cell hlt (j := 2) (by omega)
      have hf0 := hF2.free (k * 3)
      have hf1 := hF2.free (k * 3 + 1)
      have hf2 := hF2.free (k * 3 + 2)
      rw [Nat.add_zero] at hq0
      obtain ⟨W3, hW3⟩ : ∃ W3, W3 = ((w2.setCell ⟨w.heap.size, k * 3, none⟩ (.int .i64 (nthD ds k).frm)).setCell ⟨w.heap.size, k * 3 + 1, none⟩ (.int .i64 (nthD ds k).to)).setCell ⟨w.heap.size, k * 3 + 2, none⟩ u := ⟨_, rfl⟩
      have hz3 : W3.heap.size = w2.heap.size := by rw [hW3]; simp
      have hF3 : Fill W3 w.heap.size 3 ds.length (k + 1) 95 (fun i j => decCell (nthD ds i) (if i = k then u else V i) j) (fun j => #[Value.int .i64 0, .int .i64 0, .slice none 0 0][j]!) := by
        rw [hW3]
        exact (hF2.congr (V' := fun i j => decCell (nthD ds i) (if i = k then u else V i) j) (fun i j hi _ => by rw [if_neg (by omega)])).three rfl rfl (by simp [decCell])
      have hB3 : Below w.heap.size w W3 := by
        rw [hW3]
        exact (((hB.trans (hB2.mono hz)).setCell (Nat.le_refl _) _).setCell (Nat.le_refl _) _).setCell (Nat.le_refl _) _
      have kp0 : ∀ g, w.heap.size + 1 ≤ g → W3.heap[g]? = w2.heap[g]? := fun g hg => by
        rw [hW3, heap_setCell_other _ _ _ _ (by simp; omega), heap_setCell_other _ _ _ _ (by simp; omega), heap_setCell_other _ _ _ _ (by simp; omega)]
      have HV3 : Hid (∀ i, i < k + 1 → OCons W3 (w.heap.size + 1) W3.heap.size (if i = k then u else V i) (nthD ds i).cons) := by
        intro i hi
        have kp : ∀ {v : Value} {xs : List (List Int)}, OCons w2 (w.heap.size + 1) w2.heap.size v xs → OCons W3 (w.heap.size + 1) W3.heap.size v xs := fun h =>
          (h.keep (fun g h1 _ => kp0 g h1)).wide (Nat.le_refl _) (by omega)
        by_cases e : i = k
        · rw [if_pos e, e]
          exact kp (ho.wide (by omega) (Nat.le_refl _))
        · rw [if_neg e]
          exact kp (((HV.out i (by omega)).keep (Same.of_below hB2 (Nat.le_refl _))).wide (Nat.le_refl _) hB2.size)
      have hsz3 : w.heap.size < W3.heap.size := by have := hB2.size; omega
      obtain ⟨V', ⟨g, a, rfl, _, _, _, _, _⟩, _⟩ := ho
      subst hW3
      have HH := Lib.hid (And.intro hF3 (And.intro hB3 hsz3))
      clear hF hF2 hB HV hB2 hu hF3 hB3 hsz3 hz3 kp0
      go_wp2_with fail
      go_roundw
      case rel => exact ⟨k + 1, _, by omega, by go_num, HH.out.1, HV3, HH.out.2.1, HH.out.2.2⟩
      case measure => simp [intOf]; omega
    · go_wp2_with fail
      go_ret
      obtain rfl : k = ds.length := by omega
      exact ⟨_, rfl, hB, V, hF.blk (Nat.le_refl _) hsz (by unfold maxLen; omega), fun i hi => (HV.out i hi).wide (by omega) (Nat.le_refl _)⟩
end Go.Proofs.Ytdooageiopnhaab
