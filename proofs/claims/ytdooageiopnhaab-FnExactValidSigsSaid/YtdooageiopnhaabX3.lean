/- Copies that the exact laws make of constructors. -/
import Derived.Test.YtdooageiopnhaabX2
namespace Go.Proofs.Ytdooageiopnhaab
open Go.RowKit Go.BigFrame
set_option maxHeartbeats 400000 in
theorem toCon_any (L U : Nat) (xs : List Int) (v : Value) (w : World) (hv : Ints w L U v xs) (hU : U ≤ w.heap.size) (hs : xs.length ≤ 1048576) :
    Calls Try.prog 117 #[.agg #[v]] w fun e w' => ∃ u, e = .returned (.agg #[u]) ∧ Below w.heap.size w w' ∧ OInts w' w.heap.size w'.heap.size u xs := by
  obtain ⟨B, d, rfl, hl, hd⟩ := hv.open_
  go_enter Try.func117, Try.ntmps117
  go_wp2_with fail
  refine named ?_
  intro W hW
  have hB : Below w.heap.size w W := by
    rw [hW]
    iterate 2 (refine Below.alloc ?_ (by simp only [World.size_alloc]; omega) _)
    exact (Below.refl _ w).alloc (Nat.le_refl _) _
  have hsz : W.heap.size = w.heap.size + 3 := by rw [hW]; simp
  have b1 : W.heap[w.heap.size + 1]? = some (.cells #[.slice none 0 0] 116 (0, 0)) := by
    rw [hW]
    refine Eq.trans (Below.heap_alloc _ _ _ (by simp only [World.size_alloc]; omega)) ?_
    exact alloc_last _ _ _ (by simp)
  have b2 : W.heap[w.heap.size + 2]? = some (.cells #[.slice none 0 0] 116 (0, 0)) := by
    rw [hW]
    exact alloc_last _ _ _ (by simp)
  clear hW
  refine (toIntS_any _ _ _ _ _ (hv.keep (Same.of_below hB hU)) (by omega) hs).mono ?_
  rintro e w1 ⟨u, rfl, hB1, ho⟩
  have c1 := (hB1.block _ (by omega)).trans b1
  have c2 : w1.heap[w.heap.size + 1 + 1]? = _ := (hB1.block _ (by omega)).trans b2
  have q1 := cell_of_one c1
  have q2 := cell_of_one c2
  have f1 := free_of_one c1
  have f2 := free_of_one c2
  have HO := Lib.hid ho
  obtain ⟨g, a, rfl, _, _, _, _, _⟩ := ho
  have HC := Lib.hid (And.intro c1 c2)
  clear b1 b2 c1 c2
  go_wp2_with fail
  (try simp only [Exit.inBlock, Exit.then])
  have e1 : ((w1.setCell ⟨w.heap.size + 1 + 1, 0, none⟩ (Value.slice (some ⟨g, 0, none⟩) xs.length xs.length)).setCell ⟨w.heap.size + 1, 0, none⟩ (Value.slice (some ⟨g, 0, none⟩) xs.length xs.length)).cell? ⟨w.heap.size + 1, 0, none⟩ = some (Value.slice (some ⟨g, 0, none⟩) xs.length xs.length) := by
    have h1 : (w1.setCell ⟨w.heap.size + 1 + 1, 0, none⟩ (Value.slice (some ⟨g, 0, none⟩) xs.length xs.length)).heap[w.heap.size + 1]? = _ := (heap_setCell_other w1 ⟨w.heap.size + 1 + 1, 0, none⟩ (w.heap.size + 1) _ (by simp)).trans HC.out.1
    exact cell_of_one (heap_setCell_same _ _ 0 _ _ _ h1)
  refine bodyPost_ret (v := .agg #[.slice (some ⟨g, 0, none⟩) xs.length xs.length]) ?_ rfl ⟨_, rfl, ?_, ?_⟩
  · rw [results_one rfl]
    go_simp
  · exact (((hB.trans (hB1.mono hB.size)).setCell (by simp; omega) _).setCell (by simp) _)
  · refine (HO.out.keep (fun k h1 h2 => ?_)).wide (by omega) (by simp)
    rw [heap_setCell_other _ _ _ _ (by simp; omega), heap_setCell_other _ _ _ _ (by simp; omega)]
set_option maxHeartbeats 400000 in
theorem toConS_any (L U : Nat) (cs : List (List Int)) (v : Value) (w : World) (hv : Cons w L U v cs) (hU : U ≤ w.heap.size) (hs : SmallC cs) :
    Calls Try.prog 100 #[v] w fun e w' => ∃ u, e = .returned u ∧ Below w.heap.size w w' ∧ OCons w' w.heap.size w'.heap.size u cs := by
  obtain ⟨B, d, rfl, hl, hd⟩ := hv.open_
  obtain ⟨i0, hi, hz0, hz1, hz2⟩ := info_parts infoC
  have hs1 := hs.1
  have HS := Lib.hid hs
  clear hs
  go_enter Try.func100, Try.ntmps100
  go_wp2_with (at_make; refine wpList_make_full _ rfl _ _ 93 rfl w.heap.size 116 i0 (.agg #[.slice none 0 0]) 1 Try.underlying93 hi hz0 hz1 .i64 .i64 _ _ cs.length rfl rfl rfl rfl (by rw [hz2]; omega) (by unfold maxLen; omega) (Nat.le_refl _) ?_)
  intro w1 hown hg
  have hB1 : Below w.heap.size w w1 := (Below.refl _ w).grown hg (Nat.le_refl _) (fun k e => by cases e)
  have hF := Fill.made1 hown (fun _ _ => undef)
  have hsz : w.heap.size < w1.heap.size := (hown.lt _ rfl).2
  clear hown hg
  go_wp2_with fail
  go_loopw [4] (fun i wr => ∃ (k : Nat) (V : Nat → Value), k ≤ cs.length ∧ i = .int .i64 k ∧ Fill wr w.heap.size 1 cs.length k 116 (fun i _ => V i) (fun j => #[Value.slice none 0 0][j]!) ∧ Hid (∀ i, i < k → OInts wr (w.heap.size + 1) wr.heap.size (V i) (nthL cs i)) ∧ Below w.heap.size w wr ∧ w.heap.size < wr.heap.size) (fun i _ => cs.length - (intOf i).toNat)
  case atStart => exact ⟨0, fun _ => undef, by omega, rfl, hF, fun i hi => absurd hi (by omega), hB1, hsz⟩
  case round =>
    obtain ⟨k, V, hk, rfl, hF, HV, hB, hsz⟩ := hrel
    by_cases hlt : k < cs.length
    · obtain ⟨b, o, A', c', rfl, _, _, hc, hu⟩ := (hv.keep (Same.of_below hB hU)).at_ hlt
      have hz := hB.size
      clear hv
      go_wp2_with fail
      refine (toCon_any _ _ _ _ _ hu (by omega) (by have := HS.out.2 k hlt; rwa [nthL_of hlt] at this)).mono ?_
      rintro e w2 ⟨u, rfl, hB2, ho⟩
      have hF2 := hF.keep (hB2.block _ hsz)
      have hq := hF2.cell hlt (j := 0) (by omega)
      have hfr := hF2.free k
      rw [Nat.mul_one, Nat.add_zero] at hq
      have hF3 := (hF2.congr (V' := fun i _ => if i = k then u else V i) (fun i j hi _ => by rw [if_neg (by omega)])).one hlt (u := u) (if_pos rfl)
      have hB3 := (hB.trans (hB2.mono hz)).setCell (p := ⟨w.heap.size, k, none⟩) (Nat.le_refl _) u
      have HV3 : Hid (∀ i, i < k + 1 → OInts (w2.setCell ⟨w.heap.size, k, none⟩ u) (w.heap.size + 1) (w2.setCell ⟨w.heap.size, k, none⟩ u).heap.size (if i = k then u else V i) (nthL cs i)) := by
        intro i hi
        have kp : ∀ {v : Value} {xs : List Int}, OInts w2 (w.heap.size + 1) w2.heap.size v xs → OInts (w2.setCell ⟨w.heap.size, k, none⟩ u) (w.heap.size + 1) (w2.setCell ⟨w.heap.size, k, none⟩ u).heap.size v xs := fun h =>
          (h.keep (fun g h1 _ => heap_setCell_other _ _ _ _ (by show g ≠ w.heap.size; omega))).wide (Nat.le_refl _) (by simp)
        by_cases e : i = k
        · rw [if_pos e, e, nthL_of hlt]
          exact kp (ho.wide (by omega) (Nat.le_refl _))
        · rw [if_neg e]
          exact kp (((HV.out i (by omega)).keep (Same.of_below hB2 (Nat.le_refl _))).wide (Nat.le_refl _) hB2.size)
      have hsz3 : w.heap.size < (w2.setCell ⟨w.heap.size, k, none⟩ u).heap.size := by have := hB2.size; simp; omega
      obtain ⟨g, a, rfl, _, _, _, _, _⟩ := ho
      have HH := Lib.hid (And.intro hF3 (And.intro hB3 hsz3))
      clear hF hF2 hB HV hB2 hu hF3 hB3 hsz3
      go_wp2_with fail
      go_roundw
      case rel => exact ⟨k + 1, _, by omega, by go_num, HH.out.1, HV3, HH.out.2.1, HH.out.2.2⟩
      case measure => simp [intOf]; omega
    · go_wp2_with fail
      go_ret
      obtain rfl : k = cs.length := by omega
      exact ⟨_, rfl, hB, V, hF.blk (Nat.le_refl _) hsz (by unfold maxLen; omega), fun i hi => (HV.out i hi).wide (by omega) (Nat.le_refl _)⟩
end Go.Proofs.Ytdooageiopnhaab
