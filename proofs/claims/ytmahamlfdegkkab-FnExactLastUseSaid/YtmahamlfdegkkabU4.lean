/- The walks of the exact laws over blocks whose answer is a number of uses, or the last one. -/
import Derived.Test.YtmahamlfdegkkabY6
import Derived.Test.YtmahamlfdegkkabU3
namespace Go.Proofs.Ytmahamlfdegkkab
open Go.RowKit Go.BigFrame
set_option maxHeartbeats 800000 in
theorem fnExactUsesOf_walk (ks : List St) (u : Value) (n : Int) (c0 : Int) (w : World) (hv : Sts w 0 w.heap.size u ks) :
    Calls Try.prog 8 #[.agg #[u, .int .i64 n], .int .i64 c0] w fun e w' => e = .returned (.bool true) ∧ Below w.heap.size w w' := by
  obtain ⟨A, c, rfl, _, _⟩ := hv.open_
  obtain ⟨W0, hW0⟩ : ∃ W0, W0 = w.alloc (.cells #[.slice A ks.length c, .int .i64 n] 44) := ⟨_, rfl⟩
  have hB0 : Below w.heap.size w W0 := by rw [hW0]; exact (Below.refl _ w).alloc (Nat.le_refl _) _
  have hz0 : W0.heap.size = w.heap.size + 1 := by rw [hW0]; simp
  have hbox : W0.heap[w.heap.size]? = some (.cells #[.slice A ks.length c, .int .i64 n] 44 (0, 0)) := by rw [hW0]; exact alloc_last _ _ _ rfl
  have HX := Lib.hid hbox
  clear hbox
  go_enter Try.func8, Try.ntmps8
  go_wp2_with fail
  rw [← hW0]
  refine (szBlock_top (hv.keep (Same.of_below hB0 (Nat.le_refl _))) n hB0.size).mono ?_
  rintro e w1 ⟨r, rfl, hB1, hr⟩
  have B1 := hB0.trans (hB1.mono (by omega))
  rcases hr with rfl | ⟨r0, r1, hs⟩
  · go_wp2_with fail
    go_ret
    exact ⟨rfl, B1⟩
  · have HS := Lib.hid hs
    have X1 := two ((hB1.block _ (by omega)).trans HX.out)
    clear hs
    go_wp2_with fail
    refine (toBlock_any (hv.keep (Same.of_below B1 (Nat.le_refl _))) n B1.size HS.out).mono ?_
    rintro e w2 ⟨u2, rfl, hB2, o2⟩
    have B2 := hB1.trans (hB2.mono hB1.size)
    obtain ⟨g2, rfl⟩ := o2.form
    clear X1
    go_wp2_with fail
    refine (sUsesTop o2.sts n c0 (Nat.le_refl _) HS.out).mono ?_
    rintro e w3 ⟨rfl, hB3⟩
    have B3 := B2.trans (hB3.mono B2.size)
    have C3 := hB0.trans (B3.mono (by omega))
    have X3 := two ((B3.block _ (by omega)).trans HX.out)
    clear hB1 hB2 hB3 o2 B1 B2
    go_wp2_with fail
    refine (toBlock_any (hv.keep (Same.of_below C3 (Nat.le_refl _))) n C3.size HS.out).mono ?_
    rintro e w4 ⟨u4, rfl, hB4, o4⟩
    have B4 := B3.trans (hB4.mono B3.size)
    obtain ⟨g4, rfl⟩ := o4.form
    obtain ⟨W5, hW5⟩ : ∃ W5, W5 = w4.alloc (.cells #[.slice (some ⟨g4, 0, none⟩) ks.length ks.length, .int .i64 n] 49) := ⟨_, rfl⟩
    have hB5 : Below w4.heap.size w4 W5 := by rw [hW5]; exact (Below.refl _ w4).alloc (Nat.le_refl _) _
    have hz5 : W5.heap.size = w4.heap.size + 1 := by rw [hW5]; simp
    have hY : W5.heap[w4.heap.size]? = some (.cells #[.slice (some ⟨g4, 0, none⟩) ks.length ks.length, .int .i64 n] 49 (0, 0)) := by rw [hW5]; exact alloc_last _ _ _ rfl
    have HY := Lib.hid hY
    have x5 := o4.sts.keep (Same.of_below hB5 (Nat.le_refl _))
    have B5 := B4.trans (hB5.mono B4.size)
    clear hB4 o4 B3 C3 hY X3
    go_wp2_with fail
    rw [← hW5]
    refine (usesTop x5 n c0 hB5.size HS.out).mono ?_
    rintro e w6 ⟨rfl, hB6⟩
    have B6 := B5.trans (hB6.mono B5.size)
    have C6 := hB0.trans (B6.mono (by omega))
    have X6 := two ((B6.block _ (by omega)).trans HX.out)
    have Y6 := two ((hB6.block _ (by omega)).trans HY.out)
    have x6 := x5.keep (Same.of_below hB6 hB5.size)
    have hz6 := hB6.size
    have TC := Lib.hid (toBlock_any (hv.keep ((Same.of_below C6 (Nat.le_refl _)).trans (same_drew _ _ w6))) n (by exact C6.size) HS.out)
    have i1 : w.heap.size < w6.heap.size := by have := C6.size; have := B6.size; omega
    have i2 : w4.heap.size < w6.heap.size := by omega
    have XX := Lib.hid x6
    have CC := Lib.hid C6
    clear hB5 hB6 x5 B4 B5 B6 C6 x6
    obtain ⟨X60, X61⟩ := X6
    obtain ⟨Y60, Y61⟩ := Y6
    go_wp2_with fail
    go_region_held3 (fun w' => w'.cell? ⟨w.heap.size, 0, none⟩ = some (.slice A ks.length c) ∧ w'.cell? ⟨w.heap.size, 1, none⟩ = some (.int .i64 n) ∧ w'.cell? ⟨w4.heap.size, 0, none⟩ = some (.slice (some ⟨g4, 0, none⟩) ks.length ks.length) ∧ w'.cell? ⟨w4.heap.size, 1, none⟩ = some (.int .i64 n))
      (first | go_keep | (exact ⟨(hB9.cell (by simp; assumption)).trans (by simp; assumption), (hB9.cell (by simp; assumption)).trans (by simp; assumption), (hB9.cell (by simp; assumption)).trans (by simp; assumption), (hB9.cell (by simp; assumption)).trans (by simp; assumption)⟩) | (exact ⟨(hB7.cell (by simp; assumption)).trans (by simp; assumption), (hB7.cell (by simp; assumption)).trans (by simp; assumption), (hB7.cell (by simp; assumption)).trans (by simp; assumption), (hB7.cell (by simp; assumption)).trans (by simp; assumption)⟩))
      (first | (go_at_call 28; refine TC.out.mono ?_; rintro e w7 ⟨u7, rfl, hB7, o7⟩; obtain ⟨g7, rfl⟩ := o7.form; have x7 := o7.sts) | (go_at_call 30; refine (eqBlock_same ((XX.out.keep (same_drew _ _ w6)).keep (Same.of_below hB7 (by simp; omega))) x7 n (by have := hB7.size; simp at this; omega) (Nat.le_refl _)).mono ?_; rintro e w8 ⟨rfl, hB8⟩; have hB9 := hB7.trans (hB8.mono hB7.size)))
    have B9 := CC.out.trans (((Below.refl _ w6).drew.trans (hB9.mono (by simp))).mono CC.out.size)
    clear hB7 hB8 hB9 x7 o7
    go_wp2_with fail
    go_ret
    exact ⟨rfl, B9⟩
set_option maxHeartbeats 800000 in
theorem fnExactLastUse_walk (ks : List St) (u : Value) (n : Int) (c0 : Int) (w : World) (hv : Sts w 0 w.heap.size u ks) :
    Calls Try.prog 9 #[.agg #[u, .int .i64 n], .int .i64 c0] w fun e w' => e = .returned (.bool true) ∧ Below w.heap.size w w' := by
  obtain ⟨A, c, rfl, _, _⟩ := hv.open_
  obtain ⟨W0, hW0⟩ : ∃ W0, W0 = w.alloc (.cells #[.slice A ks.length c, .int .i64 n] 44) := ⟨_, rfl⟩
  have hB0 : Below w.heap.size w W0 := by rw [hW0]; exact (Below.refl _ w).alloc (Nat.le_refl _) _
  have hz0 : W0.heap.size = w.heap.size + 1 := by rw [hW0]; simp
  have hbox : W0.heap[w.heap.size]? = some (.cells #[.slice A ks.length c, .int .i64 n] 44 (0, 0)) := by rw [hW0]; exact alloc_last _ _ _ rfl
  have HX := Lib.hid hbox
  clear hbox
  go_enter Try.func9, Try.ntmps9
  go_wp2_with fail
  rw [← hW0]
  refine (szBlock_top (hv.keep (Same.of_below hB0 (Nat.le_refl _))) n hB0.size).mono ?_
  rintro e w1 ⟨r, rfl, hB1, hr⟩
  have B1 := hB0.trans (hB1.mono (by omega))
  rcases hr with rfl | ⟨r0, r1, hs⟩
  · go_wp2_with fail
    go_ret
    exact ⟨rfl, B1⟩
  · have HS := Lib.hid hs
    have X1 := two ((hB1.block _ (by omega)).trans HX.out)
    clear hs
    go_wp2_with fail
    refine (toBlock_any (hv.keep (Same.of_below B1 (Nat.le_refl _))) n B1.size HS.out).mono ?_
    rintro e w2 ⟨u2, rfl, hB2, o2⟩
    have B2 := hB1.trans (hB2.mono hB1.size)
    obtain ⟨g2, rfl⟩ := o2.form
    clear X1
    go_wp2_with fail
    refine (sLastUseTop o2.sts n c0 (Nat.le_refl _) HS.out).mono ?_
    rintro e w3 ⟨rfl, hB3⟩
    have B3 := B2.trans (hB3.mono B2.size)
    have C3 := hB0.trans (B3.mono (by omega))
    have X3 := two ((B3.block _ (by omega)).trans HX.out)
    clear hB1 hB2 hB3 o2 B1 B2
    go_wp2_with fail
    refine (toBlock_any (hv.keep (Same.of_below C3 (Nat.le_refl _))) n C3.size HS.out).mono ?_
    rintro e w4 ⟨u4, rfl, hB4, o4⟩
    have B4 := B3.trans (hB4.mono B3.size)
    obtain ⟨g4, rfl⟩ := o4.form
    obtain ⟨W5, hW5⟩ : ∃ W5, W5 = w4.alloc (.cells #[.slice (some ⟨g4, 0, none⟩) ks.length ks.length, .int .i64 n] 49) := ⟨_, rfl⟩
    have hB5 : Below w4.heap.size w4 W5 := by rw [hW5]; exact (Below.refl _ w4).alloc (Nat.le_refl _) _
    have hz5 : W5.heap.size = w4.heap.size + 1 := by rw [hW5]; simp
    have hY : W5.heap[w4.heap.size]? = some (.cells #[.slice (some ⟨g4, 0, none⟩) ks.length ks.length, .int .i64 n] 49 (0, 0)) := by rw [hW5]; exact alloc_last _ _ _ rfl
    have HY := Lib.hid hY
    have x5 := o4.sts.keep (Same.of_below hB5 (Nat.le_refl _))
    have B5 := B4.trans (hB5.mono B4.size)
    clear hB4 o4 B3 C3 hY X3
    go_wp2_with fail
    rw [← hW5]
    refine (lastUseTop x5 n c0 hB5.size HS.out).mono ?_
    rintro e w6 ⟨rfl, hB6⟩
    have B6 := B5.trans (hB6.mono B5.size)
    have C6 := hB0.trans (B6.mono (by omega))
    have X6 := two ((B6.block _ (by omega)).trans HX.out)
    have Y6 := two ((hB6.block _ (by omega)).trans HY.out)
    have x6 := x5.keep (Same.of_below hB6 hB5.size)
    have hz6 := hB6.size
    have TC := Lib.hid (toBlock_any (hv.keep ((Same.of_below C6 (Nat.le_refl _)).trans (same_drew _ _ w6))) n (by exact C6.size) HS.out)
    have i1 : w.heap.size < w6.heap.size := by have := C6.size; have := B6.size; omega
    have i2 : w4.heap.size < w6.heap.size := by omega
    have XX := Lib.hid x6
    have CC := Lib.hid C6
    clear hB5 hB6 x5 B4 B5 B6 C6 x6
    obtain ⟨X60, X61⟩ := X6
    obtain ⟨Y60, Y61⟩ := Y6
    go_wp2_with fail
    go_region_held3 (fun w' => w'.cell? ⟨w.heap.size, 0, none⟩ = some (.slice A ks.length c) ∧ w'.cell? ⟨w.heap.size, 1, none⟩ = some (.int .i64 n) ∧ w'.cell? ⟨w4.heap.size, 0, none⟩ = some (.slice (some ⟨g4, 0, none⟩) ks.length ks.length) ∧ w'.cell? ⟨w4.heap.size, 1, none⟩ = some (.int .i64 n))
      (first | go_keep | (exact ⟨(hB9.cell (by simp; assumption)).trans (by simp; assumption), (hB9.cell (by simp; assumption)).trans (by simp; assumption), (hB9.cell (by simp; assumption)).trans (by simp; assumption), (hB9.cell (by simp; assumption)).trans (by simp; assumption)⟩) | (exact ⟨(hB7.cell (by simp; assumption)).trans (by simp; assumption), (hB7.cell (by simp; assumption)).trans (by simp; assumption), (hB7.cell (by simp; assumption)).trans (by simp; assumption), (hB7.cell (by simp; assumption)).trans (by simp; assumption)⟩))
      (first | (go_at_call 28; refine TC.out.mono ?_; rintro e w7 ⟨u7, rfl, hB7, o7⟩; obtain ⟨g7, rfl⟩ := o7.form; have x7 := o7.sts) | (go_at_call 30; refine (eqBlock_same ((XX.out.keep (same_drew _ _ w6)).keep (Same.of_below hB7 (by simp; omega))) x7 n (by have := hB7.size; simp at this; omega) (Nat.le_refl _)).mono ?_; rintro e w8 ⟨rfl, hB8⟩; have hB9 := hB7.trans (hB8.mono hB7.size)))
    have B9 := CC.out.trans (((Below.refl _ w6).drew.trans (hB9.mono (by simp))).mono CC.out.size)
    clear hB7 hB8 hB9 x7 o7
    go_wp2_with fail
    go_ret
    exact ⟨rfl, B9⟩
end Go.Proofs.Ytmahamlfdegkkab
