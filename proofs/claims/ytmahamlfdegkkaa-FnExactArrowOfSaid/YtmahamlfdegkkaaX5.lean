/- The walks of the exact laws of chapter 1 whose answer is a number or a yes. -/
import Derived.Test.YtmahamlfdegkkaaG
import Derived.Test.YtmahamlfdegkkaaX4
namespace Go.Proofs.Ytmahamlfdegkkaa
open Go.RowKit Go.BigFrame
set_option maxHeartbeats 400000 in
theorem fnExactValidTypes_walk (ds : List Dec) (v : Value) (w : World) (hv : Decs w 0 w.heap.size v ds) :
    Calls Try.prog 8 #[v] w fun e w' => e = .returned (.bool true) ∧ Below w.heap.size w w' := by
  obtain ⟨B, d, rfl, hl, hd⟩ := hv.open_
  go_enter Try.func8, Try.ntmps8
  go_wp2_with fail
  refine (szDeclS_any _ _ _ _ _ _ hv (Nat.le_refl _) (by omega) (by omega)).mono ?_
  rintro e w1 ⟨r, rfl, hB1, hr⟩
  rcases hr with rfl | ⟨r0, r1, hs⟩
  · go_wp2_with fail
    go_ret
    exact ⟨rfl, hB1⟩
  · have HS := Lib.hid hs
    clear hs
    go_wp2_with fail
    refine (toDeclS_any _ _ _ _ w1 (hv.keep (Same.of_below hB1 (Nat.le_refl _))) hB1.size HS.out).mono ?_
    rintro e w2 ⟨u2, rfl, hB2, ho2⟩
    have B2 := hB1.trans (hB2.mono hB1.size)
    have d2 := ho2.decs
    obtain ⟨g2, k2, rfl, _, _⟩ := d2.open_
    go_wp2_with fail
    refine (sValidTypesTop _ _ _ _ w2 d2 (Nat.le_refl _)).mono ?_
    rintro e w3 ⟨rfl, hB3⟩
    have B3 := B2.trans (hB3.mono B2.size)
    clear hB2 hB3 ho2 d2
    go_wp2_with fail
    refine (toDeclS_any _ _ _ _ w3 (hv.keep (Same.of_below B3 (Nat.le_refl _))) B3.size HS.out).mono ?_
    rintro e w4 ⟨u4, rfl, hB4, ho4⟩
    have B4 := B3.trans (hB4.mono B3.size)
    have d4 := ho4.decs
    obtain ⟨g4, k4, rfl, _, _⟩ := d4.open_
    go_wp2_with fail
    refine (validTypes_any _ _ _ _ w4 d4 (Nat.le_refl _)).mono ?_
    rintro e w5 ⟨rfl, hB5⟩
    have B5 := B4.trans (hB5.mono B4.size)
    go_wp2_with fail
    refine (toDeclS_any _ _ _ _ w5 (hv.keep (Same.of_below B5 (Nat.le_refl _))) B5.size HS.out).mono ?_
    rintro e w6 ⟨u6, rfl, hB6, ho6⟩
    have B6 := B5.trans (hB6.mono B5.size)
    have d6 := ho6.decs
    obtain ⟨g6, k6, rfl, _, _⟩ := d6.open_
    have x6 := d4.keep (Same.of_below (hB5.trans (hB6.mono hB5.size)) (Nat.le_refl _))
    go_wp2_with fail
    refine (eqDeclS_same _ _ _ _ _ _ _ w6 x6 d6 (Nat.le_trans hB5.size hB6.size) (Nat.le_refl _)).mono ?_
    rintro e w7 ⟨rfl, hB7⟩
    have B7 := B6.trans (hB7.mono B6.size)
    clear hB4 hB5 hB6 hB7 B2 B3 B4 B5 B6 d4 d6 x6 ho4 ho6
    go_wp2_with fail
    go_ret
    exact ⟨rfl, B7⟩
set_option maxHeartbeats 400000 in
theorem fnExactConCount_walk (ds : List Dec) (v : Value) (w : World) (hv : Decs w 0 w.heap.size v ds) :
    Calls Try.prog 9 #[v] w fun e w' => e = .returned (.bool true) ∧ Below w.heap.size w w' := by
  obtain ⟨B, d, rfl, hl, hd⟩ := hv.open_
  go_enter Try.func9, Try.ntmps9
  go_wp2_with fail
  refine (szDeclS_any _ _ _ _ _ _ hv (Nat.le_refl _) (by omega) (by omega)).mono ?_
  rintro e w1 ⟨r, rfl, hB1, hr⟩
  rcases hr with rfl | ⟨r0, r1, hs⟩
  · go_wp2_with fail
    go_ret
    exact ⟨rfl, hB1⟩
  · have HS := Lib.hid hs
    clear hs
    go_wp2_with fail
    refine (toDeclS_any _ _ _ _ w1 (hv.keep (Same.of_below hB1 (Nat.le_refl _))) hB1.size HS.out).mono ?_
    rintro e w2 ⟨u2, rfl, hB2, ho2⟩
    have B2 := hB1.trans (hB2.mono hB1.size)
    have d2 := ho2.decs
    obtain ⟨g2, k2, rfl, _, _⟩ := d2.open_
    go_wp2_with fail
    refine (sConCountTop _ _ _ _ w2 d2 (Nat.le_refl _)).mono ?_
    rintro e w3 ⟨rfl, hB3⟩
    have B3 := B2.trans (hB3.mono B2.size)
    clear hB2 hB3 ho2 d2
    go_wp2_with fail
    refine (toDeclS_any _ _ _ _ w3 (hv.keep (Same.of_below B3 (Nat.le_refl _))) B3.size HS.out).mono ?_
    rintro e w4 ⟨u4, rfl, hB4, ho4⟩
    have B4 := B3.trans (hB4.mono B3.size)
    have d4 := ho4.decs
    obtain ⟨g4, k4, rfl, _, _⟩ := d4.open_
    go_wp2_with fail
    refine (conCountTop _ _ _ _ w4 d4 (Nat.le_refl _)).mono ?_
    rintro e w5 ⟨rfl, hB5⟩
    have B5 := B4.trans (hB5.mono B4.size)
    go_wp2_with fail
    refine (toDeclS_any _ _ _ _ w5 (hv.keep (Same.of_below B5 (Nat.le_refl _))) B5.size HS.out).mono ?_
    rintro e w6 ⟨u6, rfl, hB6, ho6⟩
    have B6 := B5.trans (hB6.mono B5.size)
    have d6 := ho6.decs
    obtain ⟨g6, k6, rfl, _, _⟩ := d6.open_
    have x6 := d4.keep (Same.of_below (hB5.trans (hB6.mono hB5.size)) (Nat.le_refl _))
    go_wp2_with fail
    refine (eqDeclS_same _ _ _ _ _ _ _ w6 x6 d6 (Nat.le_trans hB5.size hB6.size) (Nat.le_refl _)).mono ?_
    rintro e w7 ⟨rfl, hB7⟩
    have B7 := B6.trans (hB7.mono B6.size)
    clear hB4 hB5 hB6 hB7 B2 B3 B4 B5 B6 d4 d6 x6 ho4 ho6
    go_wp2_with fail
    go_ret
    exact ⟨rfl, B7⟩
set_option maxHeartbeats 400000 in
theorem fnExactConType_walk (ds : List Dec) (v : Value) (c0 : Int) (w : World) (hv : Decs w 0 w.heap.size v ds) :
    Calls Try.prog 10 #[v, .int .i64 c0] w fun e w' => e = .returned (.bool true) ∧ Below w.heap.size w w' := by
  obtain ⟨B, d, rfl, hl, hd⟩ := hv.open_
  go_enter Try.func10, Try.ntmps10
  go_wp2_with fail
  refine (szDeclS_any _ _ _ _ _ _ hv (Nat.le_refl _) (by omega) (by omega)).mono ?_
  rintro e w1 ⟨r, rfl, hB1, hr⟩
  rcases hr with rfl | ⟨r0, r1, hs⟩
  · go_wp2_with fail
    go_ret
    exact ⟨rfl, hB1⟩
  · have HS := Lib.hid hs
    clear hs
    go_wp2_with fail
    refine (toDeclS_any _ _ _ _ w1 (hv.keep (Same.of_below hB1 (Nat.le_refl _))) hB1.size HS.out).mono ?_
    rintro e w2 ⟨u2, rfl, hB2, ho2⟩
    have B2 := hB1.trans (hB2.mono hB1.size)
    have d2 := ho2.decs
    obtain ⟨g2, k2, rfl, _, _⟩ := d2.open_
    go_wp2_with fail
    refine (sConTypeTop c0 _ _ _ _ w2 d2 (Nat.le_refl _)).mono ?_
    rintro e w3 ⟨rfl, hB3⟩
    have B3 := B2.trans (hB3.mono B2.size)
    clear hB2 hB3 ho2 d2
    go_wp2_with fail
    refine (toDeclS_any _ _ _ _ w3 (hv.keep (Same.of_below B3 (Nat.le_refl _))) B3.size HS.out).mono ?_
    rintro e w4 ⟨u4, rfl, hB4, ho4⟩
    have B4 := B3.trans (hB4.mono B3.size)
    have d4 := ho4.decs
    obtain ⟨g4, k4, rfl, _, _⟩ := d4.open_
    go_wp2_with fail
    refine (conTypeTop c0 _ _ _ _ w4 d4 (Nat.le_refl _)).mono ?_
    rintro e w5 ⟨rfl, hB5⟩
    have B5 := B4.trans (hB5.mono B4.size)
    go_wp2_with fail
    refine (toDeclS_any _ _ _ _ w5 (hv.keep (Same.of_below B5 (Nat.le_refl _))) B5.size HS.out).mono ?_
    rintro e w6 ⟨u6, rfl, hB6, ho6⟩
    have B6 := B5.trans (hB6.mono B5.size)
    have d6 := ho6.decs
    obtain ⟨g6, k6, rfl, _, _⟩ := d6.open_
    have x6 := d4.keep (Same.of_below (hB5.trans (hB6.mono hB5.size)) (Nat.le_refl _))
    go_wp2_with fail
    refine (eqDeclS_same _ _ _ _ _ _ _ w6 x6 d6 (Nat.le_trans hB5.size hB6.size) (Nat.le_refl _)).mono ?_
    rintro e w7 ⟨rfl, hB7⟩
    have B7 := B6.trans (hB7.mono B6.size)
    clear hB4 hB5 hB6 hB7 B2 B3 B4 B5 B6 d4 d6 x6 ho4 ho6
    go_wp2_with fail
    go_ret
    exact ⟨rfl, B7⟩
set_option maxHeartbeats 400000 in
theorem fnExactArrowOf_walk (ds : List Dec) (v : Value) (c0 : Int) (c1 : Int) (w : World) (hv : Decs w 0 w.heap.size v ds) :
    Calls Try.prog 13 #[v, .int .i64 c0, .int .i64 c1] w fun e w' => e = .returned (.bool true) ∧ Below w.heap.size w w' := by
  obtain ⟨B, d, rfl, hl, hd⟩ := hv.open_
  go_enter Try.func13, Try.ntmps13
  go_wp2_with fail
  refine (szDeclS_any _ _ _ _ _ _ hv (Nat.le_refl _) (by omega) (by omega)).mono ?_
  rintro e w1 ⟨r, rfl, hB1, hr⟩
  rcases hr with rfl | ⟨r0, r1, hs⟩
  · go_wp2_with fail
    go_ret
    exact ⟨rfl, hB1⟩
  · have HS := Lib.hid hs
    clear hs
    go_wp2_with fail
    refine (toDeclS_any _ _ _ _ w1 (hv.keep (Same.of_below hB1 (Nat.le_refl _))) hB1.size HS.out).mono ?_
    rintro e w2 ⟨u2, rfl, hB2, ho2⟩
    have B2 := hB1.trans (hB2.mono hB1.size)
    have d2 := ho2.decs
    obtain ⟨g2, k2, rfl, _, _⟩ := d2.open_
    go_wp2_with fail
    refine (sArrowTop c0 c1 _ _ _ _ w2 d2 (Nat.le_refl _)).mono ?_
    rintro e w3 ⟨rfl, hB3⟩
    have B3 := B2.trans (hB3.mono B2.size)
    clear hB2 hB3 ho2 d2
    go_wp2_with fail
    refine (toDeclS_any _ _ _ _ w3 (hv.keep (Same.of_below B3 (Nat.le_refl _))) B3.size HS.out).mono ?_
    rintro e w4 ⟨u4, rfl, hB4, ho4⟩
    have B4 := B3.trans (hB4.mono B3.size)
    have d4 := ho4.decs
    obtain ⟨g4, k4, rfl, _, _⟩ := d4.open_
    go_wp2_with fail
    refine (arrowTop c0 c1 _ _ _ _ w4 d4 (Nat.le_refl _)).mono ?_
    rintro e w5 ⟨rfl, hB5⟩
    have B5 := B4.trans (hB5.mono B4.size)
    go_wp2_with fail
    refine (toDeclS_any _ _ _ _ w5 (hv.keep (Same.of_below B5 (Nat.le_refl _))) B5.size HS.out).mono ?_
    rintro e w6 ⟨u6, rfl, hB6, ho6⟩
    have B6 := B5.trans (hB6.mono B5.size)
    have d6 := ho6.decs
    obtain ⟨g6, k6, rfl, _, _⟩ := d6.open_
    have x6 := d4.keep (Same.of_below (hB5.trans (hB6.mono hB5.size)) (Nat.le_refl _))
    go_wp2_with fail
    refine (eqDeclS_same _ _ _ _ _ _ _ w6 x6 d6 (Nat.le_trans hB5.size hB6.size) (Nat.le_refl _)).mono ?_
    rintro e w7 ⟨rfl, hB7⟩
    have B7 := B6.trans (hB7.mono B6.size)
    clear hB4 hB5 hB6 hB7 B2 B3 B4 B5 B6 d4 d6 x6 ho4 ho6
    go_wp2_with fail
    go_ret
    exact ⟨rfl, B7⟩
end Go.Proofs.Ytmahamlfdegkkaa
