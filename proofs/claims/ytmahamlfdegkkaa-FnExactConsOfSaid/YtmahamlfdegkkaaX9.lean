/- The walks of the exact laws of chapter 1 whose answer is a list of ints. -/
import Derived.Test.YtmahamlfdegkkaaCf
import Derived.Test.YtmahamlfdegkkaaX8
namespace Go.Proofs.Ytmahamlfdegkkaa
open Go.RowKit Go.BigFrame
theorem Own.keep {w w' : World} {base : Nat} {u : Value} {xs : List Int} (h : Own w base u xs) (s : Same base w.heap.size w w') : Own w' base u xs := by
  refine ⟨h.1, h.2.imp id fun ⟨g, cap, cur, e, h1, h2, h3⟩ => ⟨g, cap, cur, e, h1, (s g h1 ?_).trans h2, h3⟩⟩
  exact (Array.getElem?_eq_some_iff.1 h2).1
theorem conFieldsV_three (ds : List Dec) (c : Int) : (conFieldsV ds c).length ≤ 3 := by
  unfold conFieldsV
  split
  · rename_i h; exact flds_three h.1 h.2
  · simp
theorem consOfV_three (ds : List Dec) (t : Int) : (consOfV ds t).length ≤ 3 := by
  unfold consOfV
  split
  · rename_i h
    rw [length_consAt]
    exact cons_three h.1 (by omega)
  · simp
set_option maxHeartbeats 800000 in
theorem fnExactConFields_walk (ds : List Dec) (v : Value) (c0 : Int) (w : World) (hv : Decs w 0 w.heap.size v ds) :
    Calls Try.prog 11 #[v, .int .i64 c0] w fun e w' => e = .returned (.bool true) ∧ Below w.heap.size w w' := by
  obtain ⟨B, d, rfl, hl, hd⟩ := hv.open_
  go_enter Try.func11, Try.ntmps11
  go_wp2_with fail
  refine (szDeclS_any _ _ _ _ _ _ hv (Nat.le_refl _) (by omega) (by omega)).mono ?_
  rintro e w1 ⟨r, rfl, hB1, hr⟩
  rcases hr with rfl | ⟨r0, r1, hs⟩
  · go_wp2_with fail
    go_ret
    exact ⟨rfl, hB1⟩
  · have HS := Lib.hid hs
    have hX : (conFieldsV ds c0).length ≤ 1048576 := by have := conFieldsV_three ds c0; omega
    obtain ⟨X, eX⟩ : ∃ X, conFieldsV ds c0 = X := ⟨_, rfl⟩
    have SP := fun L U v w => sConFieldsTop c0 L U ds v w
    have IM := fun L U v w => conFieldsOwn c0 L U ds v w
    rw [eX] at hX SP IM
    clear hs eX
    go_wp2_with fail
    refine (toDeclS_any _ _ _ _ w1 (hv.keep (Same.of_below hB1 (Nat.le_refl _))) hB1.size HS.out).mono ?_
    rintro e w2 ⟨u2, rfl, hB2, ho2⟩
    have B2 := hB1.trans (hB2.mono hB1.size)
    have d2 := ho2.decs
    obtain ⟨g2, k2, rfl, _, _⟩ := d2.open_
    go_wp2_with fail
    refine (SP _ _ _ w2 d2 (Nat.le_refl _)).mono ?_
    rintro e w3 ⟨u3, rfl, hB3, i3⟩
    have B3 := B2.trans (hB3.mono B2.size)
    obtain ⟨g3, k3, rfl, _, _⟩ := i3.open_
    have z3 := hB3.size
    clear hB2 ho2 d2 SP hB3
    go_wp2_with fail
    refine (toDeclS_any _ _ _ _ w3 (hv.keep (Same.of_below B3 (Nat.le_refl _))) B3.size HS.out).mono ?_
    rintro e w4 ⟨u4, rfl, hB4, o4⟩
    have B4 := B3.trans (hB4.mono B3.size)
    have z4 := hB4.size
    have i4 := i3.keep (Same.of_below hB4 (Nat.le_refl _))
    obtain ⟨g4, k4, rfl, _, _⟩ := o4.decs.open_
    have D4 := Lib.hid (And.intro o4 i4)
    clear o4 i4 i3 hB4
    go_wp2_with fail
    refine (IM _ _ _ w4 D4.out.1.decs (Nat.le_refl _)).mono ?_
    rintro e w5 ⟨u5, rfl, hB5, o5⟩
    have B5 := B4.trans (hB5.mono B4.size)
    have z5 := hB5.size
    obtain ⟨g5, k5, rfl, _, _⟩ := o5.ints.open_
    have D5 := Lib.hid (And.intro (D4.out.1.keep (Same.of_below hB5 (Nat.le_refl _))) (And.intro (D4.out.2.keep (Same.of_below hB5 z4)) o5))
    clear D4 o5 hB5
    go_wp2_with fail
    refine (eqIntS_same _ _ _ _ X _ _ w5 D5.out.2.2.ints D5.out.2.1).mono ?_
    rintro e w6 ⟨rfl, hB6⟩
    have B6 := B5.trans (hB6.mono B5.size)
    have z6 := hB6.size
    have D6 := Lib.hid (And.intro (D5.out.1.keep (Same.of_below hB6 z5)) (And.intro (D5.out.2.1.keep (Same.of_below hB6 (by omega))) (D5.out.2.2.keep (Same.of_below hB6 (Nat.le_refl _)))))
    clear D5 hB6
    go_wp2_with fail
    refine (toDeclS_any _ _ _ _ w6 (hv.keep (Same.of_below B6 (Nat.le_refl _))) B6.size HS.out).mono ?_
    rintro e w7 ⟨u7, rfl, hB7, o7⟩
    have B7 := B6.trans (hB7.mono B6.size)
    have z7 := hB7.size
    obtain ⟨g7, k7, rfl, _, _⟩ := o7.decs.open_
    have D7 := Lib.hid (And.intro (D6.out.1.keep (Same.of_below hB7 (by omega))) (And.intro (D6.out.2.1.keep (Same.of_below hB7 (by omega))) (And.intro (D6.out.2.2.keep (Same.of_below hB7 (Nat.le_refl _))) o7.decs)))
    clear D6 hB7 o7
    go_wp2_with fail
    refine (eqDeclS_same _ _ _ _ _ _ _ w7 D7.out.1.decs D7.out.2.2.2 (by omega) (Nat.le_refl _)).mono ?_
    rintro e w8 ⟨rfl, hB8⟩
    have B8 := B7.trans (hB8.mono B7.size)
    have z8 := hB8.size
    have D8 := Lib.hid (And.intro (D7.out.1.keep (Same.of_below hB8 (by omega))) (And.intro (D7.out.2.1.keep (Same.of_below hB8 (by omega))) (D7.out.2.2.1.keep (Same.of_below hB8 (Nat.le_refl _)))))
    clear D7 hB8
    go_wp2_with fail
    refine (markDeclS_any _ _ _ _ w8 D8.out.1 HS.out).mono ?_
    rintro e w9 ⟨r9, rfl, p9, T9⟩
    have z9 := T9.size
    have B9 := B8.trans (T9.below B3.size)
    have D9 := Lib.hid (And.intro (D8.out.2.1.keep (T9.same (.inl (Nat.le_refl _)))) (D8.out.2.2.keep (T9.same (.inr (Nat.le_refl _)))))
    clear D8 T9
    go_wp2_with fail
    refine (eqIntS_same _ _ _ _ X _ _ w9 D9.out.2.ints D9.out.1).mono ?_
    rintro e w10 ⟨rfl, hB10⟩
    have B10 := B9.trans (hB10.mono B9.size)
    have z10 := hB10.size
    have D10 := Lib.hid (And.intro (D9.out.1.keep (Same.of_below hB10 (by omega))) (D9.out.2.keep (Same.of_below hB10 (Nat.le_refl _))))
    clear D9 hB10
    go_wp2_with fail
    refine (markIntS_any _ X _ 1 w10 D10.out.2 (by omega) (by omega) hX).mono ?_
    rintro e w11 ⟨rfl, o11, gb, z11⟩
    have lt11 : ∀ g, (Value.slice g5 X.length k5).ownBlock = some g → w4.heap.size ≤ g := fun g e => (D10.out.2.lt g e).1
    have B11 := B10.grown gb B10.size (fun g e => by have := lt11 g e; have := B4.size; omega)
    have D11 := Lib.hid (And.intro (D10.out.1.keep (Same.of_grown gb (by omega) (fun g e => by have := lt11 g e; omega))) o11)
    clear D10 o11 gb lt11
    go_wp2_with fail
    refine (heldIntS_any _ _ X _ 1 w11 D11.out.2.ints (by omega) (by omega) hX).mono ?_
    rintro e w12 ⟨rfl, rfl⟩
    go_wp2_with fail
    refine (toDeclS_any _ _ _ _ w11 (hv.keep (Same.of_below B11 (Nat.le_refl _))) B11.size HS.out).mono ?_
    rintro e w12 ⟨u12, rfl, hB12, o12⟩
    have B12 := B11.trans (hB12.mono B11.size)
    have z12 := hB12.size
    obtain ⟨g12, k12, rfl, _, _⟩ := o12.decs.open_
    have D12 := Lib.hid (And.intro (D11.out.1.keep (Same.of_below hB12 (by omega))) (And.intro (D11.out.2.keep (Same.of_below hB12 (Nat.le_refl _))) o12.decs))
    clear D11 hB12 o12
    go_wp2_with fail
    refine (IM _ _ _ w12 D12.out.2.2 (Nat.le_refl _)).mono ?_
    rintro e w13 ⟨u13, rfl, hB13, o13⟩
    have B13 := B12.trans (hB13.mono B12.size)
    have z13 := hB13.size
    obtain ⟨g13, k13, rfl, _, _⟩ := o13.ints.open_
    have D13 := Lib.hid (And.intro (D12.out.1.keep (Same.of_below hB13 (by omega))) (And.intro (D12.out.2.1.keep (Same.of_below hB13 (Nat.le_refl _))) o13.ints))
    clear D12 hB13 o13 IM
    go_wp2_with fail
    refine (eqIntS_same _ _ _ _ X _ _ w13 D13.out.2.2 D13.out.1).mono ?_
    rintro e w14 ⟨rfl, hB14⟩
    have B14 := B13.trans (hB14.mono B13.size)
    have D14 := Lib.hid (D13.out.2.1.keep (Same.of_below hB14 (Nat.le_refl _)))
    clear D13 hB14
    go_wp2_with fail
    refine (heldIntS_any _ _ X _ 1 w14 D14.out.ints (by omega) (by omega) hX).mono ?_
    rintro e w15 ⟨rfl, rfl⟩
    clear D14 B2 B3 B4 B5 B6 B7 B8 B9 B10 B11 B12 B13
    go_wp2_with fail
    go_ret
    exact ⟨rfl, B14⟩
set_option maxHeartbeats 800000 in
theorem fnExactConsOf_walk (ds : List Dec) (v : Value) (c0 : Int) (w : World) (hv : Decs w 0 w.heap.size v ds) :
    Calls Try.prog 12 #[v, .int .i64 c0] w fun e w' => e = .returned (.bool true) ∧ Below w.heap.size w w' := by
  obtain ⟨B, d, rfl, hl, hd⟩ := hv.open_
  go_enter Try.func12, Try.ntmps12
  go_wp2_with fail
  refine (szDeclS_any _ _ _ _ _ _ hv (Nat.le_refl _) (by omega) (by omega)).mono ?_
  rintro e w1 ⟨r, rfl, hB1, hr⟩
  rcases hr with rfl | ⟨r0, r1, hs⟩
  · go_wp2_with fail
    go_ret
    exact ⟨rfl, hB1⟩
  · have HS := Lib.hid hs
    have hX : (consOfV ds c0).length ≤ 1048576 := by have := consOfV_three ds c0; omega
    obtain ⟨X, eX⟩ : ∃ X, consOfV ds c0 = X := ⟨_, rfl⟩
    have SP := fun L U v w => sConsOfTop c0 L U ds v w
    have IM := fun L U v w => consOfOwn c0 L U ds v w
    rw [eX] at hX SP IM
    clear hs eX
    go_wp2_with fail
    refine (toDeclS_any _ _ _ _ w1 (hv.keep (Same.of_below hB1 (Nat.le_refl _))) hB1.size HS.out).mono ?_
    rintro e w2 ⟨u2, rfl, hB2, ho2⟩
    have B2 := hB1.trans (hB2.mono hB1.size)
    have d2 := ho2.decs
    obtain ⟨g2, k2, rfl, _, _⟩ := d2.open_
    go_wp2_with fail
    refine (SP _ _ _ w2 d2 (Nat.le_refl _)).mono ?_
    rintro e w3 ⟨u3, rfl, hB3, i3⟩
    have B3 := B2.trans (hB3.mono B2.size)
    obtain ⟨g3, k3, rfl, _, _⟩ := i3.open_
    have z3 := hB3.size
    clear hB2 ho2 d2 SP hB3
    go_wp2_with fail
    refine (toDeclS_any _ _ _ _ w3 (hv.keep (Same.of_below B3 (Nat.le_refl _))) B3.size HS.out).mono ?_
    rintro e w4 ⟨u4, rfl, hB4, o4⟩
    have B4 := B3.trans (hB4.mono B3.size)
    have z4 := hB4.size
    have i4 := i3.keep (Same.of_below hB4 (Nat.le_refl _))
    obtain ⟨g4, k4, rfl, _, _⟩ := o4.decs.open_
    have D4 := Lib.hid (And.intro o4 i4)
    clear o4 i4 i3 hB4
    go_wp2_with fail
    refine (IM _ _ _ w4 D4.out.1.decs (Nat.le_refl _)).mono ?_
    rintro e w5 ⟨u5, rfl, hB5, o5⟩
    have B5 := B4.trans (hB5.mono B4.size)
    have z5 := hB5.size
    obtain ⟨g5, k5, rfl, _, _⟩ := o5.ints.open_
    have D5 := Lib.hid (And.intro (D4.out.1.keep (Same.of_below hB5 (Nat.le_refl _))) (And.intro (D4.out.2.keep (Same.of_below hB5 z4)) o5))
    clear D4 o5 hB5
    go_wp2_with fail
    refine (eqIntS_same _ _ _ _ X _ _ w5 D5.out.2.2.ints D5.out.2.1).mono ?_
    rintro e w6 ⟨rfl, hB6⟩
    have B6 := B5.trans (hB6.mono B5.size)
    have z6 := hB6.size
    have D6 := Lib.hid (And.intro (D5.out.1.keep (Same.of_below hB6 z5)) (And.intro (D5.out.2.1.keep (Same.of_below hB6 (by omega))) (D5.out.2.2.keep (Same.of_below hB6 (Nat.le_refl _)))))
    clear D5 hB6
    go_wp2_with fail
    refine (toDeclS_any _ _ _ _ w6 (hv.keep (Same.of_below B6 (Nat.le_refl _))) B6.size HS.out).mono ?_
    rintro e w7 ⟨u7, rfl, hB7, o7⟩
    have B7 := B6.trans (hB7.mono B6.size)
    have z7 := hB7.size
    obtain ⟨g7, k7, rfl, _, _⟩ := o7.decs.open_
    have D7 := Lib.hid (And.intro (D6.out.1.keep (Same.of_below hB7 (by omega))) (And.intro (D6.out.2.1.keep (Same.of_below hB7 (by omega))) (And.intro (D6.out.2.2.keep (Same.of_below hB7 (Nat.le_refl _))) o7.decs)))
    clear D6 hB7 o7
    go_wp2_with fail
    refine (eqDeclS_same _ _ _ _ _ _ _ w7 D7.out.1.decs D7.out.2.2.2 (by omega) (Nat.le_refl _)).mono ?_
    rintro e w8 ⟨rfl, hB8⟩
    have B8 := B7.trans (hB8.mono B7.size)
    have z8 := hB8.size
    have D8 := Lib.hid (And.intro (D7.out.1.keep (Same.of_below hB8 (by omega))) (And.intro (D7.out.2.1.keep (Same.of_below hB8 (by omega))) (D7.out.2.2.1.keep (Same.of_below hB8 (Nat.le_refl _)))))
    clear D7 hB8
    go_wp2_with fail
    refine (markDeclS_any _ _ _ _ w8 D8.out.1 HS.out).mono ?_
    rintro e w9 ⟨r9, rfl, p9, T9⟩
    have z9 := T9.size
    have B9 := B8.trans (T9.below B3.size)
    have D9 := Lib.hid (And.intro (D8.out.2.1.keep (T9.same (.inl (Nat.le_refl _)))) (D8.out.2.2.keep (T9.same (.inr (Nat.le_refl _)))))
    clear D8 T9
    go_wp2_with fail
    refine (eqIntS_same _ _ _ _ X _ _ w9 D9.out.2.ints D9.out.1).mono ?_
    rintro e w10 ⟨rfl, hB10⟩
    have B10 := B9.trans (hB10.mono B9.size)
    have z10 := hB10.size
    have D10 := Lib.hid (And.intro (D9.out.1.keep (Same.of_below hB10 (by omega))) (D9.out.2.keep (Same.of_below hB10 (Nat.le_refl _))))
    clear D9 hB10
    go_wp2_with fail
    refine (markIntS_any _ X _ 1 w10 D10.out.2 (by omega) (by omega) hX).mono ?_
    rintro e w11 ⟨rfl, o11, gb, z11⟩
    have lt11 : ∀ g, (Value.slice g5 X.length k5).ownBlock = some g → w4.heap.size ≤ g := fun g e => (D10.out.2.lt g e).1
    have B11 := B10.grown gb B10.size (fun g e => by have := lt11 g e; have := B4.size; omega)
    have D11 := Lib.hid (And.intro (D10.out.1.keep (Same.of_grown gb (by omega) (fun g e => by have := lt11 g e; omega))) o11)
    clear D10 o11 gb lt11
    go_wp2_with fail
    refine (heldIntS_any _ _ X _ 1 w11 D11.out.2.ints (by omega) (by omega) hX).mono ?_
    rintro e w12 ⟨rfl, rfl⟩
    go_wp2_with fail
    refine (toDeclS_any _ _ _ _ w11 (hv.keep (Same.of_below B11 (Nat.le_refl _))) B11.size HS.out).mono ?_
    rintro e w12 ⟨u12, rfl, hB12, o12⟩
    have B12 := B11.trans (hB12.mono B11.size)
    have z12 := hB12.size
    obtain ⟨g12, k12, rfl, _, _⟩ := o12.decs.open_
    have D12 := Lib.hid (And.intro (D11.out.1.keep (Same.of_below hB12 (by omega))) (And.intro (D11.out.2.keep (Same.of_below hB12 (Nat.le_refl _))) o12.decs))
    clear D11 hB12 o12
    go_wp2_with fail
    refine (IM _ _ _ w12 D12.out.2.2 (Nat.le_refl _)).mono ?_
    rintro e w13 ⟨u13, rfl, hB13, o13⟩
    have B13 := B12.trans (hB13.mono B12.size)
    have z13 := hB13.size
    obtain ⟨g13, k13, rfl, _, _⟩ := o13.ints.open_
    have D13 := Lib.hid (And.intro (D12.out.1.keep (Same.of_below hB13 (by omega))) (And.intro (D12.out.2.1.keep (Same.of_below hB13 (Nat.le_refl _))) o13.ints))
    clear D12 hB13 o13 IM
    go_wp2_with fail
    refine (eqIntS_same _ _ _ _ X _ _ w13 D13.out.2.2 D13.out.1).mono ?_
    rintro e w14 ⟨rfl, hB14⟩
    have B14 := B13.trans (hB14.mono B13.size)
    have D14 := Lib.hid (D13.out.2.1.keep (Same.of_below hB14 (Nat.le_refl _)))
    clear D13 hB14
    go_wp2_with fail
    refine (heldIntS_any _ _ X _ 1 w14 D14.out.ints (by omega) (by omega) hX).mono ?_
    rintro e w15 ⟨rfl, rfl⟩
    clear D14 B2 B3 B4 B5 B6 B7 B8 B9 B10 B11 B12 B13
    go_wp2_with fail
    go_ret
    exact ⟨rfl, B14⟩
end Go.Proofs.Ytmahamlfdegkkaa
