/- Contracts of chapter 1: inhabited types from outside, as the model finds them; the walk of the exact law. -/
import Derived.Test.YtmahamlfdegkkaaJ2
import Derived.Test.YtmahamlfdegkkaaX8
namespace Go.Proofs.Ytmahamlfdegkkaa
open Go.RowKit Go.BigFrame
theorem anyFull_is (b : Bool) (L U L' U' : Nat) (d : Dec) (S : List Int) (v v' : Value) (w : World) (hv : Cons w L U v d.cons) (hU : U ≤ w.heap.size) (hv' : Ints w L' U' v' S) (hU' : U' ≤ w.heap.size) (h : fullB d S = b) :
    Calls Try.prog 59 #[.agg #[.int .i64 d.frm, .int .i64 d.to, v], v'] w fun e w' => e = .returned (.bool b) ∧ Below w.heap.size w w' := by
  subst h; exact anyFull_any L U L' U' d.frm d.to d.cons S v v' w hv hU hv' hU'
set_option maxHeartbeats 1600000 in
theorem sInhabitedTop (L U : Nat) (ds : List Dec) (v : Value) (w : World) (hv : Decs w L U v ds) (hU : U ≤ w.heap.size) :
    Calls Try.prog 26 #[v] w fun e w' => ∃ u, e = .returned u ∧ Below w.heap.size w w' ∧ Ints w' w.heap.size w'.heap.size u (inhV ds) := by
  obtain ⟨B, d, rfl, hl, hd⟩ := hv.open_
  rcases hb : typesOk ds with _ | _
  · rw [show inhV ds = [] by unfold inhV; rw [hb]; rfl]
    have H := Lib.hid hb
    clear hb
    go_enter Try.func26, Try.ntmps26
    go_wp2_with (go_at_call 46; refine (sValidTypes_is _ _ _ _ _ _ hv hU H.out).mono ?_; rintro e w1 ⟨rfl, hB⟩)
    go_ret
    exact ⟨_, rfl, hB, (Own.nil _ _).ints⟩
  · rw [show inhV ds = iterG ds ds.length by unfold inhV; rw [hb, iterG_eq]; rfl]
    have H := Lib.hid hb
    have h4 := typesOk_four hb
    clear hb
    go_enter Try.func26, Try.ntmps26
    go_wp2_with fail
    refine (sValidTypes_is _ _ _ _ _ _ hv hU H.out).mono ?_
    rintro e w1 ⟨rfl, hB1⟩
    obtain ⟨W0, hW0⟩ : ∃ W0, W0 = w1.alloc (.cells #[.int .i64 0] 3) := ⟨_, rfl⟩
    have z1 := hB1.size
    have hB0 : Below w.heap.size w W0 := by rw [hW0]; exact hB1.alloc z1 _
    have ho0 : Own W0 w.heap.size (.slice (some ⟨w1.heap.size, 0, none⟩) 1 1) (iterG ds 0) := by
      rw [hW0]
      exact Own.of (n := 1) (World.ownsRow_lit (base := w.heap.size) (e := 3) (size := 1) w1 #[.int .i64 0] 1 z1 (by simp [maxLen]) rfl)
    clear hB1
    go_wp2_with fail
    rw [← hW0]
    clear hW0
    go_loopw [3, 4] (fun u i wr => ∃ r : Nat, r ≤ ds.length ∧ i = .int .i64 r ∧ Own wr w.heap.size u (iterG ds r) ∧ Below w.heap.size w wr) (fun _ i _ => ds.length - (intOf i).toNat)
    case atStart => exact ⟨0, by omega, rfl, ho0, hB0⟩
    case round =>
      obtain ⟨r, hr, rfl, hown, hB⟩ := hrel
      by_cases hlt : r < ds.length
      · have len := iterG_length ds r
        have lm : r * ds.length ≤ 4 * 4 := Nat.mul_le_mul (by omega) h4
        have asc := iterG_asc ds r
        obtain ⟨S, hS⟩ : ∃ S, iterG ds r = S := ⟨_, rfl⟩
        have hnext : iterG ds (r + 1) = stepG ds S ds.length := by rw [← hS]; rfl
        rw [hS] at len asc hown
        have HN := Lib.hid hnext
        have HL := Lib.hid (And.intro asc (show S.length ≤ 17 by omega))
        clear len lm asc hS hnext ho0
        go_wp2_with fail
        go_loopw [3, 5] (fun u i wq => ∃ k : Nat, k ≤ ds.length ∧ i = .int .i64 k ∧ Own wq w.heap.size u (stepG ds S k) ∧ Below w.heap.size w wq) (fun _ i _ => ds.length - (intOf i).toNat)
        case atStart => exact ⟨0, by omega, rfl, hown, hB⟩
        case round =>
          obtain ⟨k, hk, rfl, hownq, hBq⟩ := hrel
          have hzq := hBq.size
          by_cases hkt : k < ds.length
          · obtain ⟨b, o, A1, c1, rfl, _, _, hc0, hc1, hc2, hu⟩ := (hv.keep (Same.of_below hBq hU)).at_ hkt
            obtain ⟨X, xc, rfl, _, _⟩ := hownq.ints.open_
            have asc := stepG_asc (ds := ds) (HL.out.1) k
            have len := stepG_length ds S k
            have len2 := HL.out.2
            have hn1 : stepG ds S (k + 1) = cond (fullB (nthD ds k) (stepG ds S k)) (ins ((k : Int) + 1) (stepG ds S k)) (stepG ds S k) := rfl
            obtain ⟨T, hT⟩ : ∃ T, stepG ds S k = T := ⟨_, rfl⟩
            rw [hT] at hn1 hownq asc len ⊢
            have HO := Lib.hid (And.intro hownq (And.intro hBq hu))
            have AL := Lib.hid (And.intro asc len)
            clear hownq hBq hu asc len hB hown
            rcases hf : fullB (nthD ds k) T with _ | _
            · rw [hf, cond_false] at hn1
              have HF := Lib.hid hf
              have HX := Lib.hid hn1
              clear hf hn1
              go_wp2_with fail
              refine (anyFull_is _ _ _ _ _ _ _ _ _ wr HO.out.2.2 (by omega) HO.out.1.ints (Nat.le_refl _) HF.out).mono ?_
              rintro e w2 ⟨rfl, hB2⟩
              have HE := Lib.hid (And.intro (HO.out.1.keep (Same.of_below hB2 (Nat.le_refl _))) (HO.out.2.1.trans (hB2.mono hzq)))
              clear hB2
              go_wp2_with fail
              go_roundw
              case rel => exact ⟨k + 1, by omega, by go_num, by rw [HX.out]; exact HE.out.1, HE.out.2⟩
              case measure => simp [intOf]; omega
            · rw [hf, cond_true] at hn1
              have HF := Lib.hid hf
              have HX := Lib.hid hn1
              clear hf hn1
              go_wp2_with fail
              refine (anyFull_is _ _ _ _ _ _ _ _ _ wr HO.out.2.2 (by omega) HO.out.1.ints (Nat.le_refl _) HF.out).mono ?_
              rintro e w2 ⟨rfl, hB2⟩
              have HE := Lib.hid (And.intro (HO.out.1.keep (Same.of_below hB2 (Nat.le_refl _))) (HO.out.2.1.trans (hB2.mono hzq)))
              clear hB2
              go_wp2_with fail
              refine (insert_any _ _ _ _ _ w2 HE.out.1.ints (Nat.le_refl _) AL.out.1 (by have := AL.out.2; omega)).mono ?_
              rintro e w3 ⟨u3, rfl, hB3, ho3⟩
              have HG := Lib.hid (And.intro (ho3.wide (base' := w.heap.size) HE.out.2.size) (HE.out.2.trans (hB3.mono HE.out.2.size)))
              clear hB3 ho3
              go_wp2_with fail
              go_roundw
              case rel => exact ⟨k + 1, by omega, by go_num, by rw [HX.out]; exact HG.out.1, HG.out.2⟩
              case measure => simp [intOf]; omega
          · obtain rfl : k = ds.length := by omega
            have HO := Lib.hid (And.intro hownq hBq)
            clear hownq hBq hB hown
            go_wp2_with fail
            go_roundw
            case rel => exact ⟨r + 1, by omega, by go_num, by rw [HN.out]; exact HO.out.1, HO.out.2⟩
            case measure => simp [intOf]; omega
      · obtain rfl : r = ds.length := by omega
        go_wp2_with fail
        go_ret
        exact ⟨_, rfl, hB, hown.ints⟩
set_option maxHeartbeats 800000 in
theorem fnExactInhabited_walk (ds : List Dec) (v : Value) (w : World) (hv : Decs w 0 w.heap.size v ds) :
    Calls Try.prog 14 #[v] w fun e w' => e = .returned (.bool true) ∧ Below w.heap.size w w' := by
  obtain ⟨B, d, rfl, hl, hd⟩ := hv.open_
  go_enter Try.func14, Try.ntmps14
  go_wp2_with fail
  refine (szDeclS_any _ _ _ _ _ _ hv (Nat.le_refl _) (by omega) (by omega)).mono ?_
  rintro e w1 ⟨r, rfl, hB1, hr⟩
  rcases hr with rfl | ⟨r0, r1, hs⟩
  · go_wp2_with fail
    go_ret
    exact ⟨rfl, hB1⟩
  · have HS := Lib.hid hs
    have hX : (inhV ds).length ≤ 1048576 := by have := inhV_length ds; omega
    obtain ⟨X, eX⟩ : ∃ X, inhV ds = X := ⟨_, rfl⟩
    have SP := fun L U v w => sInhabitedTop L U ds v w
    have IM := fun L U v w => inhabitedOwn L U ds v w
    rw [eX] at hX SP IM
    clear hs eX
    go_wp2_with fail
    refine (toDeclS_any _ _ _ _ w1 (hv.keep (Same.of_below hB1 (Nat.le_refl _))) hB1.size HS.out).mono ?_
    rintro e w2 ⟨u2, rfl, hB2, ho2⟩
    have B2 := hB1.trans (hB2.mono hB1.size)
    have d2 := ho2.decs
    obtain ⟨g2, k2, rfl, _, _⟩ := d2.open_
    go_wp2_with fail
    refine (SP _ _ _ w2 d2 (Nat.le_refl _)).mono ?_
    rintro e w3 ⟨u3, rfl, hB3, i3⟩
    have B3 := B2.trans (hB3.mono B2.size)
    obtain ⟨g3, k3, rfl, _, _⟩ := i3.open_
    have z3 := hB3.size
    clear hB2 ho2 d2 SP hB3
    go_wp2_with fail
    refine (toDeclS_any _ _ _ _ w3 (hv.keep (Same.of_below B3 (Nat.le_refl _))) B3.size HS.out).mono ?_
    rintro e w4 ⟨u4, rfl, hB4, o4⟩
    have B4 := B3.trans (hB4.mono B3.size)
    have z4 := hB4.size
    have i4 := i3.keep (Same.of_below hB4 (Nat.le_refl _))
    obtain ⟨g4, k4, rfl, _, _⟩ := o4.decs.open_
    have D4 := Lib.hid (And.intro o4 i4)
    clear o4 i4 i3 hB4
    go_wp2_with fail
    refine (IM _ _ _ w4 D4.out.1.decs (Nat.le_refl _)).mono ?_
    rintro e w5 ⟨u5, rfl, hB5, o5⟩
    have B5 := B4.trans (hB5.mono B4.size)
    have z5 := hB5.size
    obtain ⟨g5, k5, rfl, _, _⟩ := o5.ints.open_
    have D5 := Lib.hid (And.intro (D4.out.1.keep (Same.of_below hB5 (Nat.le_refl _))) (And.intro (D4.out.2.keep (Same.of_below hB5 z4)) o5))
    clear D4 o5 hB5
    go_wp2_with fail
    refine (eqIntS_same _ _ _ _ X _ _ w5 D5.out.2.2.ints D5.out.2.1).mono ?_
    rintro e w6 ⟨rfl, hB6⟩
    have B6 := B5.trans (hB6.mono B5.size)
    have z6 := hB6.size
    have D6 := Lib.hid (And.intro (D5.out.1.keep (Same.of_below hB6 z5)) (And.intro (D5.out.2.1.keep (Same.of_below hB6 (by omega))) (D5.out.2.2.keep (Same.of_below hB6 (Nat.le_refl _)))))
    clear D5 hB6
    go_wp2_with fail
    refine (toDeclS_any _ _ _ _ w6 (hv.keep (Same.of_below B6 (Nat.le_refl _))) B6.size HS.out).mono ?_
    rintro e w7 ⟨u7, rfl, hB7, o7⟩
    have B7 := B6.trans (hB7.mono B6.size)
    have z7 := hB7.size
    obtain ⟨g7, k7, rfl, _, _⟩ := o7.decs.open_
    have D7 := Lib.hid (And.intro (D6.out.1.keep (Same.of_below hB7 (by omega))) (And.intro (D6.out.2.1.keep (Same.of_below hB7 (by omega))) (And.intro (D6.out.2.2.keep (Same.of_below hB7 (Nat.le_refl _))) o7.decs)))
    clear D6 hB7 o7
    go_wp2_with fail
    refine (eqDeclS_same _ _ _ _ _ _ _ w7 D7.out.1.decs D7.out.2.2.2 (by omega) (Nat.le_refl _)).mono ?_
    rintro e w8 ⟨rfl, hB8⟩
    have B8 := B7.trans (hB8.mono B7.size)
    have z8 := hB8.size
    have D8 := Lib.hid (And.intro (D7.out.1.keep (Same.of_below hB8 (by omega))) (And.intro (D7.out.2.1.keep (Same.of_below hB8 (by omega))) (D7.out.2.2.1.keep (Same.of_below hB8 (Nat.le_refl _)))))
    clear D7 hB8
    go_wp2_with fail
    refine (markDeclS_any _ _ _ _ w8 D8.out.1 HS.out).mono ?_
    rintro e w9 ⟨r9, rfl, p9, T9⟩
    have z9 := T9.size
    have B9 := B8.trans (T9.below B3.size)
    have D9 := Lib.hid (And.intro (D8.out.2.1.keep (T9.same (.inl (Nat.le_refl _)))) (D8.out.2.2.keep (T9.same (.inr (Nat.le_refl _)))))
    clear D8 T9
    go_wp2_with fail
    refine (eqIntS_same _ _ _ _ X _ _ w9 D9.out.2.ints D9.out.1).mono ?_
    rintro e w10 ⟨rfl, hB10⟩
    have B10 := B9.trans (hB10.mono B9.size)
    have z10 := hB10.size
    have D10 := Lib.hid (And.intro (D9.out.1.keep (Same.of_below hB10 (by omega))) (D9.out.2.keep (Same.of_below hB10 (Nat.le_refl _))))
    clear D9 hB10
    go_wp2_with fail
    refine (markIntS_any _ X _ 1 w10 D10.out.2 (by omega) (by omega) hX).mono ?_
    rintro e w11 ⟨rfl, o11, gb, z11⟩
    have lt11 : ∀ g, (Value.slice g5 X.length k5).ownBlock = some g → w4.heap.size ≤ g := fun g e => (D10.out.2.lt g e).1
    have B11 := B10.grown gb B10.size (fun g e => by have := lt11 g e; have := B4.size; omega)
    have D11 := Lib.hid (And.intro (D10.out.1.keep (Same.of_grown gb (by omega) (fun g e => by have := lt11 g e; omega))) o11)
    clear D10 o11 gb lt11
    go_wp2_with fail
    refine (heldIntS_any _ _ X _ 1 w11 D11.out.2.ints (by omega) (by omega) hX).mono ?_
    rintro e w12 ⟨rfl, rfl⟩
    go_wp2_with fail
    refine (toDeclS_any _ _ _ _ w11 (hv.keep (Same.of_below B11 (Nat.le_refl _))) B11.size HS.out).mono ?_
    rintro e w12 ⟨u12, rfl, hB12, o12⟩
    have B12 := B11.trans (hB12.mono B11.size)
    have z12 := hB12.size
    obtain ⟨g12, k12, rfl, _, _⟩ := o12.decs.open_
    have D12 := Lib.hid (And.intro (D11.out.1.keep (Same.of_below hB12 (by omega))) (And.intro (D11.out.2.keep (Same.of_below hB12 (Nat.le_refl _))) o12.decs))
    clear D11 hB12 o12
    go_wp2_with fail
    refine (IM _ _ _ w12 D12.out.2.2 (Nat.le_refl _)).mono ?_
    rintro e w13 ⟨u13, rfl, hB13, o13⟩
    have B13 := B12.trans (hB13.mono B12.size)
    have z13 := hB13.size
    obtain ⟨g13, k13, rfl, _, _⟩ := o13.ints.open_
    have D13 := Lib.hid (And.intro (D12.out.1.keep (Same.of_below hB13 (by omega))) (And.intro (D12.out.2.1.keep (Same.of_below hB13 (Nat.le_refl _))) o13.ints))
    clear D12 hB13 o13 IM
    go_wp2_with fail
    refine (eqIntS_same _ _ _ _ X _ _ w13 D13.out.2.2 D13.out.1).mono ?_
    rintro e w14 ⟨rfl, hB14⟩
    have B14 := B13.trans (hB14.mono B13.size)
    have D14 := Lib.hid (D13.out.2.1.keep (Same.of_below hB14 (Nat.le_refl _)))
    clear D13 hB14
    go_wp2_with fail
    refine (heldIntS_any _ _ X _ 1 w14 D14.out.ints (by omega) (by omega) hX).mono ?_
    rintro e w15 ⟨rfl, rfl⟩
    clear D14 B2 B3 B4 B5 B6 B7 B8 B9 B10 B11 B12 B13
    go_wp2_with fail
    go_ret
    exact ⟨rfl, B14⟩
end Go.Proofs.Ytmahamlfdegkkaa
