/- The walk of the exact law over ReachedFrom. -/
import Derived.Test.YtihmkaodjpgikaaGreatRf3
import Derived.Test.YtihmkaodjpgikaaGreatPgm
import Derived.Test.YtihmkaodjpgikaaGreatX8
namespace Go.Proofs.YtihmkaodjpgikaaGreat
open Go.RowKit Go.BigFrame
set_option maxHeartbeats 1600000 in
theorem fnExactReachedFrom_walk (p : Pg) (v : Value) (c10 : Int) (w : World) (hv : Pgm w 0 w.heap.size v p) (hr : progR p) :
    Calls Tryz.prog 3 #[v, .int .i64 c10] w fun e w' => e = .returned (.bool true) ∧ Below w.heap.size w w' := by
  have hv0 := hv
  obtain ⟨dd, ff, rfl, hd, hf⟩ := hv0
  obtain ⟨A1, c1, rfl, _, _⟩ := hd.open_
  obtain ⟨A2, c2, rfl, _, _⟩ := hf.open_
  obtain ⟨W0, hW0⟩ : ∃ W0, W0 = w.alloc (.cells #[.slice A1 p.decls.length c1, .slice A2 p.funcs.length c2] 25) := ⟨_, rfl⟩
  have hB0 : Below w.heap.size w W0 := by rw [hW0]; exact (Below.refl _ w).alloc (Nat.le_refl _) _
  have hz0 : W0.heap.size = w.heap.size + 1 := by rw [hW0]; simp
  have hbox : W0.heap[w.heap.size]? = some (.cells #[.slice A1 p.decls.length c1, .slice A2 p.funcs.length c2] 25 (0, 0)) := by rw [hW0]; exact alloc_last _ _ _ rfl
  have HX := Lib.hid fun W (hB : Below W0.heap.size W0 W) => cells2 ((hB.block w.heap.size (by omega)).trans hbox)
  have HV := Lib.hid fun W (hB : Below W0.heap.size W0 W) => hv.keep (Same.of_below (hB0.trans (hB.mono (by omega))) (Nat.le_refl _))
  have HE := Lib.hid fun W (hB : Below W0.heap.size W0 W) => hB0.trans (hB.mono (show w.heap.size ≤ W0.heap.size by omega))
  clear hbox hv hd hf
  go_enter Tryz.func3, Tryz.ntmps3
  go_wp2_with fail
  rw [← hW0]
  clear hW0
  refine (szProgram_any _ _ _ _ _ W0 (HV.out W0 (Below.refl _ _)) hB0.size (by omega) (by omega)).mono ?_
  rintro e w1 ⟨r, rfl, C1, hr⟩
  rcases hr with rfl | ⟨r0, r1, hs⟩
  · go_wp2_with fail
    go_ret
    exact ⟨rfl, HE.out w1 C1⟩
  · have HS := Lib.hid hs
    have hX : (rcV p c10).length ≤ 1048576 := rcV_len p c10
    obtain ⟨X, eX⟩ : ∃ X, rcV p c10 = X := ⟨_, rfl⟩
    have SP := fun a b (v : Value) (W : World) (h : Pgm W a b v p) (hb : b ≤ W.heap.size) => sReachedTop_any (p := p) (pv := v) (w := W) c10 ((h.wide (Nat.zero_le _) hb))
    have IM := fun a b (v : Value) (W : World) (h : Pgm W a b v p) (hb : b ≤ W.heap.size) => reachedTop_any (p := p) (pv := v) (w := W) c10 ((h.wide (Nat.zero_le _) hb)) hr
    rw [eX] at hX SP IM
    clear hs eX
    have X1 := HX.out w1 C1
    have z1 := C1.size
    go_wp2_with fail
    refine (toProgram_any w1 (HV.out w1 C1) (Same.refl _ _ _) (by omega) HS.out).mono ?_
    rintro e w2 ⟨u2, rfl, hB2, o2⟩
    have C2 := C1.trans (hB2.mono z1)
    obtain ⟨g2, g2', rfl⟩ := o2.form
    clear X1
    go_wp2_with fail
    refine (SP _ _ _ w2 o2.pgm (Nat.le_refl _)).mono ?_
    rintro e w3 ⟨u3, rfl, hB3, i3⟩
    have C3 := C2.trans (hB3.mono C2.size)
    obtain ⟨g3, k3, rfl, _, _⟩ := i3.open_
    have z3 := hB3.size
    have z30 := C3.size
    have z20 := C2.size
    have X3 := HX.out w3 C3
    clear hB2 o2 SP hB3 C1 C2
    go_wp2_with fail
    refine (toProgram_any w3 (HV.out w3 C3) (Same.refl _ _ _) (by omega) HS.out).mono ?_
    rintro e w4 ⟨u4, rfl, hB4, o4⟩
    have C4 := C3.trans (hB4.mono C3.size)
    have z4 := hB4.size
    have i4 := i3.keep (Same.of_below hB4 (Nat.le_refl _))
    obtain ⟨g4, g4', rfl⟩ := o4.form
    obtain ⟨W5, hW5⟩ : ∃ W5, W5 = w4.alloc (.cells #[.slice (some ⟨g4, 0, none⟩) p.decls.length p.decls.length, .slice (some ⟨g4', 0, none⟩) p.funcs.length p.funcs.length] 32) := ⟨_, rfl⟩
    have hB5 : Below w4.heap.size w4 W5 := by rw [hW5]; exact (Below.refl _ w4).alloc (Nat.le_refl _) _
    have hz5 : W5.heap.size = w4.heap.size + 1 := by rw [hW5]; simp
    have hY : W5.heap[w4.heap.size]? = some (.cells #[.slice (some ⟨g4, 0, none⟩) p.decls.length p.decls.length, .slice (some ⟨g4', 0, none⟩) p.funcs.length p.funcs.length] 32 (0, 0)) := by rw [hW5]; exact alloc_last _ _ _ rfl
    have HY := Lib.hid fun W (hB : Below W5.heap.size W5 W) => cells2 ((hB.block w4.heap.size (by omega)).trans hY)
    have D5 := Lib.hid (And.intro (o4.keep (Same.of_below hB5 (Nat.le_refl _))) (i4.keep (Same.of_below hB5 z4)))
    have C5 := C4.trans (hB5.mono C4.size)
    clear hB4 o4 i3 i4 C3 hY X3
    go_wp2_with fail
    rw [← hW5]
    clear hW5
    refine (IM _ _ _ W5 D5.out.1.pgm (by omega)).mono ?_
    rintro e w6 ⟨u6, rfl, hB6, o6⟩
    have C6 := C5.trans (hB6.mono C5.size)
    have z6 := hB6.size
    obtain ⟨g6, k6, rfl, _, _⟩ := o6.ints.open_
    have D6 := Lib.hid (And.intro (D5.out.1.keep (Same.of_below hB6 (by omega))) (And.intro (D5.out.2.keep (Same.of_below hB6 (by omega))) (And.intro o6 hB6)))
    clear D5 o6 hB6 C4 hB5
    go_wp2_with fail
    refine (eqIntS_same _ _ _ _ X _ _ w6 D6.out.2.2.1.ints D6.out.2.1).mono ?_
    rintro e w7 ⟨rfl, hB7'⟩
    have C7 := C6.trans (hB7'.mono C6.size)
    have z7 := hB7'.size
    have z70 := C7.size
    have D7 := Lib.hid (And.intro (D6.out.1.keep (Same.of_below hB7' (by omega))) (And.intro (D6.out.2.1.keep (Same.of_below hB7' (by omega))) (And.intro (D6.out.2.2.1.keep (Same.of_below hB7' (Nat.le_refl _))) (D6.out.2.2.2.trans (hB7'.mono z6)))))
    obtain ⟨X60, X61⟩ := HX.out w7 C7
    obtain ⟨Y60, Y61⟩ := HY.out w7 D7.out.2.2.2
    have TC := Lib.hid (toProgram_any w7.drew ((HV.out w7 C7).keep (same_drew _ _ w7)) (Same.refl _ _ _) (by show w.heap.size ≤ w7.heap.size; omega) HS.out)
    have XX := Lib.hid D7.out.1.pgm
    have i1 : w.heap.size < w7.heap.size := by omega
    have i2 : w4.heap.size < w7.heap.size := by omega
    clear D6 hB7' C5 C6
    go_wp2_with fail
    go_region_held3 (fun w' => w'.cell? ⟨w.heap.size, 0, none⟩ = some (.slice A1 p.decls.length c1) ∧ w'.cell? ⟨w.heap.size, 1, none⟩ = some (.slice A2 p.funcs.length c2) ∧ w'.cell? ⟨w4.heap.size, 0, none⟩ = some (.slice (some ⟨g4, 0, none⟩) p.decls.length p.decls.length) ∧ w'.cell? ⟨w4.heap.size, 1, none⟩ = some (.slice (some ⟨g4', 0, none⟩) p.funcs.length p.funcs.length))
      (first | go_keep | (exact ⟨(hB9.cell (by simp; assumption)).trans (by simp; assumption), (hB9.cell (by simp; assumption)).trans (by simp; assumption), (hB9.cell (by simp; assumption)).trans (by simp; assumption), (hB9.cell (by simp; assumption)).trans (by simp; assumption)⟩) | (exact ⟨(hB7.cell (by simp; assumption)).trans (by simp; assumption), (hB7.cell (by simp; assumption)).trans (by simp; assumption), (hB7.cell (by simp; assumption)).trans (by simp; assumption), (hB7.cell (by simp; assumption)).trans (by simp; assumption)⟩))
      (first | (go_at_call 6; refine TC.out.mono ?_; rintro e w8 ⟨u8, rfl, hB7, o8⟩; obtain ⟨g8, g8', rfl⟩ := o8.form; have x8 := o8.pgm) | (go_at_call 9; refine (eqProgram_same ((XX.out.keep (same_drew _ _ w7)).keep (Same.of_below hB7 (by simp; omega))) x8 (by have := hB7.size; simp at this; omega) (Nat.le_refl _)).mono ?_; rintro e w9 ⟨rfl, hB8⟩; have hB9 := hB7.trans (hB8.mono hB7.size)))
    have hB9' : Below w7.heap.size w7 w9 := (Below.refl _ w7).drew.trans (hB9.mono (by simp))
    have z9 := hB9'.size
    have C9 := C7.trans (hB9'.mono z70)
    have D9 := Lib.hid (And.intro (D7.out.1.keep (Same.of_below hB9' (by omega))) (And.intro (D7.out.2.1.keep (Same.of_below hB9' (by omega))) (And.intro (D7.out.2.2.1.keep (Same.of_below hB9' (Nat.le_refl _))) (D7.out.2.2.2.trans (hB9'.mono (by omega))))))
    obtain ⟨Y90, Y91⟩ := HY.out w9 D9.out.2.2.2
    clear hB7 hB8 hB9 hB9' x8 o8 X60 X61 Y60 Y61 TC XX C7 D7
    go_wp2_with fail
    refine (markProgram_any D9.out.1 (by omega) HS.out).mono ?_
    rintro e w10 ⟨r10, rfl, p10, T10⟩
    have hBa : Below w9.heap.size w9 (w9.alloc (.cells #[.slice (some ⟨g4, 0, none⟩) p.decls.length p.decls.length, .slice (some ⟨g4', 0, none⟩) p.funcs.length p.funcs.length] 32)) := (Below.refl _ w9).alloc (Nat.le_refl _) _
    have z10 : w10.heap.size = w9.heap.size + 1 := by rw [T10.size]; simp
    have C10 := (C9.trans (hBa.mono (by omega))).trans (T10.below z30)
    have D10 := Lib.hid (And.intro ((D9.out.2.1.keep (Same.of_below hBa (by omega))).keep (T10.same (.inl (Nat.le_refl _)))) ((D9.out.2.2.1.keep (Same.of_below hBa (Nat.le_refl _))).keep (T10.same (.inr (by omega)))))
    clear D9 T10 hBa Y90 Y91 C9
    go_wp2_with fail
    refine (eqIntS_same _ _ _ _ X _ _ w10 D10.out.2.ints D10.out.1).mono ?_
    rintro e w11 ⟨rfl, hB11⟩
    have C11 := C10.trans (hB11.mono C10.size)
    have z11 := hB11.size
    have D11 := Lib.hid (And.intro (D10.out.1.keep (Same.of_below hB11 (by omega))) (D10.out.2.keep (Same.of_below hB11 (Nat.le_refl _))))
    clear D10 hB11 C10
    go_wp2_with fail
    refine (markIntS_any _ X _ 1 w11 D11.out.2 (by omega) (by omega) hX).mono ?_
    rintro e w12 ⟨rfl, o12, gb, z12⟩
    have lt12 : ∀ g, (Value.slice g6 X.length k6).ownBlock = some g → W5.heap.size ≤ g := fun g e => (D11.out.2.lt g e).1
    have C12 := C11.grown gb C11.size (fun g e => by have := lt12 g e; omega)
    have D12 := Lib.hid (And.intro (D11.out.1.keep (Same.of_grown gb (by omega) (fun g e => by have := lt12 g e; omega))) o12)
    clear D11 o12 gb lt12 C11
    go_wp2_with fail
    refine (heldIntS_any _ _ X _ 1 w12 D12.out.2.ints (by omega) (by omega) hX).mono ?_
    rintro e w13 ⟨rfl, rfl⟩
    obtain ⟨X70, X71⟩ := HX.out w12 C12
    have z120 := C12.size
    go_wp2_with fail
    refine (toProgram_any w12 (HV.out w12 C12) (Same.refl _ _ _) (by omega) HS.out).mono ?_
    rintro e w13 ⟨u13, rfl, hB13, o13⟩
    have C13 := C12.trans (hB13.mono z120)
    have z13 := hB13.size
    obtain ⟨g13, g13', rfl⟩ := o13.form
    have D13 := Lib.hid (And.intro (D12.out.1.keep (Same.of_below hB13 (by omega))) (And.intro (D12.out.2.keep (Same.of_below hB13 (Nat.le_refl _))) o13.pgm))
    clear D12 hB13 o13 X70 X71 C12
    go_wp2_with fail
    refine (IM _ _ _ w13 D13.out.2.2 (Nat.le_refl _)).mono ?_
    rintro e w14 ⟨u14, rfl, hB14, o14⟩
    have C14 := C13.trans (hB14.mono C13.size)
    have z14 := hB14.size
    obtain ⟨g14, k14, rfl, _, _⟩ := o14.ints.open_
    have D14 := Lib.hid (And.intro (D13.out.1.keep (Same.of_below hB14 (by omega))) (And.intro (D13.out.2.1.keep (Same.of_below hB14 (Nat.le_refl _))) o14.ints))
    clear D13 hB14 o14 IM C13
    go_wp2_with fail
    refine (eqIntS_same _ _ _ _ X _ _ w14 D14.out.2.2 D14.out.1).mono ?_
    rintro e w15 ⟨rfl, hB15⟩
    have C15 := C14.trans (hB15.mono C14.size)
    have D15 := Lib.hid (D14.out.2.1.keep (Same.of_below hB15 (Nat.le_refl _)))
    clear D14 hB15 C14
    go_wp2_with fail
    refine (heldIntS_any _ _ X _ 1 w15 D15.out.ints (by omega) (by omega) hX).mono ?_
    rintro e w16 ⟨rfl, rfl⟩
    clear D15
    go_wp2_with fail
    go_ret
    exact ⟨rfl, HE.out _ C15⟩
end Go.Proofs.YtihmkaodjpgikaaGreat
