/- The walk of the exact law over ValidProgram. -/
import Derived.Test.YthbingbbimikhaaPv5
import Derived.Test.YthbingbbimikhaaGe
namespace Go.Proofs.Ythbingbbimikhaa
open Go.RowKit Go.BigFrame
set_option maxHeartbeats 1600000 in
theorem fnExactValidProgram_walk (p : Pg) (v : Value) (w : World) (hv : Pgm w 0 w.heap.size v p) (hr : progR p) :
    Calls Try.prog 4 #[v] w fun e w' => e = .returned (.bool true) ∧ Below w.heap.size w w' := by
  have hv0 := hv
  obtain ⟨dd, ff, rfl, hd, hf⟩ := hv0
  obtain ⟨A1, c1, rfl, _, _⟩ := hd.open_
  obtain ⟨A2, c2, rfl, _, _⟩ := hf.open_
  obtain ⟨W0, hW0⟩ : ∃ W0, W0 = w.alloc (.cells #[.slice A1 p.decls.length c1, .slice A2 p.funcs.length c2] 25) := ⟨_, rfl⟩
  have hB0 : Below w.heap.size w W0 := by rw [hW0]; exact (Below.refl _ w).alloc (Nat.le_refl _) _
  have hz0 : W0.heap.size = w.heap.size + 1 := by rw [hW0]; simp
  have hbox : W0.heap[w.heap.size]? = some (.cells #[.slice A1 p.decls.length c1, .slice A2 p.funcs.length c2] 25 (0, 0)) := by rw [hW0]; exact alloc_last _ _ _ rfl
  have HX := Lib.hid fun W (hB : Below W0.heap.size W0 W) => cells2 ((hB.block w.heap.size (by omega)).trans hbox)
  have HV := Lib.hid fun W (hB : Below W0.heap.size W0 W) => hv.keep (Same.of_below (hB0.trans (hB.mono (show w.heap.size ≤ W0.heap.size by omega))) (Nat.le_refl _))
  have HE := Lib.hid fun W (hB : Below W0.heap.size W0 W) => hB0.trans (hB.mono (show w.heap.size ≤ W0.heap.size by omega))
  clear hbox hv hd hf
  go_enter Try.func4, Try.ntmps4
  go_wp2_with fail
  rw [← hW0]
  clear hW0
  refine (szProgram_any _ _ _ _ _ W0 (HV.out W0 (Below.refl _ _)) hB0.size (by omega) (by omega)).mono ?_
  rintro e w1 ⟨r, rfl, C1, hr⟩
  rcases hr with rfl | ⟨r0, r1, hs⟩
  · go_wp2_with fail
    go_ret
    exact ⟨rfl, HE.out w1 C1⟩
  · have HS := Lib.hid hs
    have z1 := C1.size
    clear hs
    obtain ⟨X, eX⟩ : ∃ X, progOk p = X := ⟨_, rfl⟩
    have SP := fun a b (v : Value) (W : World) (h : Pgm W a b v p) (hb : b ≤ W.heap.size) => sValidProgramTop (p := p) (pv := v) (w := W) (h.wide (Nat.zero_le _) hb)
    have IM := fun a b (v : Value) (W : World) (h : Pgm W a b v p) (hb : b ≤ W.heap.size) => validProgram_any (p := p) (pv := v) (w := W) (h.wide (Nat.zero_le _) hb) hr
    rw [eX] at SP IM
    clear eX
    obtain ⟨X10, X11⟩ := HX.out w1 C1
    go_wp2_with fail
    refine (toProgram_any w1 (HV.out w1 C1) (Same.refl _ _ _) (by omega) HS.out).mono ?_
    rintro e w2 ⟨u2, rfl, hB2, o2⟩
    have C2 := C1.trans (hB2.mono z1)
    have p2 := o2.pgm
    obtain ⟨g2, g2', rfl⟩ := o2.form
    clear X10 X11 o2
    go_wp2_with fail
    refine (SP _ _ _ w2 p2 (Nat.le_refl _)).mono ?_
    rintro e w3 ⟨rfl, hB3⟩
    have C3 := C2.trans (hB3.mono C2.size)
    have z3 := C3.size
    obtain ⟨X30, X31⟩ := HX.out w3 C3
    clear hB2 hB3 p2 C1 C2 SP
    go_wp2_with fail
    refine (toProgram_any w3 (HV.out w3 C3) (Same.refl _ _ _) (by omega) HS.out).mono ?_
    rintro e w4 ⟨u4, rfl, hB4, o4⟩
    have C4 := C3.trans (hB4.mono C3.size)
    have z4 := hB4.size
    have p4 := o4.pgm
    obtain ⟨g4, g4', rfl⟩ := o4.form
    obtain ⟨W5, hW5⟩ : ∃ W5, W5 = w4.alloc (.cells #[.slice (some ⟨g4, 0, none⟩) p.decls.length p.decls.length, .slice (some ⟨g4', 0, none⟩) p.funcs.length p.funcs.length] 36) := ⟨_, rfl⟩
    have hB5 : Below w4.heap.size w4 W5 := by rw [hW5]; exact (Below.refl _ w4).alloc (Nat.le_refl _) _
    have hz5 : W5.heap.size = w4.heap.size + 1 := by rw [hW5]; simp
    have hY : W5.heap[w4.heap.size]? = some (.cells #[.slice (some ⟨g4, 0, none⟩) p.decls.length p.decls.length, .slice (some ⟨g4', 0, none⟩) p.funcs.length p.funcs.length] 36 (0, 0)) := by rw [hW5]; exact alloc_last _ _ _ rfl
    have HY := Lib.hid fun W (hB : Below W5.heap.size W5 W) => cells2 ((hB.block w4.heap.size (by omega)).trans hY)
    have C5 := C4.trans (hB5.mono C4.size)
    have p5 := p4.keep (Same.of_below hB5 (Nat.le_refl _))
    clear hB4 o4 p4 hY X30 X31 C3 C4
    go_wp2_with fail
    rw [← hW5]
    clear hW5
    refine (IM _ _ _ W5 p5 hB5.size).mono ?_
    rintro e w6 ⟨rfl, hB6⟩
    have C6 := C5.trans (hB6.mono C5.size)
    have z6 := hB6.size
    have z60 := C6.size
    obtain ⟨X60, X61⟩ := HX.out w6 C6
    obtain ⟨Y60, Y61⟩ := HY.out w6 hB6
    have p6 := p5.keep (Same.of_below hB6 (by omega))
    have TC := Lib.hid (toProgram_any w6.drew ((HV.out w6 C6).keep (same_drew _ _ w6)) (Same.refl _ _ _) (by show w.heap.size ≤ w6.heap.size; omega) HS.out)
    have XX := Lib.hid p6
    have i1 : w.heap.size < w6.heap.size := by omega
    have i2 : w4.heap.size < w6.heap.size := by omega
    have CC := Lib.hid C6
    clear hB5 hB6 p5 C5 C6 p6 IM
    go_wp2_with fail
    go_region_held3 (fun w' => w'.cell? ⟨w.heap.size, 0, none⟩ = some (.slice A1 p.decls.length c1) ∧ w'.cell? ⟨w.heap.size, 1, none⟩ = some (.slice A2 p.funcs.length c2) ∧ w'.cell? ⟨w4.heap.size, 0, none⟩ = some (.slice (some ⟨g4, 0, none⟩) p.decls.length p.decls.length) ∧ w'.cell? ⟨w4.heap.size, 1, none⟩ = some (.slice (some ⟨g4', 0, none⟩) p.funcs.length p.funcs.length))
      (first | go_keep | (exact ⟨(hB9.cell (by simp; assumption)).trans (by simp; assumption), (hB9.cell (by simp; assumption)).trans (by simp; assumption), (hB9.cell (by simp; assumption)).trans (by simp; assumption), (hB9.cell (by simp; assumption)).trans (by simp; assumption)⟩) | (exact ⟨(hB7.cell (by simp; assumption)).trans (by simp; assumption), (hB7.cell (by simp; assumption)).trans (by simp; assumption), (hB7.cell (by simp; assumption)).trans (by simp; assumption), (hB7.cell (by simp; assumption)).trans (by simp; assumption)⟩))
      (first | (go_at_call 11; refine TC.out.mono ?_; rintro e w7 ⟨u7, rfl, hB7, o7⟩; have x7 := o7.pgm; obtain ⟨g7, g7', rfl⟩ := o7.form) | (go_at_call 15; refine (eqProgram_same ((XX.out.keep (same_drew _ _ w6)).keep (Same.of_below hB7 (by simp; omega))) x7 (by have := hB7.size; simp at this; omega) (Nat.le_refl _)).mono ?_; rintro e w8 ⟨rfl, hB8⟩; have hB9 := hB7.trans (hB8.mono hB7.size)))
    have B9 := HE.out _ (CC.out.trans (((Below.refl _ w6).drew.trans (hB9.mono (by simp))).mono CC.out.size))
    clear hB7 hB8 hB9 x7 o7
    go_wp2_with fail
    go_ret
    exact ⟨rfl, B9⟩
end Go.Proofs.Ythbingbbimikhaa
