/- The walk of the exact law over TypeOf. -/
import Derived.Test.YthbingbbimikhaaPv2
import Derived.Test.YthbingbbimikhaaPv3
import Derived.Test.YthbingbbimikhaaGe
import Derived.Test.YthbingbbimikhaaGb
import Derived.Test.YthbingbbimikhaaGa
namespace Go.Proofs.Ythbingbbimikhaa
open Go.RowKit Go.BigFrame
set_option maxHeartbeats 3200000 in
theorem fnExactTypeOf_walk (p : Pg) (v v1 : Value) (vars : List Int) (o n : Int) (ks : List Ex) (u : Value) (w : World) (hv : Pgm w 0 w.heap.size v p) (hi : Ints w 0 w.heap.size v1 vars) (hx : Exs w 0 w.heap.size u ks) (hn : n ≤ 9223372036854775807) (hr : rngL ks) :
    Calls Try.prog 3 #[v, v1, .agg #[.int .i64 o, .int .i64 n, u]] w fun e w' => e = .returned (.bool true) ∧ Below w.heap.size w w' := by
  have hv0 := hv
  obtain ⟨dd, ff, rfl, hd, hf⟩ := hv0
  obtain ⟨A1, c1, rfl, l1, m1⟩ := hd.open_
  obtain ⟨A2, c2, rfl, l2, m2⟩ := hf.open_
  obtain ⟨A3, c3, rfl, l3, m3⟩ := hi.open_
  obtain ⟨A, c, rfl, l4, m4⟩ := hx.open_
  obtain ⟨W0, hW0⟩ : ∃ W0, W0 = (w.alloc (.cells #[.slice A1 p.decls.length c1, .slice A2 p.funcs.length c2] 25)).alloc (.cells #[.int .i64 o, .int .i64 n, .slice A ks.length c] 29) := ⟨_, rfl⟩
  have hB0 : Below w.heap.size w W0 := by rw [hW0]; exact ((Below.refl _ w).alloc (Nat.le_refl _) _).alloc (by simp) _
  have hz0 : W0.heap.size = w.heap.size + 2 := by rw [hW0]; simp
  have x0 : W0.heap[w.heap.size]? = some (.cells #[.slice A1 p.decls.length c1, .slice A2 p.funcs.length c2] 25 (0, 0)) := by rw [hW0]; refine Eq.trans (Below.heap_alloc _ _ _ (by simp only [World.size_alloc]; omega)) ?_; exact alloc_last _ _ _ (by simp)
  have x1 : W0.heap[w.heap.size + 1]? = some (.cells #[.int .i64 o, .int .i64 n, .slice A ks.length c] 29 (0, 0)) := by rw [hW0]; exact alloc_last _ _ _ (by simp)
  have HX := Lib.hid fun W (hB : Below W0.heap.size W0 W) => And.intro (cells2 ((hB.block w.heap.size (by omega)).trans x0)) (three ((hB.block (w.heap.size + 1) (by omega)).trans x1))
  have HE := Lib.hid fun W (hB : Below W0.heap.size W0 W) => hB0.trans (hB.mono (show w.heap.size ≤ W0.heap.size by omega))
  have HV := Lib.hid fun W (hB : Below W0.heap.size W0 W) => hv.keep (Same.of_below (HE.out W hB) (Nat.le_refl _))
  have HI := Lib.hid fun W (hB : Below W0.heap.size W0 W) => hi.keep (Same.of_below (HE.out W hB) (Nat.le_refl _))
  have HK := Lib.hid fun W (hB : Below W0.heap.size W0 W) => hx.keep (Same.of_below (HE.out W hB) (Nat.le_refl _))
  have z0 : w.heap.size ≤ W0.heap.size := by omega
  have g0 : w.heap.size < W0.heap.size := by omega
  have g1 : w.heap.size + 1 < W0.heap.size := by omega
  clear x0 x1 hv hi hx hd hf hz0
  obtain ⟨⟨a0, a1⟩, ⟨a2, a3, a4⟩⟩ := HX.out W0 (Below.refl _ _)
  by_cases hlv : (vars.length : Int) > 1048576
  · go_enter Try.func3, Try.ntmps3
    go_wp2_with fail
    go_ret
    exact ⟨rfl, by rw [← hW0]; exact HE.out _ (Below.refl _ _)⟩
  have hlv' : vars.length ≤ 1048576 := by omega
  go_enter Try.func3, Try.ntmps3
  go_wp2_with fail
  rw [← hW0]
  clear hW0
  refine (szProgram_any _ _ _ _ _ W0 (HV.out W0 (Below.refl _ _)) z0 (by omega) (by omega)).mono ?_
  rintro e w1 ⟨r, rfl, C1, hr1⟩
  rcases hr1 with rfl | ⟨r0, r1, hs⟩
  · go_wp2_with fail
    go_ret
    exact ⟨rfl, HE.out w1 C1⟩
  have HS := Lib.hid hs
  obtain ⟨m, rfl⟩ : ∃ m : Nat, r = (m : Int) := ⟨r.toNat, by omega⟩
  have z1 := C1.size
  have zz1 : w.heap.size ≤ w1.heap.size := by omega
  obtain ⟨⟨b0, b1⟩, ⟨b2, b3, b4⟩⟩ := HX.out w1 C1
  have CX := szExpr_any (HK.out w1 C1) o n m zz1 (by omega)
  obtain ⟨y, hy⟩ : ∃ y, leftV m (sumL one_ ks) = y := ⟨_, rfl⟩
  rw [hy] at CX
  have CX := Lib.hid CX
  have HC1 := Lib.hid C1
  have hlm : m ≤ 1048576 := by omega
  clear hs C1 a0 a1 a2 a3 a4 r0 r1
  by_cases hsm : sumL one_ ks ≤ m
  · have hy0 : ¬ y < 0 := by rw [← hy]; unfold leftV; rw [if_pos hsm]; omega
    have HSX := Lib.hid (show sumL one_ ks ≤ 1048576 by omega)
    clear hy hsm
    go_wp2_with fail
    refine CX.out.mono ?_
    rintro e w2 ⟨rfl, hB2⟩
    have HC2 := Lib.hid (HC1.out.trans (hB2.mono z1))
    have z2 : W0.heap.size ≤ w2.heap.size := HC2.out.size
    obtain ⟨⟨a0, a1⟩, ⟨a2, a3, a4⟩⟩ := HX.out w2 HC2.out
    clear hB2 b0 b1 b2 b3 b4 CX
    have hd0 : w.heap.size < w2.heap.size := by omega
    have hd1 : w.heap.size + 1 < w2.heap.size := by omega
    have C2d := HC2.out.drew
    have TP := Lib.hid (toProgram_any w2.drew (HV.out _ C2d) (Same.refl _ _ _) (by show w.heap.size ≤ w2.heap.size; omega) HS.out)
    have TI := Lib.hid fun (W : World) (hB : Below w2.heap.size w2 W) => toIntS_any _ _ _ _ W (HI.out W (HC2.out.trans (hB.mono z2))) (by have := hB.size; omega) hlv'
    have TX := Lib.hid fun (W : World) (hB : Below w2.heap.size w2 W) => toExpr_any (HK.out W (HC2.out.trans (hB.mono z2))) o n (by have := hB.size; omega) HSX.out
    obtain ⟨X, hX⟩ : ∃ X, typeV p vars (.node o n ks) = X := ⟨_, rfl⟩
    have SP := Lib.hid fun (W : World) (pv vv u : Value) (h1 : Pgm W 0 W.heap.size pv p) (h2 : Ints W 0 W.heap.size vv vars) (h3 : Exs W 0 W.heap.size u ks) => sTypeTop_any o n ⟨h1, h2⟩ h3 (by omega)
    have IM := Lib.hid fun (W : World) (pv vv u : Value) (h1 : Pgm W 0 W.heap.size pv p) (h2 : Ints W 0 W.heap.size vv vars) (h3 : Exs W 0 W.heap.size u ks) => typeTop_any o n ⟨h1, h2⟩ h3 hn hr
    rw [hX] at SP IM
    clear hX C2d
    go_wp2_with fail
    go_region_held3 (fun w' => w'.cell? ⟨w.heap.size, 0, none⟩ = some (.slice A1 p.decls.length c1) ∧ w'.cell? ⟨w.heap.size, 1, none⟩ = some (.slice A2 p.funcs.length c2) ∧ w'.cell? ⟨w.heap.size + 1, 0, none⟩ = some (.int .i64 o) ∧ w'.cell? ⟨w.heap.size + 1, 1, none⟩ = some (.int .i64 n) ∧ w'.cell? ⟨w.heap.size + 1, 2, none⟩ = some (.slice A ks.length c))
      (first | go_keep | (exact ⟨(hBd.cell (by first | assumption | (simp; assumption))).trans (by first | assumption | (simp; assumption)), (hBd.cell (by first | assumption | (simp; assumption))).trans (by first | assumption | (simp; assumption)), (hBd.cell (by first | assumption | (simp; assumption))).trans (by first | assumption | (simp; assumption)), (hBd.cell (by first | assumption | (simp; assumption))).trans (by first | assumption | (simp; assumption)), (hBd.cell (by first | assumption | (simp; assumption))).trans (by first | assumption | (simp; assumption))⟩) | (exact ⟨(hBc.cell (by first | assumption | (simp; assumption))).trans (by first | assumption | (simp; assumption)), (hBc.cell (by first | assumption | (simp; assumption))).trans (by first | assumption | (simp; assumption)), (hBc.cell (by first | assumption | (simp; assumption))).trans (by first | assumption | (simp; assumption)), (hBc.cell (by first | assumption | (simp; assumption))).trans (by first | assumption | (simp; assumption)), (hBc.cell (by first | assumption | (simp; assumption))).trans (by first | assumption | (simp; assumption))⟩) | (exact ⟨(hBb.cell (by first | assumption | (simp; assumption))).trans (by first | assumption | (simp; assumption)), (hBb.cell (by first | assumption | (simp; assumption))).trans (by first | assumption | (simp; assumption)), (hBb.cell (by first | assumption | (simp; assumption))).trans (by first | assumption | (simp; assumption)), (hBb.cell (by first | assumption | (simp; assumption))).trans (by first | assumption | (simp; assumption)), (hBb.cell (by first | assumption | (simp; assumption))).trans (by first | assumption | (simp; assumption))⟩) | (exact ⟨(hBa.cell (by first | assumption | (simp; assumption))).trans (by first | assumption | (simp; assumption)), (hBa.cell (by first | assumption | (simp; assumption))).trans (by first | assumption | (simp; assumption)), (hBa.cell (by first | assumption | (simp; assumption))).trans (by first | assumption | (simp; assumption)), (hBa.cell (by first | assumption | (simp; assumption))).trans (by first | assumption | (simp; assumption)), (hBa.cell (by first | assumption | (simp; assumption))).trans (by first | assumption | (simp; assumption))⟩))
      (first | (go_at_call 10; refine (SP.out _ _ _ _ ((hpa.keep (Same.of_below (hBb'.trans (hBc'.mono hBb'.size)) (Nat.le_refl _))).wide (Nat.zero_le _) (hBb'.trans (hBc'.mono hBb'.size)).size) ((hib.keep (Same.of_below hBc' (Nat.le_refl _))).wide (Nat.zero_le _) hBc'.size) (hxc.wide (Nat.zero_le _) (Nat.le_refl _))).mono ?_; rintro e w3 ⟨rfl, hBd'⟩; have hBd := hBc.trans (hBd'.mono hBc.size)) | (go_at_call 13; refine (TX.out _ ((Below.refl w2.heap.size w2).drew.trans (hBb.mono (Nat.le_refl _)))).mono ?_; rintro e wC ⟨uC, rfl, hBc', oC⟩; obtain ⟨gC, rfl⟩ := oC.form; have hxc := oC.exs; have hBc := hBb.trans (hBc'.mono hBb.size); clear oC) | (go_at_call 12; refine (TI.out _ ((Below.refl w2.heap.size w2).drew.trans (hBa.mono (Nat.le_refl _)))).mono ?_; rintro e wB ⟨uB, rfl, hBb', oB⟩; have hib := oB.ints; obtain ⟨gB, kB, rfl, _, _⟩ := hib.open_; have hBb := hBa.trans (hBb'.mono hBa.size); clear oB) | (go_at_call 11; refine TP.out.mono ?_; rintro e wA ⟨uA, rfl, hBa, oA⟩; obtain ⟨gA, gA', rfl⟩ := oA.form; have hpa := oA.pgm; clear oA))
    have HC4 := Lib.hid (HC2.out.trans (((Below.refl w2.heap.size w2).drew.trans (hBd.mono (Nat.le_refl _))).mono z2))
    clear hBa hBb hBc hBd hBb' hBc' hBd' hpa hib hxc TP a0 a1 a2 a3 a4 hd0 hd1
    have z3 : W0.heap.size ≤ w3.heap.size := HC4.out.size
    obtain ⟨⟨a0, a1⟩, ⟨a2, a3, a4⟩⟩ := HX.out w3 HC4.out
    go_wp2_with fail
    refine (toProgram_any w3 (HV.out w3 HC4.out) (Same.refl _ _ _) (by omega) HS.out).mono ?_
    rintro e w4 ⟨u4, rfl, hB4, o4⟩
    have zz4 := hB4.size
    obtain ⟨g4, g4', rfl⟩ := o4.form
    obtain ⟨W5, hW5⟩ : ∃ W5, W5 = w4.alloc (.cells #[.slice (some ⟨g4, 0, none⟩) p.decls.length p.decls.length, .slice (some ⟨g4', 0, none⟩) p.funcs.length p.funcs.length] 36) := ⟨_, rfl⟩
    have hB5 : Below w4.heap.size w4 W5 := by rw [hW5]; exact (Below.refl _ w4).alloc (Nat.le_refl _) _
    have hz5 : W5.heap.size = w4.heap.size + 1 := by rw [hW5]; simp
    have hY : W5.heap[w4.heap.size]? = some (.cells #[.slice (some ⟨g4, 0, none⟩) p.decls.length p.decls.length, .slice (some ⟨g4', 0, none⟩) p.funcs.length p.funcs.length] 36 (0, 0)) := by rw [hW5]; exact alloc_last _ _ _ rfl
    have HY := Lib.hid fun W (hB : Below W5.heap.size W5 W) => cells2 ((hB.block w4.heap.size (by omega)).trans hY)
    have HC5 := Lib.hid (HC4.out.trans ((hB4.trans (hB5.mono zz4)).mono z3))
    have HP5 := Lib.hid fun W (hB : Below W5.heap.size W5 W) => ((o4.pgm.wide (Nat.zero_le _) (Nat.le_refl _)).keep (Same.of_below (hB5.trans (hB.mono (show w4.heap.size ≤ W5.heap.size by omega))) (Nat.le_refl _))).wide (Nat.le_refl _) (show w4.heap.size ≤ W.heap.size by have := hB.size; omega)
    have z5 : W0.heap.size ≤ W5.heap.size := HC5.out.size
    have k4 : w4.heap.size < W5.heap.size := by omega
    clear hB4 hB5 hY o4 a0 a1 a2 a3 a4 hz5 zz4 z3
    go_wp2_with fail
    rw [← hW5]
    clear hW5
    refine (toIntS_any _ _ _ _ W5 (HI.out W5 HC5.out) (by omega) hlv').mono ?_
    rintro e w6 ⟨u6, rfl, hB6, o6⟩
    have HC6 := Lib.hid hB6
    have z6 : W5.heap.size ≤ w6.heap.size := hB6.size
    have HI6 := Lib.hid fun W (hB : Below w6.heap.size w6 W) => (o6.ints.keep (Same.of_below hB (Nat.le_refl _))).wide (Nat.zero_le _) hB.size
    obtain ⟨g6, k6, rfl, _, _⟩ := o6.ints.open_
    obtain ⟨⟨a0, a1⟩, ⟨a2, a3, a4⟩⟩ := HX.out w6 (HC5.out.trans (hB6.mono z5))
    obtain ⟨d0, d1⟩ := HY.out w6 hB6
    clear hB6 o6
    go_wp2_with fail
    refine (toExpr_any (HK.out w6 (HC5.out.trans (HC6.out.mono z5))) o n (by omega) HSX.out).mono ?_
    rintro e w7 ⟨u7, rfl, hB7, o7⟩
    have zz7 := hB7.size
    obtain ⟨g7, rfl⟩ := o7.form
    obtain ⟨W8, hW8⟩ : ∃ W8, W8 = w7.alloc (.cells #[.int .i64 o, .int .i64 n, .slice (some ⟨g7, 0, none⟩) ks.length ks.length] 41) := ⟨_, rfl⟩
    have hB8 : Below w7.heap.size w7 W8 := by rw [hW8]; exact (Below.refl _ w7).alloc (Nat.le_refl _) _
    have hz8 : W8.heap.size = w7.heap.size + 1 := by rw [hW8]; simp
    have hZ : W8.heap[w7.heap.size]? = some (.cells #[.int .i64 o, .int .i64 n, .slice (some ⟨g7, 0, none⟩) ks.length ks.length] 41 (0, 0)) := by rw [hW8]; exact alloc_last _ _ _ rfl
    have HZ := Lib.hid fun W (hB : Below W8.heap.size W8 W) => three ((hB.block w7.heap.size (by omega)).trans hZ)
    have HC68 := Lib.hid (hB7.trans (hB8.mono zz7))
    have HX8 := Lib.hid fun W (hB : Below W8.heap.size W8 W) => ((o7.exs.wide (Nat.zero_le _) (Nat.le_refl _)).keep (Same.of_below (hB8.trans (hB.mono (show w7.heap.size ≤ W8.heap.size by omega))) (Nat.le_refl _))).wide (Nat.le_refl _) (show w7.heap.size ≤ W.heap.size by have := hB.size; omega)
    have z8 : w6.heap.size ≤ W8.heap.size := HC68.out.size
    have k7 : w7.heap.size < W8.heap.size := by omega
    have HC8 := Lib.hid fun W (hB : Below W8.heap.size W8 W) => HC5.out.trans ((HC6.out.trans ((HC68.out.trans (hB.mono z8)).mono z6)).mono z5)
    have HY8 := Lib.hid fun W (hB : Below W8.heap.size W8 W) => HY.out W (HC6.out.trans ((HC68.out.trans (hB.mono z8)).mono z6))
    have HP8 := Lib.hid fun W (hB : Below W8.heap.size W8 W) => HP5.out W (HC6.out.trans ((HC68.out.trans (hB.mono z8)).mono z6))
    have HI8 := Lib.hid fun W (hB : Below W8.heap.size W8 W) => HI6.out W (HC68.out.trans (hB.mono z8))
    obtain ⟨d3, d4⟩ := HY8.out W8 (Below.refl _ _)
    obtain ⟨d5, d6, d7⟩ := HZ.out W8 (Below.refl _ _)
    rw [hW8] at d3 d4 d5 d6 d7
    clear hB7 hB8 hZ o7 a0 a1 a2 a3 a4 hz8 zz7 d0 d1 HY HP5 HI6
    go_wp2_with fail
    rw [← hW8]
    clear hW8
    refine (IM.out W8 _ _ _ (HP8.out W8 (Below.refl _ _)) (HI8.out W8 (Below.refl _ _)) (HX8.out W8 (Below.refl _ _))).mono ?_
    rintro e w9 ⟨rfl, hB9⟩
    have HC9 := Lib.hid hB9
    have z9 : W8.heap.size ≤ w9.heap.size := hB9.size
    clear hB9 d3 d4 d5 d6 d7 SP IM
    obtain ⟨⟨a0, a1⟩, ⟨a2, a3, a4⟩⟩ := HX.out w9 (HC8.out _ HC9.out)
    obtain ⟨d3, d4⟩ := HY8.out w9 HC9.out
    have hd0 : w.heap.size < w9.heap.size := by omega
    have hd4 : w4.heap.size < w9.heap.size := by omega
    have TC := Lib.hid (toProgram_any w9.drew (HV.out _ (HC8.out _ HC9.out).drew) (Same.refl _ _ _) (by show w.heap.size ≤ w9.heap.size; omega) HS.out)
    have XX := Lib.hid fun W (hB : Below w9.heap.size w9 W) => HP8.out W (HC9.out.trans (hB.mono z9))
    go_wp2_with fail
    go_region_held3 (fun w' => w'.cell? ⟨w.heap.size, 0, none⟩ = some (.slice A1 p.decls.length c1) ∧ w'.cell? ⟨w.heap.size, 1, none⟩ = some (.slice A2 p.funcs.length c2) ∧ w'.cell? ⟨w4.heap.size, 0, none⟩ = some (.slice (some ⟨g4, 0, none⟩) p.decls.length p.decls.length) ∧ w'.cell? ⟨w4.heap.size, 1, none⟩ = some (.slice (some ⟨g4', 0, none⟩) p.funcs.length p.funcs.length))
      (first | go_keep | (exact ⟨(hBb.cell (by first | assumption | (simp; assumption))).trans (by first | assumption | (simp; assumption)), (hBb.cell (by first | assumption | (simp; assumption))).trans (by first | assumption | (simp; assumption)), (hBb.cell (by first | assumption | (simp; assumption))).trans (by first | assumption | (simp; assumption)), (hBb.cell (by first | assumption | (simp; assumption))).trans (by first | assumption | (simp; assumption))⟩) | (exact ⟨(hBa.cell (by first | assumption | (simp; assumption))).trans (by first | assumption | (simp; assumption)), (hBa.cell (by first | assumption | (simp; assumption))).trans (by first | assumption | (simp; assumption)), (hBa.cell (by first | assumption | (simp; assumption))).trans (by first | assumption | (simp; assumption)), (hBa.cell (by first | assumption | (simp; assumption))).trans (by first | assumption | (simp; assumption))⟩))
      (first | (go_at_call 15; refine (eqProgram_same (XX.out _ ((Below.refl w9.heap.size w9).drew.trans (hBa.mono (Nat.le_refl _)))) hpa (Nat.le_refl _) (Nat.le_refl _)).mono ?_; rintro e wB ⟨rfl, hBb'⟩; have hBb := hBa.trans (hBb'.mono hBa.size)) | (go_at_call 11; refine TC.out.mono ?_; rintro e wA ⟨uA, rfl, hBa, oA⟩; obtain ⟨gA, gA', rfl⟩ := oA.form; have hpa := oA.pgm; clear oA))
    have HC10 := Lib.hid (HC9.out.trans (((Below.refl w9.heap.size w9).drew.trans (hBb.mono (Nat.le_refl _))).mono z9))
    clear hBa hBb hBb' hpa TC XX a0 a1 a2 a3 a4 d3 d4 hd0 hd4
    have z10 : W8.heap.size ≤ wB.heap.size := HC10.out.size
    go_wp2_with fail
    refine (toIntS_any _ _ _ _ wB (HI.out _ (HC8.out _ HC10.out)) (by omega) hlv').mono ?_
    rintro e w11 ⟨u11, rfl, hB11, o11⟩
    have zz11 := hB11.size
    have HC11 := Lib.hid (HC10.out.trans (hB11.mono z10))
    have hi11 := o11.ints
    obtain ⟨g11, k11, rfl, _, _⟩ := hi11.open_
    have HI11 := Lib.hid hi11
    clear hB11 o11 hi11
    go_wp2_with fail
    refine (eqIntS_same _ _ _ _ vars _ _ w11 (HI8.out _ HC11.out) HI11.out).mono ?_
    rintro e w12 ⟨rfl, hB12⟩
    have HC12 := Lib.hid (HC11.out.trans (hB12.mono HC11.out.size))
    clear hB12 HI11
    have z12 : W8.heap.size ≤ w12.heap.size := HC12.out.size
    obtain ⟨⟨a0, a1⟩, ⟨a2, a3, a4⟩⟩ := HX.out w12 (HC8.out _ HC12.out)
    obtain ⟨d5, d6, d7⟩ := HZ.out w12 HC12.out
    have hd1 : w.heap.size + 1 < w12.heap.size := by omega
    have hd7 : w7.heap.size < w12.heap.size := by omega
    have TC := Lib.hid (toExpr_any (HK.out _ (HC8.out _ HC12.out).drew) o n (by show w.heap.size ≤ w12.heap.size; omega) HSX.out)
    have XX := Lib.hid fun W (hB : Below w12.heap.size w12 W) => HX8.out W (HC12.out.trans (hB.mono z12))
    go_wp2_with fail
    go_region_held3 (fun w' => w'.cell? ⟨w.heap.size + 1, 0, none⟩ = some (.int .i64 o) ∧ w'.cell? ⟨w.heap.size + 1, 1, none⟩ = some (.int .i64 n) ∧ w'.cell? ⟨w.heap.size + 1, 2, none⟩ = some (.slice A ks.length c) ∧ w'.cell? ⟨w7.heap.size, 0, none⟩ = some (.int .i64 o) ∧ w'.cell? ⟨w7.heap.size, 1, none⟩ = some (.int .i64 n) ∧ w'.cell? ⟨w7.heap.size, 2, none⟩ = some (.slice (some ⟨g7, 0, none⟩) ks.length ks.length))
      (first | go_keep | (exact ⟨(hBb.cell (by first | assumption | (simp; assumption))).trans (by first | assumption | (simp; assumption)), (hBb.cell (by first | assumption | (simp; assumption))).trans (by first | assumption | (simp; assumption)), (hBb.cell (by first | assumption | (simp; assumption))).trans (by first | assumption | (simp; assumption)), (hBb.cell (by first | assumption | (simp; assumption))).trans (by first | assumption | (simp; assumption)), (hBb.cell (by first | assumption | (simp; assumption))).trans (by first | assumption | (simp; assumption)), (hBb.cell (by first | assumption | (simp; assumption))).trans (by first | assumption | (simp; assumption))⟩) | (exact ⟨(hBa.cell (by first | assumption | (simp; assumption))).trans (by first | assumption | (simp; assumption)), (hBa.cell (by first | assumption | (simp; assumption))).trans (by first | assumption | (simp; assumption)), (hBa.cell (by first | assumption | (simp; assumption))).trans (by first | assumption | (simp; assumption)), (hBa.cell (by first | assumption | (simp; assumption))).trans (by first | assumption | (simp; assumption)), (hBa.cell (by first | assumption | (simp; assumption))).trans (by first | assumption | (simp; assumption)), (hBa.cell (by first | assumption | (simp; assumption))).trans (by first | assumption | (simp; assumption))⟩))
      (first | (go_at_call 17; refine (eqExpr_same (XX.out _ ((Below.refl w12.heap.size w12).drew.trans (hBa.mono (Nat.le_refl _)))) hxa o n (Nat.le_refl _) (Nat.le_refl _)).mono ?_; rintro e wE ⟨rfl, hBb'⟩; have hBb := hBa.trans (hBb'.mono hBa.size)) | (go_at_call 13; refine TC.out.mono ?_; rintro e wD ⟨uA, rfl, hBa, oA⟩; obtain ⟨gA, rfl⟩ := oA.form; have hxa := oA.exs; clear oA))
    have HC13 := Lib.hid (HE.out _ (HC8.out _ (HC12.out.trans (((Below.refl w12.heap.size w12).drew.trans (hBb.mono (Nat.le_refl _))).mono z12))))
    clear hBa hBb hBb' hxa TC XX a0 a1 a2 a3 a4 d5 d6 d7 hd1 hd7
    go_wp2_with fail
    go_ret
    exact ⟨rfl, HC13.out⟩
  · have hy0 : y < 0 := by rw [← hy]; unfold leftV; rw [if_neg hsm]; omega
    clear hy hsm
    go_wp2_with fail
    refine CX.out.mono ?_
    rintro e w2 ⟨rfl, hB2⟩
    have HC2 := Lib.hid (HE.out _ (HC1.out.trans (hB2.mono z1)))
    clear hB2 b0 b1 b2 b3 b4 CX
    go_wp2_with fail
    go_ret
    exact ⟨rfl, HC2.out⟩
end Go.Proofs.Ythbingbbimikhaa
