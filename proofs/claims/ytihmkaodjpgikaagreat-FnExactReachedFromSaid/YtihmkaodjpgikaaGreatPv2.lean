/- Contracts of chapter 2: the types of expressions, from outside. -/
import Derived.Test.YtihmkaodjpgikaaGreatPt10
import Derived.Test.YtihmkaodjpgikaaGreatPu1
import Derived.Test.YtihmkaodjpgikaaGreatPs1
import Derived.Test.YtihmkaodjpgikaaGreatGb
namespace Go.Proofs.YtihmkaodjpgikaaGreat
open Go.RowKit Go.BigFrame
set_option maxHeartbeats 1600000 in
theorem typeTop_any {w : World} {p : Pg} {pv vv u : Value} {vars : List Int} {ks : List Ex} (o n : Int) (sc : ScS w p pv vv vars) (hx : Exs w 0 w.heap.size u ks) (hn : n ≤ 9223372036854775807) (hr : rngL ks) :
    Calls Tryz.prog 38 #[pv, vv, .agg #[.int .i64 o, .int .i64 n, u]] w fun e w' => e = .returned (.int .i64 (typeV p vars (.node o n ks))) ∧ Below w.heap.size w w' := by
  obtain ⟨A, c, rfl, hrl, hrc⟩ := hx.open_
  have hd0 := sc.p
  obtain ⟨dd, ff, rfl, hd, hf⟩ := hd0
  obtain ⟨B1, b1, rfl, l1, m1⟩ := hd.open_
  obtain ⟨B2, b2, rfl, l2, m2⟩ := hf.open_
  obtain ⟨A3, c3, rfl, l3, m3⟩ := sc.v.open_
  obtain ⟨W0, hW0⟩ : ∃ W0, W0 = (w.alloc (.cells #[.slice B1 p.decls.length b1, .slice B2 p.funcs.length b2] 32)).alloc (.cells #[.int .i64 o, .int .i64 n, .slice A ks.length c] 64) := ⟨_, rfl⟩
  have hB0 : Below w.heap.size w W0 := by rw [hW0]; exact ((Below.refl _ w).alloc (Nat.le_refl _) _).alloc (by simp) _
  have hz0 : W0.heap.size = w.heap.size + 2 := by rw [hW0]; simp
  have x0 : W0.heap[w.heap.size]? = some (.cells #[.slice B1 p.decls.length b1, .slice B2 p.funcs.length b2] 32 (0, 0)) := by rw [hW0]; refine Eq.trans (Below.heap_alloc _ _ _ (by simp only [World.size_alloc]; omega)) ?_; exact alloc_last _ _ _ (by simp)
  have x1 : W0.heap[w.heap.size + 1]? = some (.cells #[.int .i64 o, .int .i64 n, .slice A ks.length c] 64 (0, 0)) := by rw [hW0]; exact alloc_last _ _ _ (by simp)
  have HX := Lib.hid fun W (hB : Below W0.heap.size W0 W) => (show (W.cell? ⟨w.heap.size, 0, none⟩ = some (.slice B1 p.decls.length b1) ∧ W.cell? ⟨w.heap.size, 1, none⟩ = some (.slice B2 p.funcs.length b2)) ∧ (W.cell? ⟨w.heap.size + 1, 0, none⟩ = some (.int .i64 o) ∧ W.cell? ⟨w.heap.size + 1, 1, none⟩ = some (.int .i64 n) ∧ W.cell? ⟨w.heap.size + 1, 2, none⟩ = some (.slice A ks.length c)) from ⟨cells2 ((hB.block w.heap.size (by omega)).trans x0), three ((hB.block (w.heap.size + 1) (by omega)).trans x1)⟩)
  have HSC := Lib.hid fun W (hB : Below W0.heap.size W0 W) => (sc.up hB0).up hB
  have HE := Lib.hid fun W (hB : Below W0.heap.size W0 W) => hB0.trans (hB.mono (show w.heap.size ≤ W0.heap.size by omega))
  have HXS := Lib.hid fun W (hB : Below W0.heap.size W0 W) => hx.keep (Same.of_below (hB0.trans (hB.mono (show w.heap.size ≤ W0.heap.size by omega))) (Nat.le_refl _))
  have HZ := Lib.hid hz0
  have HPG := Lib.hid fun W (hB : Below W0.heap.size W0 W) => (HSC.out W hB).p
  have HDc := Lib.hid fun W (hB : Below W0.heap.size W0 W) => ((HSC.out W hB).p).two.1
  have hsum : (Ex.node o n ks).sum one_ = 1 + sumL one_ ks := by rw [sum_eq]; rfl
  have hz1 : w.heap.size ≤ W0.heap.size := by omega
  have HSUM := Lib.hid hsum
  have hml : p.decls.length ≤ maxLen := by unfold maxLen; omega
  clear sc hd hf x0 x1 hz0 hx hsum
  obtain ⟨⟨P0, P1⟩, ⟨E0, E1, E2⟩⟩ := HX.out W0 (Below.refl _ _)
  have CS := Lib.hid (validSigs_any _ _ p _ W0 (HPG.out W0 (Below.refl _ _)) (Nat.le_refl _))
  rcases hs : sigsOk p with _ | _
  · rw [show typeV p vars (.node o n ks) = -1 by unfold typeV; rw [if_neg (fun e => by rw [hs] at e; cases e.1)]]
    rw [hs] at CS
    clear hs
    go_enter Tryz.func38, Tryz.ntmps38
    go_wp2_with fail
    rw [← hW0]
    clear hW0
    refine (CS.out).mono ?_
    rintro e w1 ⟨rfl, hB⟩
    have HBw1 := Lib.hid ((Below.refl W0.heap.size W0).trans (hB.mono ((Below.refl W0.heap.size W0).size)))
    clear hB P0 P1 E0 E1 E2
    go_wp2_with fail
    go_ret
    exact ⟨rfl, HE.out _ HBw1.out⟩
  · have hto := sigs_types hs
    have hfl := (sigs_len hs).2
    rw [hs] at CS
    have HS := Lib.hid hs
    clear hs
    rcases ha : vars.all (isTy p.decls.length) with _ | _
    · rw [show typeV p vars (.node o n ks) = -1 by unfold typeV; rw [if_neg (fun e => by rw [ha] at e; cases e.2.1)]]
      go_enter Tryz.func38, Tryz.ntmps38
      go_wp2_with fail
      rw [← hW0]
      clear hW0
      refine (CS.out).mono ?_
      rintro e w1 ⟨rfl, hB⟩
      have HBw1 := Lib.hid ((Below.refl W0.heap.size W0).trans (hB.mono ((Below.refl W0.heap.size W0).size)))
      clear hB P0 P1 E0 E1 E2
      obtain ⟨⟨P0, P1⟩, ⟨E0, E1, E2⟩⟩ := HX.out w1 HBw1.out
      have CT := Lib.hid (areTypes_is _ B1 p.decls.length b1 _ _ vars _ w1 hml (HSC.out w1 HBw1.out).v ha)
      go_wp2_with fail
      refine CT.out.mono ?_
      rintro e w9 ⟨rfl, rfl⟩
      clear CT
      go_wp2_with fail
      go_ret
      exact ⟨rfl, HE.out _ HBw1.out⟩
    · by_cases h30 : 1 + sumL one_ ks ≤ 30
      · rw [show typeV p vars (.node o n ks) = (Ex.node o n ks).ty p vars by unfold typeV; rw [if_pos ⟨HS.out, ha, h30⟩]]
        obtain ⟨x, hnn, hxn⟩ : ∃ x : Int, nodesOfV ks = x ∧ ¬ x < 0 := ⟨_, rfl, by unfold nodesOfV; rw [if_pos h30]; omega⟩
        go_enter Tryz.func38, Tryz.ntmps38
        go_wp2_with fail
        rw [← hW0]
        clear hW0
        refine (CS.out).mono ?_
        rintro e w1 ⟨rfl, hB⟩
        have HBw1 := Lib.hid ((Below.refl W0.heap.size W0).trans (hB.mono ((Below.refl W0.heap.size W0).size)))
        clear hB P0 P1 E0 E1 E2
        obtain ⟨⟨P0, P1⟩, ⟨E0, E1, E2⟩⟩ := HX.out w1 HBw1.out
        have CT := Lib.hid (areTypes_is _ B1 p.decls.length b1 _ _ vars _ w1 hml (HSC.out w1 HBw1.out).v ha)
        go_wp2_with fail
        refine CT.out.mono ?_
        rintro e w9 ⟨rfl, rfl⟩
        clear CT
        obtain ⟨⟨P0, P1⟩, ⟨E0, E1, E2⟩⟩ := HX.out w1 HBw1.out
        have CN := Lib.hid (nodesTop (HXS.out w1 HBw1.out) o n (by have := (HBw1.out).size; omega))
        rw [hnn] at CN
        go_wp2_with fail
        refine (CN.out).mono ?_
        rintro e w2 ⟨rfl, hB⟩
        have HBw2 := Lib.hid (HBw1.out.trans (hB.mono (HBw1.out.size)))
        clear hB P0 P1 E0 E1 E2
        clear CN
        have hzw := HBw2.out.size
        obtain ⟨⟨P0, P1⟩, ⟨E0, E1, E2⟩⟩ := HX.out w2 HBw2.out
        have CK := typeIn_any (HXS.out w2 HBw2.out) p hto o n hn hr (.agg #[.slice B1 p.decls.length b1, .slice B2 p.funcs.length b2]) (.slice A3 vars.length c3) (.slice none 0 0) vars [] w2 (Same.refl _ _ _) (by omega) ⟨(HSC.out w2 HBw2.out).p, (HSC.out w2 HBw2.out).v, (Own.nil w2 w2.heap.size).ints.wide (Nat.zero_le _) (Nat.le_refl _)⟩ (by rw [HSUM.out]; simp only [List.length_nil]; omega)
        rw [List.append_nil] at CK
        have CK := Lib.hid CK
        go_wp2_with fail
        refine CK.out.mono ?_
        rintro e w8 ⟨rfl, hB⟩
        have HB8 := Lib.hid (HE.out _ (HBw2.out.trans (hB.mono HBw2.out.size)))
        clear hB CK P0 P1 E0 E1 E2
        go_wp2_with fail
        go_ret
        exact ⟨rfl, HB8.out⟩
      · rw [show typeV p vars (.node o n ks) = -1 by unfold typeV; rw [if_neg (fun e => by exact h30 e.2.2)]]
        have hx0 : nodesOfV ks = -1 := by unfold nodesOfV; rw [if_neg h30]
        obtain ⟨x, hnn, hxn⟩ : ∃ x : Int, nodesOfV ks = x ∧ x < 0 := ⟨-1, hx0, by omega⟩
        clear hx0
        go_enter Tryz.func38, Tryz.ntmps38
        go_wp2_with fail
        rw [← hW0]
        clear hW0
        refine (CS.out).mono ?_
        rintro e w1 ⟨rfl, hB⟩
        have HBw1 := Lib.hid ((Below.refl W0.heap.size W0).trans (hB.mono ((Below.refl W0.heap.size W0).size)))
        clear hB P0 P1 E0 E1 E2
        obtain ⟨⟨P0, P1⟩, ⟨E0, E1, E2⟩⟩ := HX.out w1 HBw1.out
        have CT := Lib.hid (areTypes_is _ B1 p.decls.length b1 _ _ vars _ w1 hml (HSC.out w1 HBw1.out).v ha)
        go_wp2_with fail
        refine CT.out.mono ?_
        rintro e w9 ⟨rfl, rfl⟩
        clear CT
        obtain ⟨⟨P0, P1⟩, ⟨E0, E1, E2⟩⟩ := HX.out w1 HBw1.out
        have CN := Lib.hid (nodesTop (HXS.out w1 HBw1.out) o n (by have := (HBw1.out).size; omega))
        rw [hnn] at CN
        go_wp2_with fail
        refine (CN.out).mono ?_
        rintro e w2 ⟨rfl, hB⟩
        have HBw2 := Lib.hid (HBw1.out.trans (hB.mono (HBw1.out.size)))
        clear hB P0 P1 E0 E1 E2
        clear CN
        go_wp2_with fail
        go_ret
        exact ⟨rfl, HE.out _ HBw2.out⟩
end Go.Proofs.YtihmkaodjpgikaaGreat
