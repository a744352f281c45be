/- Contracts of chapter 2, as the model types: calls. -/
import Derived.Test.YtihmkaodjpgikaaGreatPu2
import Derived.Test.YtihmkaodjpgikaaGreatPt2
namespace Go.Proofs.YtihmkaodjpgikaaGreat
open Go.RowKit Go.BigFrame
theorem inR_hasF (p : Pg) (f : Int) : (decide (0 ≤ f) && decide (f ≤ (p.funcs.length : Int) - 1)) = hasF p f := by
  unfold hasF
  congr 1
  rw [decide_eq_decide]
  omega
theorem sInR_is {p : Pg} {f : Int} {b : Bool} (h : hasF p f = b) (w : World) : Calls Tryz.prog 16 #[.int .i64 f, .int .i64 0, .int .i64 ((p.funcs.length : Int) - 1)] w fun e w' => e = .returned (.bool b) ∧ w = w' := by
  have := inRange_any f 0 ((p.funcs.length : Int) - 1) w
  rw [inR_hasF, h] at this
  exact this
set_option maxHeartbeats 1600000 in
theorem callTypeCall_of {w0 : World} {L U : Nat} {A : Option Addr} {c : Nat} {V : Nat → Value} {ks : List Ex} (p : Pg) (r : Row w0 L U 3 A ks.length c (fun i j => exCell (nthX ks i) (V i) j)) (HV : Hid (∀ i, i < ks.length → ∃ A' c', V i = .slice A' (nthX ks i).kids.length c')) (HC : Hid (∀ i, i < ks.length → TyS p w0 L U (V i) (nthX ks i))) (pv vv : Value) (vars : List Int) (n : Int) (w : World) (hS : Same L U w0 w) (hU : U ≤ w.heap.size) (sc : ScS w p pv vv vars) (hs : vars.length + 3 * sumL one_ ks ≤ 1900000) (hfl : p.funcs.length ≤ 1900000) :
    Calls Tryz.prog 56 #[pv, vv, .agg #[.int .i64 9, .int .i64 n, .slice A ks.length c]] w fun x w' => x = .returned (.int .i64 (callRes p n (tysL p vars ks))) ∧ Below w.heap.size w w' := by
  have hrl := r.le
  have hrc : c ≤ 9223372036854775807 := r.cap
  have hd0 := sc.p
  obtain ⟨dd, ff, rfl, hd, hf⟩ := hd0
  obtain ⟨B1, b1, rfl, l1, m1⟩ := hd.open_
  obtain ⟨B2, b2, rfl, l2, m2⟩ := hf.open_
  obtain ⟨A3, c3, rfl, l3, m3⟩ := sc.v.open_
  obtain ⟨W0, hW0⟩ : ∃ W0, W0 = (w.alloc (.cells #[.slice B1 p.decls.length b1, .slice B2 p.funcs.length b2] 32)).alloc (.cells #[.int .i64 9, .int .i64 n, .slice A ks.length c] 64) := ⟨_, rfl⟩
  have hB0 : Below w.heap.size w W0 := by rw [hW0]; exact ((Below.refl _ w).alloc (Nat.le_refl _) _).alloc (by simp) _
  have hz0 : W0.heap.size = w.heap.size + 2 := by rw [hW0]; simp
  have x0 : W0.heap[w.heap.size]? = some (.cells #[.slice B1 p.decls.length b1, .slice B2 p.funcs.length b2] 32 (0, 0)) := by rw [hW0]; refine Eq.trans (Below.heap_alloc _ _ _ (by simp only [World.size_alloc]; omega)) ?_; exact alloc_last _ _ _ (by simp)
  have x1 : W0.heap[w.heap.size + 1]? = some (.cells #[.int .i64 9, .int .i64 n, .slice A ks.length c] 64 (0, 0)) := by rw [hW0]; exact alloc_last _ _ _ (by simp)
  have HX := Lib.hid fun W (hB : Below W0.heap.size W0 W) => (show (W.cell? ⟨w.heap.size, 0, none⟩ = some (.slice B1 p.decls.length b1) ∧ W.cell? ⟨w.heap.size, 1, none⟩ = some (.slice B2 p.funcs.length b2)) ∧ (W.cell? ⟨w.heap.size + 1, 0, none⟩ = some (.int .i64 9) ∧ W.cell? ⟨w.heap.size + 1, 1, none⟩ = some (.int .i64 n) ∧ W.cell? ⟨w.heap.size + 1, 2, none⟩ = some (.slice A ks.length c)) from ⟨cells2 ((hB.block w.heap.size (by omega)).trans x0), three ((hB.block (w.heap.size + 1) (by omega)).trans x1)⟩)
  have HSC := Lib.hid fun W (hB : Below W0.heap.size W0 W) => (sc.up hB0).up hB
  have HE := Lib.hid fun W (hB : Below W0.heap.size W0 W) => hB0.trans (hB.mono (show w.heap.size ≤ W0.heap.size by omega))
  have HS0 := Lib.hid fun W (hB : Below W0.heap.size W0 W) => hS.trans (Same.of_below (hB0.trans (hB.mono (show w.heap.size ≤ W0.heap.size by omega))) hU)
  have HF := Lib.hid fun W (hB : Below W0.heap.size W0 W) => hf.keep (Same.of_below (hB0.trans (hB.mono (show w.heap.size ≤ W0.heap.size by omega))) (Nat.le_refl _))
  have hw0 : w.heap.size + 1 < W0.heap.size := by omega
  have hU0 : U ≤ W0.heap.size := by omega
  have HR := Lib.hid r
  obtain ⟨⟨P0, P1⟩, ⟨E0, E1, E2⟩⟩ := HX.out W0 (Below.refl _ _)
  clear sc hd hf hS x0 x1 hz0 r
  rcases hb : hasF p n with _ | _
  · rw [show callRes p n (tysL p vars ks) = -1 by unfold callRes; rw [if_neg (by rw [hb]; simp)]]
    have HB := Lib.hid hb
    clear hb
    go_enter Tryz.func56, Tryz.ntmps56
    go_wp2_with fail
    rw [← hW0]
    clear hW0
    refine (sInR_is HB.out W0).mono ?_
    rintro e w1 ⟨rfl, rfl⟩
    go_wp2_with fail
    go_ret
    exact ⟨rfl, hB0⟩
  · obtain ⟨k, rfl, hk⟩ : ∃ k : Nat, n = (k : Int) ∧ k < p.funcs.length := by
      unfold hasF at hb
      obtain ⟨h1, h2⟩ := Bool.and_eq_true_iff.1 hb
      have h1 := of_decide_eq_true h1
      have h2 := of_decide_eq_true h2
      exact ⟨n.toNat, by omega, by omega⟩
    have hC : callRes p (k : Int) (tysL p vars ks) = cond (decide (tysL p vars ks = (nthF p.funcs k).params)) (nthF p.funcs k).result (-1) := by
      unfold callRes fnAt
      rw [hb, Int.toNat_natCast]
      by_cases h : tysL p vars ks = (nthF p.funcs k).params
      · rw [if_pos ⟨rfl, h⟩, decide_eq_true h]; rfl
      · rw [if_neg (fun e => h e.2), decide_eq_false h]; rfl
    rw [hC]
    have HB := Lib.hid hb
    obtain ⟨g, of, A1, c1, A2, c2, rfl, _, _, e0, e1, e2, e3, e4, hI, _⟩ := (HF.out W0 (Below.refl _ _)).at_ hk
    obtain ⟨W1, hW1⟩ : ∃ W1, W1 = W0.alloc (.cells #[.slice A1 (nthF p.funcs k).params.length c1, .int .i64 (nthF p.funcs k).result, .int .i64 (nthF p.funcs k).body.op, .int .i64 (nthF p.funcs k).body.num, .slice A2 (nthF p.funcs k).body.kids.length c2] 66) := ⟨_, rfl⟩
    have hB1 : Below W0.heap.size W0 W1 := by rw [hW1]; exact (Below.refl _ W0).alloc (Nat.le_refl _) _
    have y : W1.heap[W0.heap.size]? = some (.cells #[.slice A1 (nthF p.funcs k).params.length c1, .int .i64 (nthF p.funcs k).result, .int .i64 (nthF p.funcs k).body.op, .int .i64 (nthF p.funcs k).body.num, .slice A2 (nthF p.funcs k).body.kids.length c2] 66 (0, 0)) := by rw [hW1]; exact alloc_last _ _ _ rfl
    have hz1 : W0.heap.size < W1.heap.size := by rw [hW1]; simp
    have HY := Lib.hid fun W (hB : Below W1.heap.size W1 W) => (show W.cell? ⟨W0.heap.size, 0, none⟩ = some (.slice A1 (nthF p.funcs k).params.length c1) ∧ W.cell? ⟨W0.heap.size, 1, none⟩ = some (.int .i64 (nthF p.funcs k).result) from by
      have e := (hB.block W0.heap.size hz1).trans y
      refine ⟨?_, ?_⟩ <;> rw [cell_of_row W W0.heap.size _ _ _ (0, 0) e] <;> rfl)
    have HCK := Lib.hid (allOf_of p HR.out HV HC _ _ vars (nthF p.funcs k).params _ W1 (HS0.out W1 hB1) (by omega) (HSC.out W1 hB1) hs ((hI.keep (Same.of_below hB1 (by omega))).wide (Nat.zero_le _) (by omega)))
    rw [allOf_is] at HCK
    obtain ⟨Y0, Y1⟩ := HY.out W1 (Below.refl _ _)
    have k0 : (0 : Int) ≤ (k : Int) := by omega
    have k1 : (k : Int) < (p.funcs.length : Int) := by omega
    clear hb hC hI y
    rcases hr : decide (tysL p vars ks = (nthF p.funcs k).params) with _ | _
    all_goals (
      rw [hr] at HCK
      clear hr
      obtain ⟨⟨Q0, Q1⟩, ⟨F0, F1, F2⟩⟩ := HX.out W1 hB1
      rw [hW1] at Q0 Q1 F0 F1 F2 Y0 Y1
      go_enter Tryz.func56, Tryz.ntmps56
      go_wp2_with fail
      rw [← hW0]
      clear hW0
      refine (sInR_is HB.out W0).mono ?_
      rintro e w1 ⟨rfl, rfl⟩
      go_wp2_with fail
      rw [← hW1]
      clear hW1
      refine HCK.out.mono ?_
      rintro e w2 ⟨rfl, hB2⟩
      obtain ⟨Z0, Z1⟩ := HY.out w2 hB2
      have HF2 := Lib.hid (HE.out w2 (hB1.trans (hB2.mono (by omega))))
      clear hB2 Y0 Y1 P0 P1 E0 E1 E2 Q0 Q1 F0 F1 F2 e0 e1 e2 e3 e4
      go_wp2_with fail
      go_ret
      exact ⟨rfl, HF2.out⟩)
end Go.Proofs.YtihmkaodjpgikaaGreat
