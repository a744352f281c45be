/- Contracts of chapter 2, as the model types: closures. -/
import Derived.Test.YtihmkaodjpgikaaGreatPu3
import Derived.Test.YtihmkaodjpgikaaGreatPt3
namespace Go.Proofs.YtihmkaodjpgikaaGreat
open Go.RowKit Go.BigFrame
theorem sArrow_is {f t x : Int} {L U : Nat} {ds : List Dec} {v : Value} {w : World} (hv : Decs w L U v ds) (h : arrT ds f t = x) :
    Calls Tryz.prog 75 #[v, .int .i64 f, .int .i64 t] w fun e w' => e = .returned (.int .i64 x) ∧ w = w' := by
  subst h; exact arrowOf_any f t L U ds v w hv
set_option maxHeartbeats 3200000 in
theorem callTypeClose_of {w0 : World} {L U : Nat} {A : Option Addr} {c : Nat} {V : Nat → Value} {ks : List Ex} (p : Pg) (r : Row w0 L U 3 A ks.length c (fun i j => exCell (nthX ks i) (V i) j)) (HV : Hid (∀ i, i < ks.length → ∃ A' c', V i = .slice A' (nthX ks i).kids.length c')) (HC : Hid (∀ i, i < ks.length → TyS p w0 L U (V i) (nthX ks i))) (pv vv : Value) (vars : List Int) (n : Int) (w : World) (hS : Same L U w0 w) (hU : U ≤ w.heap.size) (sc : ScS w p pv vv vars) (hs : vars.length + 3 * sumL one_ ks ≤ 1900000) (hfl : p.funcs.length ≤ 1900000) :
    Calls Tryz.prog 56 #[pv, vv, .agg #[.int .i64 10, .int .i64 n, .slice A ks.length c]] w fun x w' => x = .returned (.int .i64 (closeRes p n (tysL p vars ks))) ∧ Below w.heap.size w w' := by
  have hrl := r.le
  have hrc : c ≤ 9223372036854775807 := r.cap
  have hd0 := sc.p
  obtain ⟨dd, ff, rfl, hd, hf⟩ := hd0
  obtain ⟨B1, b1, rfl, l1, m1⟩ := hd.open_
  obtain ⟨B2, b2, rfl, l2, m2⟩ := hf.open_
  obtain ⟨A3, c3, rfl, l3, m3⟩ := sc.v.open_
  obtain ⟨W0, hW0⟩ : ∃ W0, W0 = (w.alloc (.cells #[.slice B1 p.decls.length b1, .slice B2 p.funcs.length b2] 32)).alloc (.cells #[.int .i64 10, .int .i64 n, .slice A ks.length c] 64) := ⟨_, rfl⟩
  have hB0 : Below w.heap.size w W0 := by rw [hW0]; exact ((Below.refl _ w).alloc (Nat.le_refl _) _).alloc (by simp) _
  have hz0 : W0.heap.size = w.heap.size + 2 := by rw [hW0]; simp
  have x0 : W0.heap[w.heap.size]? = some (.cells #[.slice B1 p.decls.length b1, .slice B2 p.funcs.length b2] 32 (0, 0)) := by rw [hW0]; refine Eq.trans (Below.heap_alloc _ _ _ (by simp only [World.size_alloc]; omega)) ?_; exact alloc_last _ _ _ (by simp)
  have x1 : W0.heap[w.heap.size + 1]? = some (.cells #[.int .i64 10, .int .i64 n, .slice A ks.length c] 64 (0, 0)) := by rw [hW0]; exact alloc_last _ _ _ (by simp)
  have HX := Lib.hid fun W (hB : Below W0.heap.size W0 W) => (show (W.cell? ⟨w.heap.size, 0, none⟩ = some (.slice B1 p.decls.length b1) ∧ W.cell? ⟨w.heap.size, 1, none⟩ = some (.slice B2 p.funcs.length b2)) ∧ (W.cell? ⟨w.heap.size + 1, 0, none⟩ = some (.int .i64 10) ∧ W.cell? ⟨w.heap.size + 1, 1, none⟩ = some (.int .i64 n) ∧ W.cell? ⟨w.heap.size + 1, 2, none⟩ = some (.slice A ks.length c)) from ⟨cells2 ((hB.block w.heap.size (by omega)).trans x0), three ((hB.block (w.heap.size + 1) (by omega)).trans x1)⟩)
  have HSC := Lib.hid fun W (hB : Below W0.heap.size W0 W) => (sc.up hB0).up hB
  have HE := Lib.hid fun W (hB : Below W0.heap.size W0 W) => hB0.trans (hB.mono (show w.heap.size ≤ W0.heap.size by omega))
  have HS0 := Lib.hid fun W (hB : Below W0.heap.size W0 W) => hS.trans (Same.of_below (hB0.trans (hB.mono (show w.heap.size ≤ W0.heap.size by omega))) hU)
  have HF := Lib.hid fun W (hB : Below W0.heap.size W0 W) => hf.keep (Same.of_below (hB0.trans (hB.mono (show w.heap.size ≤ W0.heap.size by omega))) (Nat.le_refl _))
  have HD := Lib.hid fun W (hB : Below W0.heap.size W0 W) => hd.keep (Same.of_below (hB0.trans (hB.mono (show w.heap.size ≤ W0.heap.size by omega))) (Nat.le_refl _))
  have hw0 : w.heap.size + 1 < W0.heap.size := by omega
  have hU0 : U ≤ W0.heap.size := by omega
  have HR := Lib.hid r
  obtain ⟨⟨P0, P1⟩, ⟨E0, E1, E2⟩⟩ := HX.out W0 (Below.refl _ _)
  clear sc hd hf hS x0 x1 hz0 r
  rcases hb : hasF p n with _ | _
  · rw [closeRes_no (.inl hb)]
    have HB := Lib.hid hb
    clear hb
    go_enter Tryz.func56, Tryz.ntmps56
    go_wp2_with fail
    rw [← hW0]
    clear hW0
    refine (sInR_is HB.out W0).mono ?_
    rintro e w1 ⟨rfl, rfl⟩
    go_wp2_with fail
    go_ret
    exact ⟨rfl, hB0⟩
  · obtain ⟨k, rfl, hk⟩ : ∃ k : Nat, n = (k : Int) ∧ k < p.funcs.length := by
      unfold hasF at hb
      obtain ⟨h1, h2⟩ := Bool.and_eq_true_iff.1 hb
      have h1 := of_decide_eq_true h1
      have h2 := of_decide_eq_true h2
      exact ⟨n.toNat, by omega, by omega⟩
    have hfa : fnAt p (k : Int) = nthF p.funcs k := by unfold fnAt; rw [Int.toNat_natCast]
    have HB := Lib.hid hb
    obtain ⟨g, of, A1, c1, A2, c2, rfl, _, _, e0, e1, e2, e3, e4, hI, _⟩ := (HF.out W0 (Below.refl _ _)).at_ hk
    obtain ⟨W1, hW1⟩ : ∃ W1, W1 = W0.alloc (.cells #[.slice A1 (nthF p.funcs k).params.length c1, .int .i64 (nthF p.funcs k).result, .int .i64 (nthF p.funcs k).body.op, .int .i64 (nthF p.funcs k).body.num, .slice A2 (nthF p.funcs k).body.kids.length c2] 66) := ⟨_, rfl⟩
    have hB1 : Below W0.heap.size W0 W1 := by rw [hW1]; exact (Below.refl _ W0).alloc (Nat.le_refl _) _
    have y : W1.heap[W0.heap.size]? = some (.cells #[.slice A1 (nthF p.funcs k).params.length c1, .int .i64 (nthF p.funcs k).result, .int .i64 (nthF p.funcs k).body.op, .int .i64 (nthF p.funcs k).body.num, .slice A2 (nthF p.funcs k).body.kids.length c2] 66 (0, 0)) := by rw [hW1]; exact alloc_last _ _ _ rfl
    have hz1 : W0.heap.size < W1.heap.size := by rw [hW1]; simp
    have HY := Lib.hid fun W (hB : Below W1.heap.size W1 W) => (show W.cell? ⟨W0.heap.size, 0, none⟩ = some (.slice A1 (nthF p.funcs k).params.length c1) ∧ W.cell? ⟨W0.heap.size, 1, none⟩ = some (.int .i64 (nthF p.funcs k).result) from by
      have e := (hB.block W0.heap.size hz1).trans y
      refine ⟨?_, ?_⟩ <;> rw [cell_of_row W W0.heap.size _ _ _ (0, 0) e] <;> rfl)
    obtain ⟨Y0, Y1⟩ := HY.out W1 (Below.refl _ _)
    have k0 : (0 : Int) ≤ (k : Int) := by omega
    have k1 : (k : Int) < (p.funcs.length : Int) := by omega
    have HI := Lib.hid fun W (hB : Below W1.heap.size W1 W) => hI.keep (Same.of_below (hB1.trans (hB.mono (Nat.le_of_lt hz1))) (show w.heap.size ≤ W0.heap.size by omega))
    obtain ⟨⟨Q0, Q1⟩, ⟨F0, F1, F2⟩⟩ := HX.out W1 hB1
    rcases hm : (nthF p.funcs k).params.length with _ | m
    · rw [closeRes_no (.inr (by rw [hfa, hm]))]
      have hmb : ((((nthF p.funcs k).params.length : Nat) : Int) == 0) = true := by rw [hm]; rfl
      rw [hW1] at Q0 Q1 F0 F1 F2 Y0 Y1
      clear hb hI y hm hfa
      go_enter Tryz.func56, Tryz.ntmps56
      go_wp2_with fail
      rw [← hW0]
      clear hW0
      refine (sInR_is HB.out W0).mono ?_
      rintro e w1 ⟨rfl, rfl⟩
      go_wp2_with fail
      rw [← hW1] at *
      go_quiet (fail)
      go_wp2_with fail
      go_ret
      exact ⟨rfl, HE.out _ (below_drewN hB1 _)⟩
    · rcases hr : decide (tysL p vars ks = (nthF p.funcs k).params.take m) with _ | _
      all_goals (
        have hr2 := hr
        rw [← hfa] at hr2
        rw [closeRes_yes (m := m) hb (by rw [hfa, hm]) hr2]
        clear hr2
        have hmb : ((((nthF p.funcs k).params.length : Nat) : Int) == 0) = false := by rw [hm]; simp; omega
        have hs3 := hs
        have hpl : (nthF p.funcs k).params.length ≤ 9223372036854775807 := by obtain ⟨_, _, _, h1, h2⟩ := hI.open_; omega
        have hw1 : IntKind.i64.wrap ((((nthF p.funcs k).params.length : Nat) : Int) - 1) = (m : Int) := by rw [IntWalk.i64_in _ (by omega)]; omega
        have hml : m < (nthF p.funcs k).params.length := by omega
        have m0 : (0 : Int) ≤ (m : Int) := by omega
        have hc1 : (m : Int) ≤ (c1 : Int) := by obtain ⟨_, _, e, h1, _⟩ := hI.open_; injection e; omega
        have m1' : (m : Int) < (((nthF p.funcs k).params.length : Nat) : Int) := by omega
        have C0 := allOf_of p HR.out HV HC _ _ vars ((nthF p.funcs k).params.take m) _ W1.drew ((HS0.out W1 hB1).trans (same_drew _ _ W1)) (show U ≤ W1.drew.heap.size by show U ≤ W1.heap.size; omega) (HSC.out W1 hB1).drew hs ((((HI.out W1 (Below.refl _ _)).cut (k := m) (by omega)).keep (same_drew _ _ W1)).wide (Nat.zero_le _) (show w.heap.size ≤ W1.drew.heap.size by show w.heap.size ≤ W1.heap.size; omega))
        rw [allOf_is, hr] at C0
        have C0 := Lib.hid C0
        have HM := Lib.hid hml
        have HFA := Lib.hid hfa
        have HB1 := Lib.hid hB1
        rw [hW1] at Q0 Q1 F0 F1 F2 Y0 Y1
        clear hb hI y hm hfa hr hs3 hpl hml hB1
        go_enter Tryz.func56, Tryz.ntmps56
        go_wp2_with fail
        rw [← hW0]
        clear hW0
        refine (sInR_is HB.out W0).mono ?_
        rintro e w1 ⟨rfl, rfl⟩
        go_wp2_with fail
        rw [← hW1] at *
        have g0 : w.heap.size < W1.heap.size := by omega
        have g1 : w.heap.size + 1 < W1.heap.size := by omega
        have g2 : W0.heap.size < W1.heap.size := by omega
        go_region_held3 (fun w' => w'.cell? ⟨w.heap.size, 0, none⟩ = some (.slice B1 p.decls.length b1) ∧ w'.cell? ⟨w.heap.size, 1, none⟩ = some (.slice (some ⟨g, of, none⟩) p.funcs.length b2) ∧ w'.cell? ⟨w.heap.size + 1, 2, none⟩ = some (.slice A ks.length c) ∧ w'.cell? ⟨W0.heap.size, 0, none⟩ = some (.slice A1 (nthF p.funcs k).params.length c1))
          (first | go_keep | (exact ⟨(hB2.cell (by first | assumption | (simp; assumption))).trans (by first | assumption | (simp; assumption)), (hB2.cell (by first | assumption | (simp; assumption))).trans (by first | assumption | (simp; assumption)), (hB2.cell (by first | assumption | (simp; assumption))).trans (by first | assumption | (simp; assumption)), (hB2.cell (by first | assumption | (simp; assumption))).trans (by first | assumption | (simp; assumption))⟩))
          (first | (go_at_call 52; refine C0.out.mono ?_; rintro e w2 ⟨rfl, hB2⟩))
        have HB2 := Lib.hid ((Below.refl W1.heap.size W1).drew.trans (hB2.mono (Nat.le_refl _)))
        have HE2 := Lib.hid (HB1.out.trans (HB2.out.mono (Nat.le_of_lt hz1)))
        clear hB2 Q0 Q1 F0 F1 F2 Y0 Y1 P0 P1 E0 E1 E2 e0 e1 e2 e3 e4
        first
        | (go_wp2_with fail
           go_ret
           exact ⟨rfl, HE.out _ HE2.out⟩)
        | (obtain ⟨⟨P0, P1⟩, ⟨E0, E1, E2⟩⟩ := HX.out w2 HE2.out
           obtain ⟨Y0, Y1⟩ := HY.out w2 HB2.out
           obtain ⟨b5, o5, rfl, _, hb5, e5⟩ := (HI.out w2 HB2.out).at_ HM.out
           obtain ⟨x, hx⟩ : ∃ x, arrT p.decls (nthF p.funcs k).params[m] (nthF p.funcs k).result = x := ⟨_, rfl⟩
           have hxr : arrT p.decls (nth (fnAt p (k : Int)).params m) (fnAt p (k : Int)).result = x := by rw [HFA.out, nth_of HM.out]; exact hx
           have HXR := Lib.hid hxr
           have HAR := Lib.hid fun n => sArrow_is ((HD.out w2 HE2.out).keep (same_drewN _ _ w2 n)) hx
           clear hx hxr
           go_wp2_with fail
           go_quiet ((go_at_call 75; exact quiet_eq (HAR.out _)))
           go_wp2_with fail
           go_ret
           exact ⟨ret_int (by rw [cond_true, HXR.out]), HE.out _ (below_drewN HE2.out _)⟩))
end Go.Proofs.YtihmkaodjpgikaaGreat
