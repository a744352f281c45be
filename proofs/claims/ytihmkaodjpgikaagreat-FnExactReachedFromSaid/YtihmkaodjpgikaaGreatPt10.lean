/- Contracts of chapter 2: the typing of expressions. -/
import Derived.Test.YtihmkaodjpgikaaGreatPt9
namespace Go.Proofs.YtihmkaodjpgikaaGreat
open Go.RowKit Go.BigFrame
theorem op_cases (o : Int) : o = 12 ∨ o = 13 ∨ o = 7 ∨ o = 8 ∨ (¬ o = 12 ∧ ¬ o = 13 ∧ ¬ o = 7 ∧ ¬ o = 8) := by omega
set_option maxHeartbeats 1600000 in
theorem typeIn_any {w0 : World} {L U : Nat} {u : Value} {ks : List Ex} (h : Exs w0 L U u ks) (p : Pg) (hto : typesOk p.decls = true) : ∀ (o n : Int), n ≤ 9223372036854775807 → rngL ks → TyC p w0 L U u (.node o n ks) := by
  induction h with
  | mk A c V ks r hk ih =>
    intro o n hn hr pv gv bv g b w hS hU sc hl
    have hrl := r.le
    have hrc : c ≤ 9223372036854775807 := r.cap
    have hsum : (Ex.node o n ks).sum one_ = 1 + sumL one_ ks := by rw [sum_eq]; rfl
    rw [hsum] at hl
    show Calls Tryz.prog 65 #[pv, .agg #[gv, bv], .agg #[.int .i64 o, .int .i64 n, .slice A ks.length c]] w fun x w' => x = .returned (.int .i64 ((Ex.node o n ks).ty p (g ++ b))) ∧ Below w.heap.size w w'
    rw [ty_eq]
    show Calls Tryz.prog 65 #[pv, .agg #[gv, bv], .agg #[.int .i64 o, .int .i64 n, .slice A ks.length c]] w fun x w' => x = .returned (.int .i64 (tyN p o n (tyL p ks) (g ++ b))) ∧ Below w.heap.size w w'
    have HV : Hid (∀ i, i < ks.length → ∃ A' c', V i = .slice A' (nthX ks i).kids.length c') := fun i hi => by
      obtain ⟨A', c', e, _⟩ := (hk i hi).open_
      exact ⟨A', c', e⟩
    have HC : Hid (∀ i, i < ks.length → TyC p w0 L U (V i) (nthX ks i)) := fun i hi => by
      have h1 := (rng_eq _).1 (rngL_at hr hi)
      have h2 := ih i hi (nthX ks i).op (nthX ks i).num h1.1 h1.2
      have e : Ex.node (nthX ks i).op (nthX ks i).num (nthX ks i).kids = nthX ks i := by cases nthX ks i; rfl
      rw [e] at h2
      exact h2
    have hlen := sumL_length ks
    clear ih hk hsum
    have hd0 := sc.p
    obtain ⟨dd, ff, rfl, hd, hf⟩ := hd0
    obtain ⟨B1, b1, rfl, l1, m1⟩ := hd.open_
    obtain ⟨B2, b2, rfl, l2, m2⟩ := hf.open_
    obtain ⟨A3, c3, rfl, l3, m3⟩ := sc.g.open_
    obtain ⟨A4, c4, rfl, l4, m4⟩ := sc.b.open_
    obtain ⟨W0, hW0⟩ : ∃ W0, W0 = ((w.alloc (.cells #[.slice B1 p.decls.length b1, .slice B2 p.funcs.length b2] 32)).alloc (.cells #[.slice A3 g.length c3, .slice A4 b.length c4] 97)).alloc (.cells #[.int .i64 o, .int .i64 n, .slice A ks.length c] 64) := ⟨_, rfl⟩
    have hB0 : Below w.heap.size w W0 := by rw [hW0]; exact (((Below.refl _ w).alloc (Nat.le_refl _) _).alloc (by simp) _).alloc (by simp; omega) _
    have hz0 : W0.heap.size = w.heap.size + 3 := by rw [hW0]; simp
    have x0 : W0.heap[w.heap.size]? = some (.cells #[.slice B1 p.decls.length b1, .slice B2 p.funcs.length b2] 32 (0, 0)) := by rw [hW0]; refine Eq.trans (Below.heap_alloc _ _ _ (by simp only [World.size_alloc]; omega)) ?_; refine Eq.trans (Below.heap_alloc _ _ _ (by simp only [World.size_alloc]; omega)) ?_; exact alloc_last _ _ _ (by simp)
    have x1 : W0.heap[w.heap.size + 1]? = some (.cells #[.slice A3 g.length c3, .slice A4 b.length c4] 97 (0, 0)) := by rw [hW0]; refine Eq.trans (Below.heap_alloc _ _ _ (by simp only [World.size_alloc]; omega)) ?_; exact alloc_last _ _ _ (by simp)
    have x2 : W0.heap[w.heap.size + 1 + 1]? = some (.cells #[.int .i64 o, .int .i64 n, .slice A ks.length c] 64 (0, 0)) := by rw [hW0]; exact alloc_last _ _ _ (by simp)
    have HX := Lib.hid fun W (hB : Below W0.heap.size W0 W) => (show (W.cell? ⟨w.heap.size, 0, none⟩ = some (.slice B1 p.decls.length b1) ∧ W.cell? ⟨w.heap.size, 1, none⟩ = some (.slice B2 p.funcs.length b2)) ∧ (W.cell? ⟨w.heap.size + 1, 0, none⟩ = some (.slice A3 g.length c3) ∧ W.cell? ⟨w.heap.size + 1, 1, none⟩ = some (.slice A4 b.length c4)) ∧ (W.cell? ⟨w.heap.size + 1 + 1, 0, none⟩ = some (.int .i64 o) ∧ W.cell? ⟨w.heap.size + 1 + 1, 1, none⟩ = some (.int .i64 n) ∧ W.cell? ⟨w.heap.size + 1 + 1, 2, none⟩ = some (.slice A ks.length c)) from ⟨cells2 ((hB.block (w.heap.size) (by omega)).trans x0), cells2 ((hB.block (w.heap.size + 1) (by omega)).trans x1), three ((hB.block (w.heap.size + 1 + 1) (by omega)).trans x2)⟩)
    have HSC := Lib.hid fun W (hB : Below W0.heap.size W0 W) => (sc.up hB0).up hB
    have HE := Lib.hid fun W (hB : Below W0.heap.size W0 W) => hB0.trans (hB.mono (show w.heap.size ≤ W0.heap.size by omega))
    have HS0 := Lib.hid fun W (hB : Below W0.heap.size W0 W) => hS.trans (Same.of_below (hB0.trans (hB.mono (show w.heap.size ≤ W0.heap.size by omega))) hU)
    have HZ := Lib.hid hz0
    clear sc hd hf hS x0 x1 x2
    obtain ⟨⟨P0, P1⟩, ⟨S0, S1⟩, ⟨E0, E1, E2⟩⟩ := HX.out W0 (Below.refl _ _)
    rcases op_cases o with rfl | rfl | rfl | rfl | ⟨n12, n13, n7, n8⟩
    · by_cases h0 : ks.length = 0
      · rw [show tyN p 12 n (tyL p ks) (g ++ b) = varTy (g ++ b) n by unfold tyN; rw [if_pos rfl, length_tyL, if_pos h0]]
        have h1 : ¬ (0 : Int) < (ks.length : Int) := by omega
        have hk0 : ks = [] := List.eq_nil_of_length_eq_zero h0
        subst hk0
        simp only [List.length_nil] at hW0
        clear h0
        go_enter Tryz.func65, Tryz.ntmps65
        go_wp2_with fail
        rw [← hW0]
        clear hW0
        have sc0 := HSC.out W0 (Below.refl _ _)
        refine (typeOfVar_any n hn _ _ _ _ g b _ _ W0 sc0.g (Nat.le_refl _) sc0.b (Nat.le_refl _)).mono ?_
        rintro e w1 ⟨rfl, hB1⟩
        have HB1 := Lib.hid (HE.out _ hB1)
        clear hB1 sc0
        go_wp2_with fail
        go_ret
        exact ⟨rfl, HB1.out⟩
      · rw [show tyN p 12 n (tyL p ks) (g ++ b) = -1 by unfold tyN; rw [if_pos rfl, length_tyL, if_neg h0]]
        have h1 : (0 : Int) < (ks.length : Int) := by omega
        have h2 : 0 < ks.length := by omega
        have h3 : ¬ ks = [] := fun e => h0 (by rw [e]; rfl)
        clear h0
        go_enter Tryz.func65, Tryz.ntmps65
        go_wp2_with fail
        go_ret
        exact ⟨rfl, by rw [← hW0]; exact HE.out _ (Below.refl _ _)⟩
    · rw [show tyN p 13 n (tyL p ks) (g ++ b) = letV n (tyL p ks) (g ++ b) by unfold tyN; rw [if_neg (by omega), if_pos rfl]]
      go_enter Tryz.func65, Tryz.ntmps65
      go_wp2_with fail
      rw [← hW0]
      clear hW0
      refine (typeOfLet_of p r HV HC _ _ _ g b 13 n W0 (HS0.out W0 (Below.refl _ _)) (by have := HZ.out; omega) (HSC.out W0 (Below.refl _ _)) (by omega)).mono ?_
      rintro e w1 ⟨rfl, hB1⟩
      have HB1 := Lib.hid (HE.out _ hB1)
      clear hB1
      go_wp2_with fail
      go_ret
      exact ⟨rfl, HB1.out⟩
    · rw [show tyN p 7 n (tyL p ks) (g ++ b) = ifV n (tyL p ks) (g ++ b) by unfold tyN; rw [if_neg (by omega), if_neg (by omega), if_pos rfl]]
      go_enter Tryz.func65, Tryz.ntmps65
      go_wp2_with fail
      rw [← hW0]
      clear hW0
      refine (typeOfIf_of p r HV HC _ _ _ g b 7 n W0 (HS0.out W0 (Below.refl _ _)) (by have := HZ.out; omega) (HSC.out W0 (Below.refl _ _)) (by omega)).mono ?_
      rintro e w1 ⟨rfl, hB1⟩
      have HB1 := Lib.hid (HE.out _ hB1)
      clear hB1
      go_wp2_with fail
      go_ret
      exact ⟨rfl, HB1.out⟩
    · rw [show tyN p 8 n (tyL p ks) (g ++ b) = matchV p.decls n (tyL p ks) (g ++ b) by unfold tyN; rw [if_neg (by omega), if_neg (by omega), if_neg (by omega), if_pos rfl]]
      go_enter Tryz.func65, Tryz.ntmps65
      go_wp2_with fail
      rw [← hW0]
      clear hW0
      refine (typeOfMatch_of p r HV HC _ _ _ g b 8 n W0 (HS0.out W0 (Below.refl _ _)) (by have := HZ.out; omega) (HSC.out W0 (Below.refl _ _)) hto (by omega)).mono ?_
      rintro e w1 ⟨rfl, hB1⟩
      have HB1 := Lib.hid (HE.out _ hB1)
      clear hB1
      go_wp2_with fail
      go_ret
      exact ⟨rfl, HB1.out⟩
    · rw [show tyN p o n (tyL p ks) (g ++ b) = resV p o n (tysL p (g ++ b) ks) by unfold tyN; rw [if_neg n12, if_neg n13, if_neg n7, if_neg n8, tysL_eq]]
      have b12 : (o == 12) = false := by rw [beq_eq_false_iff_ne]; exact n12
      have b13 : (o == 13) = false := by rw [beq_eq_false_iff_ne]; exact n13
      have b7 : (o == 7) = false := by rw [beq_eq_false_iff_ne]; exact n7
      have b8 : (o == 8) = false := by rw [beq_eq_false_iff_ne]; exact n8
      have C0 := Lib.hid (typesIn_of p r HV HC _ _ _ g b W0.drew ((HS0.out W0 (Below.refl _ _)).trans (same_drew _ _ W0)) (by show U ≤ W0.heap.size; omega) (HSC.out W0 (Below.refl _ _)).drew (by omega) (by omega))
      have CR := Lib.hid fun (W : World) (uv : Value) (ts : List Int) (hB : Below W0.heap.size W0 W) (hi : Ints W W0.heap.size W.heap.size uv ts) => resultOf_any o n ts _ _ _ _ p _ uv W (HSC.out W hB).p (Nat.le_refl _) hto hi (Nat.le_refl _)
      have g0 : w.heap.size < W0.heap.size := by omega
      have g1 : w.heap.size + 1 < W0.heap.size := by omega
      have g2 : w.heap.size + 1 + 1 < W0.heap.size := by omega
      obtain ⟨ts, hts⟩ : ∃ ts, tysL p (g ++ b) ks = ts := ⟨_, rfl⟩
      rw [hts] at C0 ⊢
      clear n12 n13 n7 n8 hts
      go_enter Tryz.func65, Tryz.ntmps65
      go_wp2_with fail
      rw [← hW0]
      clear hW0
      go_region_held3 (fun w' => w'.cell? ⟨w.heap.size, 0, none⟩ = some (.slice B1 p.decls.length b1) ∧ w'.cell? ⟨w.heap.size, 1, none⟩ = some (.slice B2 p.funcs.length b2) ∧ w'.cell? ⟨w.heap.size + 1, 0, none⟩ = some (.slice A3 g.length c3) ∧ w'.cell? ⟨w.heap.size + 1, 1, none⟩ = some (.slice A4 b.length c4) ∧ w'.cell? ⟨w.heap.size + 1 + 1, 0, none⟩ = some (.int .i64 o) ∧ w'.cell? ⟨w.heap.size + 1 + 1, 1, none⟩ = some (.int .i64 n) ∧ w'.cell? ⟨w.heap.size + 1 + 1, 2, none⟩ = some (.slice A ks.length c))
        (first | go_keep | (exact ⟨(hB2.cell (by first | assumption | (simp; assumption))).trans (by first | assumption | (simp; assumption)), (hB2.cell (by first | assumption | (simp; assumption))).trans (by first | assumption | (simp; assumption)), (hB2.cell (by first | assumption | (simp; assumption))).trans (by first | assumption | (simp; assumption)), (hB2.cell (by first | assumption | (simp; assumption))).trans (by first | assumption | (simp; assumption)), (hB2.cell (by first | assumption | (simp; assumption))).trans (by first | assumption | (simp; assumption)), (hB2.cell (by first | assumption | (simp; assumption))).trans (by first | assumption | (simp; assumption)), (hB2.cell (by first | assumption | (simp; assumption))).trans (by first | assumption | (simp; assumption))⟩) | (exact ⟨(hB1.cell (by first | assumption | (simp; assumption))).trans (by first | assumption | (simp; assumption)), (hB1.cell (by first | assumption | (simp; assumption))).trans (by first | assumption | (simp; assumption)), (hB1.cell (by first | assumption | (simp; assumption))).trans (by first | assumption | (simp; assumption)), (hB1.cell (by first | assumption | (simp; assumption))).trans (by first | assumption | (simp; assumption)), (hB1.cell (by first | assumption | (simp; assumption))).trans (by first | assumption | (simp; assumption)), (hB1.cell (by first | assumption | (simp; assumption))).trans (by first | assumption | (simp; assumption)), (hB1.cell (by first | assumption | (simp; assumption))).trans (by first | assumption | (simp; assumption))⟩))
        (first | (go_at_call 85; refine (CR.out _ _ _ ((Below.refl W0.heap.size W0).drew.trans (hB1.mono (Nat.le_refl _))) hI1).mono ?_; rintro e w2 ⟨rfl, hB2'⟩; have hB2 := hB1.trans (hB2'.mono hB1.size)) | (go_at_call 86; refine C0.out.mono ?_; rintro e w1 ⟨u1, rfl, hB1, hI1⟩))
      have HB2 := Lib.hid (HE.out _ ((Below.refl W0.heap.size W0).drew.trans (hB2.mono (Nat.le_refl _))))
      clear hB1 hB2 hB2' hI1 P0 P1 S0 S1 E0 E1 E2 C0 CR
      go_wp2_with fail
      go_ret
      exact ⟨rfl, HB2.out⟩
end Go.Proofs.YtihmkaodjpgikaaGreat
