/- Contracts of chapter 2, as the model types: bindings and choices. -/
import Derived.Test.YtihmkaodjpgikaaGreatPu4
import Derived.Test.YtihmkaodjpgikaaGreatPt5
namespace Go.Proofs.YtihmkaodjpgikaaGreat
open Go.RowKit Go.BigFrame
set_option maxRecDepth 100000 in
set_option maxHeartbeats 3200000 in
theorem typeOfLetS_of {w0 : World} {L U : Nat} {A : Option Addr} {c : Nat} {V : Nat → Value} {ks : List Ex} (p : Pg) (r : Row w0 L U 3 A ks.length c (fun i j => exCell (nthX ks i) (V i) j)) (HV : Hid (∀ i, i < ks.length → ∃ A' c', V i = .slice A' (nthX ks i).kids.length c')) (HC : Hid (∀ i, i < ks.length → TyS p w0 L U (V i) (nthX ks i))) (pv vv : Value) (vars : List Int) (n : Int) (w : World) (hS : Same L U w0 w) (hU : U ≤ w.heap.size) (sc : ScS w p pv vv vars) (hs : vars.length + 3 + 3 * sumL one_ ks ≤ 1900000) :
    Calls Tryz.prog 31 #[pv, vv, .agg #[.int .i64 13, .int .i64 n, .slice A ks.length c]] w fun x w' => x = .returned (.int .i64 (letV n (tyL p ks) vars)) ∧ Below w.heap.size w w' := by
  have hrl := r.le
  have hrc : c ≤ 9223372036854775807 := r.cap
  have hd0 := sc.p
  obtain ⟨dd, ff, rfl, hd, hf⟩ := hd0
  obtain ⟨B1, b1, rfl, l1, m1⟩ := hd.open_
  obtain ⟨B2, b2, rfl, l2, m2⟩ := hf.open_
  obtain ⟨A3, c3, rfl, l3, m3⟩ := sc.v.open_
  obtain ⟨W0, hW0⟩ : ∃ W0, W0 = (w.alloc (.cells #[.slice B1 p.decls.length b1, .slice B2 p.funcs.length b2] 32)).alloc (.cells #[.int .i64 13, .int .i64 n, .slice A ks.length c] 64) := ⟨_, rfl⟩
  have hB0 : Below w.heap.size w W0 := by rw [hW0]; exact ((Below.refl _ w).alloc (Nat.le_refl _) _).alloc (by simp) _
  have hz0 : W0.heap.size = w.heap.size + 2 := by rw [hW0]; simp
  have x0 : W0.heap[w.heap.size]? = some (.cells #[.slice B1 p.decls.length b1, .slice B2 p.funcs.length b2] 32 (0, 0)) := by rw [hW0]; refine Eq.trans (Below.heap_alloc _ _ _ (by simp only [World.size_alloc]; omega)) ?_; exact alloc_last _ _ _ (by simp)
  have x1 : W0.heap[w.heap.size + 1]? = some (.cells #[.int .i64 13, .int .i64 n, .slice A ks.length c] 64 (0, 0)) := by rw [hW0]; exact alloc_last _ _ _ (by simp)
  have HX := Lib.hid fun W (hB : Below W0.heap.size W0 W) => (show (W.cell? ⟨w.heap.size, 0, none⟩ = some (.slice B1 p.decls.length b1) ∧ W.cell? ⟨w.heap.size, 1, none⟩ = some (.slice B2 p.funcs.length b2)) ∧ (W.cell? ⟨w.heap.size + 1, 0, none⟩ = some (.int .i64 13) ∧ W.cell? ⟨w.heap.size + 1, 1, none⟩ = some (.int .i64 n) ∧ W.cell? ⟨w.heap.size + 1, 2, none⟩ = some (.slice A ks.length c)) from ⟨cells2 ((hB.block w.heap.size (by omega)).trans x0), three ((hB.block (w.heap.size + 1) (by omega)).trans x1)⟩)
  have HSC := Lib.hid fun W (hB : Below W0.heap.size W0 W) => (sc.up hB0).up hB
  have HE := Lib.hid fun W (hB : Below W0.heap.size W0 W) => hB0.trans (hB.mono (show w.heap.size ≤ W0.heap.size by omega))
  have HS0 := Lib.hid fun W (hB : Below W0.heap.size W0 W) => hS.trans (Same.of_below (hB0.trans (hB.mono (show w.heap.size ≤ W0.heap.size by omega))) hU)
  have HZ := Lib.hid hz0
  have HR := Lib.hid r
  clear sc hd hf hS x0 x1 r
  by_cases c1 : n = 0
  · by_cases c2 : ks.length = 2
    · subst c1
      obtain ⟨t0, ht0⟩ : ∃ t, (nthX ks 0).ty p vars = t := ⟨_, rfl⟩
      obtain ⟨t1, ht1⟩ : ∃ t, (nthX ks 1).ty p (vars ++ [t0]) = t := ⟨_, rfl⟩
      have k0 := kid_le (es := ks) (k := 0) (by omega)
      have k1 := kid_le (es := ks) (k := 1) (by omega)
      have HL : Hid (letV 0 (tyL p ks) vars = if 0 ≤ t0 then t1 else -1) := by
        show _ = _
        unfold letV
        rw [length_tyL, c2, at_tyL p (show 0 < ks.length by omega), at_tyL p (show 1 < ks.length by omega), ht0, ht1]
        simp
      rw [HL.out]
      obtain ⟨⟨P0, P1⟩, ⟨E0, E1, E2⟩⟩ := HX.out W0 (Below.refl _ _)
      obtain ⟨b0, o0, rfl, _, l0, e0, e1, e2⟩ := row_at (HR.out.keep (HS0.out W0 (Below.refl _ _))) (show 0 < ks.length by omega)
      simp only [Nat.zero_mul, Nat.add_zero] at e0 e1 e2
      obtain ⟨A', c', hV⟩ := HV.out 0 (by omega)
      have C0 := (HC.out 0 (by omega)).at_ ((HS0.out W0 (Below.refl _ _)).trans (same_drew _ _ W0)) (show U ≤ W0.drew.heap.size by show U ≤ W0.heap.size; omega) (HSC.out W0 (Below.refl _ _)).drew (by omega) ht0
      rw [hV] at e2 C0
      have C0 := Lib.hid C0
      have c2' : (ks.length : Int) = 2 := by omega
      have C2 := Lib.hid c2
      have g0 : w.heap.size < W0.heap.size := by omega
      have g1 : w.heap.size + 1 < W0.heap.size := by omega
      have g3 : b0 < W0.heap.size := by omega
      have i0 : (0 : Int) < (ks.length : Int) := by omega
      clear hV ht0 c2 hz0
      go_enter Tryz.func31, Tryz.ntmps31
      go_wp2_with fail
      rw [← hW0]
      clear hW0
      go_region_held3 (fun w' => w'.cell? ⟨w.heap.size, 0, none⟩ = some (.slice B1 p.decls.length b1) ∧ w'.cell? ⟨w.heap.size, 1, none⟩ = some (.slice B2 p.funcs.length b2) ∧ w'.cell? ⟨w.heap.size + 1, 0, none⟩ = some (.int .i64 13) ∧ w'.cell? ⟨w.heap.size + 1, 1, none⟩ = some (.int .i64 0) ∧ w'.cell? ⟨w.heap.size + 1, 2, none⟩ = some (.slice (some ⟨b0, o0, none⟩) ks.length c) ∧ w'.cell? ⟨b0, o0, none⟩ = some (.int .i64 (nthX ks 0).op) ∧ w'.cell? ⟨b0, o0 + 1, none⟩ = some (.int .i64 (nthX ks 0).num) ∧ w'.cell? ⟨b0, o0 + 2, none⟩ = some (.slice A' (nthX ks 0).kids.length c'))
        (first | go_keep | (exact ⟨(hB1.cell (by first | assumption | (simp; assumption))).trans (by first | assumption | (simp; assumption)), (hB1.cell (by first | assumption | (simp; assumption))).trans (by first | assumption | (simp; assumption)), (hB1.cell (by first | assumption | (simp; assumption))).trans (by first | assumption | (simp; assumption)), (hB1.cell (by first | assumption | (simp; assumption))).trans (by first | assumption | (simp; assumption)), (hB1.cell (by first | assumption | (simp; assumption))).trans (by first | assumption | (simp; assumption)), (hB1.cell (by first | assumption | (simp; assumption))).trans (by first | assumption | (simp; assumption)), (hB1.cell (by first | assumption | (simp; assumption))).trans (by first | assumption | (simp; assumption)), (hB1.cell (by first | assumption | (simp; assumption))).trans (by first | assumption | (simp; assumption))⟩))
        (first | (go_at_call 31; refine C0.out.mono ?_; rintro e w1 ⟨rfl, hB1⟩))
      have HB1 := Lib.hid ((Below.refl W0.heap.size W0).drew.trans (hB1.mono (Nat.le_refl _)))
      clear hB1 P0 P1 E0 E1 E2 e0 e1 e2 C0
      by_cases ct : t0 < 0
      · have ct' : ¬ 0 ≤ t0 := by omega
        have ct2 : ¬ t0 ≥ 0 := by omega
        go_wp2_with fail
        go_ret
        exact ⟨by first | rfl | (exact ret_int (by rw [if_neg (by omega)])), HE.out _ HB1.out⟩
      · have ct' : 0 ≤ t0 := by omega
        have z1 : W0.heap.size ≤ w1.heap.size := HB1.out.size
        obtain ⟨⟨P0, P1⟩, ⟨E0, E1, E2⟩⟩ := HX.out w1 HB1.out
        have C2' := C2.out
        have hz0 := HZ.out
        obtain ⟨b1', o1', eb, _, l1', e0, e1, e2⟩ := row_at (HR.out.keep (HS0.out w1 HB1.out)) (show 1 < ks.length by omega)
        injection eb with eb
        injection eb with eb1 eb2 _
        subst eb1 eb2
        simp only [Nat.one_mul] at e0 e1 e2
        obtain ⟨A', c', hV⟩ := HV.out 1 (by omega)
        have sc1 := HSC.out w1 HB1.out
        have sB : Below w1.heap.size w1 (w1.drew.alloc (.cells #[.int .i64 t0] 3)) := (Below.refl w1.heap.size w1).drew.alloc (Nat.le_refl _) _
        have CB := extend_any 0 _ _ _ vars [t0] (.slice A3 vars.length c3) (.slice (some ⟨w1.heap.size, 0, none⟩) 1 1) (w1.drew.alloc (.cells #[.int .i64 t0] 3)) (sc1.up sB).v (Nat.le_refl _) (ints_row (alloc_last w1.drew (.cells #[.int .i64 t0] 3) w1.heap.size rfl) (xs := [t0]) rfl (by simp [maxLen])) (by simp) (by omega) (by simp)
        have CK := Lib.hid fun (W : World) (u : Value) (hB : Below w1.heap.size w1 W) (hi : Ints W 0 W.heap.size u (vars ++ [t0])) => (HC.out 1 (by omega)).at_ (HS0.out W (HB1.out.trans (hB.mono z1))) (by have := hB.size; omega) (show ScS W p _ u (vars ++ [t0]) from ⟨(HSC.out W (HB1.out.trans (hB.mono z1))).p, hi⟩) (by simp; omega) ht1
        rw [hV] at e2 CK
        have CB := Lib.hid CB
        have SB := Lib.hid sB
        have SZ : Hid (w1.heap.size ≤ (w1.drew.alloc (.cells #[.int .i64 t0] 3)).heap.size) := by show _ ≤ _; simp
        have h0 : w.heap.size < w1.heap.size := by omega
        have h1 : w.heap.size + 1 < w1.heap.size := by omega
        have h3 : b0 < w1.heap.size := by omega
        have i1 : (1 : Int) < (ks.length : Int) := by omega
        clear hV ht1 C2' sc1 sB hz0
        go_wp2_with fail
        go_region_held3 (fun w' => w'.cell? ⟨w.heap.size, 0, none⟩ = some (.slice B1 p.decls.length b1) ∧ w'.cell? ⟨w.heap.size, 1, none⟩ = some (.slice B2 p.funcs.length b2) ∧ w'.cell? ⟨w.heap.size + 1, 0, none⟩ = some (.int .i64 13) ∧ w'.cell? ⟨w.heap.size + 1, 1, none⟩ = some (.int .i64 0) ∧ w'.cell? ⟨w.heap.size + 1, 2, none⟩ = some (.slice (some ⟨b0, o0, none⟩) ks.length c) ∧ w'.cell? ⟨b0, o0 + 3, none⟩ = some (.int .i64 (nthX ks 1).op) ∧ w'.cell? ⟨b0, o0 + 3 + 1, none⟩ = some (.int .i64 (nthX ks 1).num) ∧ w'.cell? ⟨b0, o0 + 3 + 2, none⟩ = some (.slice A' (nthX ks 1).kids.length c'))
          (first | go_keep | (exact ⟨(hB3.cell (by first | assumption | (simp; assumption))).trans (by first | assumption | (simp; assumption)), (hB3.cell (by first | assumption | (simp; assumption))).trans (by first | assumption | (simp; assumption)), (hB3.cell (by first | assumption | (simp; assumption))).trans (by first | assumption | (simp; assumption)), (hB3.cell (by first | assumption | (simp; assumption))).trans (by first | assumption | (simp; assumption)), (hB3.cell (by first | assumption | (simp; assumption))).trans (by first | assumption | (simp; assumption)), (hB3.cell (by first | assumption | (simp; assumption))).trans (by first | assumption | (simp; assumption)), (hB3.cell (by first | assumption | (simp; assumption))).trans (by first | assumption | (simp; assumption)), (hB3.cell (by first | assumption | (simp; assumption))).trans (by first | assumption | (simp; assumption))⟩) | (exact ⟨(hB2.cell (by first | assumption | (simp; assumption))).trans (by first | assumption | (simp; assumption)), (hB2.cell (by first | assumption | (simp; assumption))).trans (by first | assumption | (simp; assumption)), (hB2.cell (by first | assumption | (simp; assumption))).trans (by first | assumption | (simp; assumption)), (hB2.cell (by first | assumption | (simp; assumption))).trans (by first | assumption | (simp; assumption)), (hB2.cell (by first | assumption | (simp; assumption))).trans (by first | assumption | (simp; assumption)), (hB2.cell (by first | assumption | (simp; assumption))).trans (by first | assumption | (simp; assumption)), (hB2.cell (by first | assumption | (simp; assumption))).trans (by first | assumption | (simp; assumption)), (hB2.cell (by first | assumption | (simp; assumption))).trans (by first | assumption | (simp; assumption))⟩))
          (first | (go_at_call 54; refine CB.out.mono ?_; rintro e w2 ⟨u2, rfl, hB2', hI2⟩; have hB2 := SB.out.trans (hB2'.mono SZ.out)) | (go_at_call 31; refine (CK.out _ _ hB2 (hI2.wide (Nat.zero_le _) (Nat.le_refl _))).mono ?_; rintro e w3 ⟨rfl, hB3'⟩; have hB3 := hB2.trans (hB3'.mono hB2.size)))
        have HB3 := Lib.hid (HE.out _ (HB1.out.trans (hB3.mono z1)))
        clear hB2 hB3 hB3' hB2' hI2
        go_wp2_with fail
        go_ret
        exact ⟨by first | rfl | (exact ret_int (by rw [if_pos (by omega)])), HB3.out⟩
    · have c3 : ((ks.length : Int) == 2) = false := by rw [beq_eq_false_iff_ne]; omega
      rw [show letV n (tyL p ks) vars = -1 by unfold letV; rw [length_tyL, if_neg (fun e => c2 e.2.1)]]
      subst c1
      clear c2
      go_enter Tryz.func31, Tryz.ntmps31
      go_wp2_with fail
      go_ret
      exact ⟨rfl, by rw [← hW0]; exact HE.out _ (Below.refl _ _)⟩
  · have c3 : (n == 0) = false := by rw [beq_eq_false_iff_ne]; exact c1
    rw [show letV n (tyL p ks) vars = -1 by unfold letV; rw [if_neg (fun e => c1 e.1)]]
    clear c1
    go_enter Tryz.func31, Tryz.ntmps31
    go_wp2_with fail
    go_ret
    exact ⟨rfl, by rw [← hW0]; exact HE.out _ (Below.refl _ _)⟩
set_option maxRecDepth 100000 in
set_option maxHeartbeats 3200000 in
theorem typeOfIfS_of {w0 : World} {L U : Nat} {A : Option Addr} {c : Nat} {V : Nat → Value} {ks : List Ex} (p : Pg) (r : Row w0 L U 3 A ks.length c (fun i j => exCell (nthX ks i) (V i) j)) (HV : Hid (∀ i, i < ks.length → ∃ A' c', V i = .slice A' (nthX ks i).kids.length c')) (HC : Hid (∀ i, i < ks.length → TyS p w0 L U (V i) (nthX ks i))) (pv vv : Value) (vars : List Int) (n : Int) (w : World) (hS : Same L U w0 w) (hU : U ≤ w.heap.size) (sc : ScS w p pv vv vars) (hs : vars.length + 3 + 3 * sumL one_ ks ≤ 1900000) :
    Calls Tryz.prog 31 #[pv, vv, .agg #[.int .i64 7, .int .i64 n, .slice A ks.length c]] w fun x w' => x = .returned (.int .i64 (ifV n (tyL p ks) vars)) ∧ Below w.heap.size w w' := by
  have hrl := r.le
  have hrc : c ≤ 9223372036854775807 := r.cap
  have hd0 := sc.p
  obtain ⟨dd, ff, rfl, hd, hf⟩ := hd0
  obtain ⟨B1, b1, rfl, l1, m1⟩ := hd.open_
  obtain ⟨B2, b2, rfl, l2, m2⟩ := hf.open_
  obtain ⟨A3, c3, rfl, l3, m3⟩ := sc.v.open_
  obtain ⟨W0, hW0⟩ : ∃ W0, W0 = (w.alloc (.cells #[.slice B1 p.decls.length b1, .slice B2 p.funcs.length b2] 32)).alloc (.cells #[.int .i64 7, .int .i64 n, .slice A ks.length c] 64) := ⟨_, rfl⟩
  have hB0 : Below w.heap.size w W0 := by rw [hW0]; exact ((Below.refl _ w).alloc (Nat.le_refl _) _).alloc (by simp) _
  have hz0 : W0.heap.size = w.heap.size + 2 := by rw [hW0]; simp
  have x0 : W0.heap[w.heap.size]? = some (.cells #[.slice B1 p.decls.length b1, .slice B2 p.funcs.length b2] 32 (0, 0)) := by rw [hW0]; refine Eq.trans (Below.heap_alloc _ _ _ (by simp only [World.size_alloc]; omega)) ?_; exact alloc_last _ _ _ (by simp)
  have x1 : W0.heap[w.heap.size + 1]? = some (.cells #[.int .i64 7, .int .i64 n, .slice A ks.length c] 64 (0, 0)) := by rw [hW0]; exact alloc_last _ _ _ (by simp)
  have HX := Lib.hid fun W (hB : Below W0.heap.size W0 W) => (show (W.cell? ⟨w.heap.size, 0, none⟩ = some (.slice B1 p.decls.length b1) ∧ W.cell? ⟨w.heap.size, 1, none⟩ = some (.slice B2 p.funcs.length b2)) ∧ (W.cell? ⟨w.heap.size + 1, 0, none⟩ = some (.int .i64 7) ∧ W.cell? ⟨w.heap.size + 1, 1, none⟩ = some (.int .i64 n) ∧ W.cell? ⟨w.heap.size + 1, 2, none⟩ = some (.slice A ks.length c)) from ⟨cells2 ((hB.block w.heap.size (by omega)).trans x0), three ((hB.block (w.heap.size + 1) (by omega)).trans x1)⟩)
  have HSC := Lib.hid fun W (hB : Below W0.heap.size W0 W) => (sc.up hB0).up hB
  have HE := Lib.hid fun W (hB : Below W0.heap.size W0 W) => hB0.trans (hB.mono (show w.heap.size ≤ W0.heap.size by omega))
  have HS0 := Lib.hid fun W (hB : Below W0.heap.size W0 W) => hS.trans (Same.of_below (hB0.trans (hB.mono (show w.heap.size ≤ W0.heap.size by omega))) hU)
  have HZ := Lib.hid hz0
  have HR := Lib.hid r
  clear sc hd hf hS x0 x1 r
  by_cases c1 : n = 0
  · by_cases c2 : ks.length = 3
    · subst c1
      obtain ⟨t0, ht0⟩ : ∃ t, (nthX ks 0).ty p vars = t := ⟨_, rfl⟩
      obtain ⟨t1, ht1⟩ : ∃ t, (nthX ks 1).ty p vars = t := ⟨_, rfl⟩
      obtain ⟨t2, ht2⟩ : ∃ t, (nthX ks 2).ty p vars = t := ⟨_, rfl⟩
      have k0 := kid_le (es := ks) (k := 0) (by omega)
      have k1 := kid_le (es := ks) (k := 1) (by omega)
      have k2 := kid_le (es := ks) (k := 2) (by omega)
      obtain ⟨R, hR⟩ : ∃ R, ifV 0 (tyL p ks) vars = R := ⟨_, rfl⟩
      have HL : Hid (R = if t0 = 0 ∧ t2 = t1 then t1 else -1) := by
        show _ = _
        rw [← hR]
        unfold ifV
        rw [length_tyL, c2, at_tyL p (show 0 < ks.length by omega), at_tyL p (show 1 < ks.length by omega), at_tyL p (show 2 < ks.length by omega), ht0, ht1, ht2]
        simp
      rw [hR]
      clear hR
      obtain ⟨⟨P0, P1⟩, ⟨E0, E1, E2⟩⟩ := HX.out W0 (Below.refl _ _)
      obtain ⟨b0, o0, rfl, _, l0, e0, e1, e2⟩ := row_at (HR.out.keep (HS0.out W0 (Below.refl _ _))) (show 0 < ks.length by omega)
      simp only [Nat.zero_mul, Nat.add_zero] at e0 e1 e2
      obtain ⟨A', c', hV⟩ := HV.out 0 (by omega)
      have C0 := (HC.out 0 (by omega)).at_ ((HS0.out W0 (Below.refl _ _)).trans (same_drew _ _ W0)) (show U ≤ W0.drew.heap.size by show U ≤ W0.heap.size; omega) (HSC.out W0 (Below.refl _ _)).drew (by omega) ht0
      rw [hV] at e2 C0
      have C0 := Lib.hid C0
      have c2' : (ks.length : Int) = 3 := by omega
      have C2 := Lib.hid c2
      have g0 : w.heap.size < W0.heap.size := by omega
      have g1 : w.heap.size + 1 < W0.heap.size := by omega
      have g3 : b0 < W0.heap.size := by omega
      have i0 : (0 : Int) < (ks.length : Int) := by omega
      clear hV ht0 c2 hz0
      go_enter Tryz.func31, Tryz.ntmps31
      go_wp2_with fail
      rw [← hW0]
      clear hW0
      by_cases ct : t0 = 0
      · have cu : (t0 == 0) = true := by rw [ct]; rfl
        have HT := Lib.hid ct
        clear ct
        go_region_held3 (fun w' => w'.cell? ⟨w.heap.size, 0, none⟩ = some (.slice B1 p.decls.length b1) ∧ w'.cell? ⟨w.heap.size, 1, none⟩ = some (.slice B2 p.funcs.length b2) ∧ w'.cell? ⟨w.heap.size + 1, 0, none⟩ = some (.int .i64 7) ∧ w'.cell? ⟨w.heap.size + 1, 1, none⟩ = some (.int .i64 0) ∧ w'.cell? ⟨w.heap.size + 1, 2, none⟩ = some (.slice (some ⟨b0, o0, none⟩) ks.length c) ∧ w'.cell? ⟨b0, o0, none⟩ = some (.int .i64 (nthX ks 0).op) ∧ w'.cell? ⟨b0, o0 + 1, none⟩ = some (.int .i64 (nthX ks 0).num) ∧ w'.cell? ⟨b0, o0 + 2, none⟩ = some (.slice A' (nthX ks 0).kids.length c'))
          (first | go_keep | (exact ⟨(hB1.cell (by first | assumption | (simp; assumption))).trans (by first | assumption | (simp; assumption)), (hB1.cell (by first | assumption | (simp; assumption))).trans (by first | assumption | (simp; assumption)), (hB1.cell (by first | assumption | (simp; assumption))).trans (by first | assumption | (simp; assumption)), (hB1.cell (by first | assumption | (simp; assumption))).trans (by first | assumption | (simp; assumption)), (hB1.cell (by first | assumption | (simp; assumption))).trans (by first | assumption | (simp; assumption)), (hB1.cell (by first | assumption | (simp; assumption))).trans (by first | assumption | (simp; assumption)), (hB1.cell (by first | assumption | (simp; assumption))).trans (by first | assumption | (simp; assumption)), (hB1.cell (by first | assumption | (simp; assumption))).trans (by first | assumption | (simp; assumption))⟩))
          (first | (go_at_call 31; refine C0.out.mono ?_; rintro e w1 ⟨rfl, hB1⟩))
        have HB1 := Lib.hid ((Below.refl W0.heap.size W0).drew.trans (hB1.mono (Nat.le_refl _)))
        clear hB1 P0 P1 E0 E1 E2 e0 e1 e2 C0 cu
        have z1 : W0.heap.size ≤ w1.heap.size := HB1.out.size
        obtain ⟨⟨P0, P1⟩, ⟨E0, E1, E2⟩⟩ := HX.out w1 HB1.out
        have C2' := C2.out
        have hz0 := HZ.out
        obtain ⟨b1', o1', eb, _, l1', e0, e1, e2⟩ := row_at (HR.out.keep (HS0.out w1 HB1.out)) (show 1 < ks.length by omega)
        injection eb with eb
        injection eb with eb1 eb2 _
        subst eb1 eb2
        simp only [Nat.one_mul] at e0 e1 e2
        obtain ⟨A', c', hV⟩ := HV.out 1 (by omega)
        have C0 := (HC.out 1 (by omega)).at_ ((HS0.out w1 HB1.out).trans (same_drew _ _ w1)) (show U ≤ w1.drew.heap.size by show U ≤ w1.heap.size; omega) (HSC.out w1 HB1.out).drew (by omega) ht1
        rw [hV] at e2 C0
        have C0 := Lib.hid C0
        have h0 : w.heap.size < w1.heap.size := by omega
        have h1 : w.heap.size + 1 < w1.heap.size := by omega
        have h3 : b0 < w1.heap.size := by omega
        have i1 : (1 : Int) < (ks.length : Int) := by omega
        clear hV ht1 C2' hz0
        go_wp2_with fail
        go_region_held3 (fun w' => w'.cell? ⟨w.heap.size, 0, none⟩ = some (.slice B1 p.decls.length b1) ∧ w'.cell? ⟨w.heap.size, 1, none⟩ = some (.slice B2 p.funcs.length b2) ∧ w'.cell? ⟨w.heap.size + 1, 0, none⟩ = some (.int .i64 7) ∧ w'.cell? ⟨w.heap.size + 1, 1, none⟩ = some (.int .i64 0) ∧ w'.cell? ⟨w.heap.size + 1, 2, none⟩ = some (.slice (some ⟨b0, o0, none⟩) ks.length c) ∧ w'.cell? ⟨b0, o0 + 3, none⟩ = some (.int .i64 (nthX ks 1).op) ∧ w'.cell? ⟨b0, o0 + 3 + 1, none⟩ = some (.int .i64 (nthX ks 1).num) ∧ w'.cell? ⟨b0, o0 + 3 + 2, none⟩ = some (.slice A' (nthX ks 1).kids.length c'))
          (first | go_keep | (exact ⟨(hB2.cell (by first | assumption | (simp; assumption))).trans (by first | assumption | (simp; assumption)), (hB2.cell (by first | assumption | (simp; assumption))).trans (by first | assumption | (simp; assumption)), (hB2.cell (by first | assumption | (simp; assumption))).trans (by first | assumption | (simp; assumption)), (hB2.cell (by first | assumption | (simp; assumption))).trans (by first | assumption | (simp; assumption)), (hB2.cell (by first | assumption | (simp; assumption))).trans (by first | assumption | (simp; assumption)), (hB2.cell (by first | assumption | (simp; assumption))).trans (by first | assumption | (simp; assumption)), (hB2.cell (by first | assumption | (simp; assumption))).trans (by first | assumption | (simp; assumption)), (hB2.cell (by first | assumption | (simp; assumption))).trans (by first | assumption | (simp; assumption))⟩))
          (first | (go_at_call 31; refine C0.out.mono ?_; rintro e w2 ⟨rfl, hB2⟩))
        have HB2 := Lib.hid (HB1.out.trans (((Below.refl w1.heap.size w1).drew.trans (hB2.mono (Nat.le_refl _))).mono z1))
        clear hB2 P0 P1 E0 E1 E2 e0 e1 e2 C0
        have z2 : W0.heap.size ≤ w2.heap.size := HB2.out.size
        obtain ⟨⟨P0, P1⟩, ⟨E0, E1, E2⟩⟩ := HX.out w2 HB2.out
        have C2' := C2.out
        have hz0 := HZ.out
        obtain ⟨b1', o1', eb, _, l1', e0, e1, e2⟩ := row_at (HR.out.keep (HS0.out w2 HB2.out)) (show 2 < ks.length by omega)
        injection eb with eb
        injection eb with eb1 eb2 _
        subst eb1 eb2
        simp only [Nat.reduceMul] at e0 e1 e2
        obtain ⟨A', c', hV⟩ := HV.out 2 (by omega)
        have C0 := (HC.out 2 (by omega)).at_ ((HS0.out w2 HB2.out).trans (same_drew _ _ w2)) (show U ≤ w2.drew.heap.size by show U ≤ w2.heap.size; omega) (HSC.out w2 HB2.out).drew (by omega) ht2
        rw [hV] at e2 C0
        have C0 := Lib.hid C0
        have h0 : w.heap.size < w2.heap.size := by omega
        have h1 : w.heap.size + 1 < w2.heap.size := by omega
        have h3 : b0 < w2.heap.size := by omega
        have i2 : (2 : Int) < (ks.length : Int) := by omega
        clear hV ht2 C2' hz0
        by_cases ce : t2 = t1
        · have cf : (t2 == t1) = true := by rw [ce]; simp
          have HN := Lib.hid ce
          clear ce
          go_wp2_with fail
          go_region_held3 (fun w' => w'.cell? ⟨w.heap.size, 0, none⟩ = some (.slice B1 p.decls.length b1) ∧ w'.cell? ⟨w.heap.size, 1, none⟩ = some (.slice B2 p.funcs.length b2) ∧ w'.cell? ⟨w.heap.size + 1, 0, none⟩ = some (.int .i64 7) ∧ w'.cell? ⟨w.heap.size + 1, 1, none⟩ = some (.int .i64 0) ∧ w'.cell? ⟨w.heap.size + 1, 2, none⟩ = some (.slice (some ⟨b0, o0, none⟩) ks.length c) ∧ w'.cell? ⟨b0, o0 + 6, none⟩ = some (.int .i64 (nthX ks 2).op) ∧ w'.cell? ⟨b0, o0 + 6 + 1, none⟩ = some (.int .i64 (nthX ks 2).num) ∧ w'.cell? ⟨b0, o0 + 6 + 2, none⟩ = some (.slice A' (nthX ks 2).kids.length c'))
            (first | go_keep | (exact ⟨(hB3.cell (by first | assumption | (simp; assumption))).trans (by first | assumption | (simp; assumption)), (hB3.cell (by first | assumption | (simp; assumption))).trans (by first | assumption | (simp; assumption)), (hB3.cell (by first | assumption | (simp; assumption))).trans (by first | assumption | (simp; assumption)), (hB3.cell (by first | assumption | (simp; assumption))).trans (by first | assumption | (simp; assumption)), (hB3.cell (by first | assumption | (simp; assumption))).trans (by first | assumption | (simp; assumption)), (hB3.cell (by first | assumption | (simp; assumption))).trans (by first | assumption | (simp; assumption)), (hB3.cell (by first | assumption | (simp; assumption))).trans (by first | assumption | (simp; assumption)), (hB3.cell (by first | assumption | (simp; assumption))).trans (by first | assumption | (simp; assumption))⟩))
            (first | (go_at_call 31; refine C0.out.mono ?_; rintro e w3 ⟨rfl, hB3⟩))
          have HB3 := Lib.hid (HE.out _ (HB2.out.trans (((Below.refl w2.heap.size w2).drew.trans (hB3.mono (Nat.le_refl _))).mono z2)))
          clear hB3 P0 P1 E0 E1 E2 e0 e1 e2 C0
          go_wp2_with fail
          go_ret
          exact ⟨ret_int (by rw [HL.out, if_pos ⟨HT.out, HN.out⟩]), HB3.out⟩
        · have cf : (t2 == t1) = false := by rw [beq_eq_false_iff_ne]; exact ce
          have HN := Lib.hid ce
          clear ce
          go_wp2_with fail
          go_region_held3 (fun w' => w'.cell? ⟨w.heap.size, 0, none⟩ = some (.slice B1 p.decls.length b1) ∧ w'.cell? ⟨w.heap.size, 1, none⟩ = some (.slice B2 p.funcs.length b2) ∧ w'.cell? ⟨w.heap.size + 1, 0, none⟩ = some (.int .i64 7) ∧ w'.cell? ⟨w.heap.size + 1, 1, none⟩ = some (.int .i64 0) ∧ w'.cell? ⟨w.heap.size + 1, 2, none⟩ = some (.slice (some ⟨b0, o0, none⟩) ks.length c) ∧ w'.cell? ⟨b0, o0 + 6, none⟩ = some (.int .i64 (nthX ks 2).op) ∧ w'.cell? ⟨b0, o0 + 6 + 1, none⟩ = some (.int .i64 (nthX ks 2).num) ∧ w'.cell? ⟨b0, o0 + 6 + 2, none⟩ = some (.slice A' (nthX ks 2).kids.length c'))
            (first | go_keep | (exact ⟨(hB3.cell (by first | assumption | (simp; assumption))).trans (by first | assumption | (simp; assumption)), (hB3.cell (by first | assumption | (simp; assumption))).trans (by first | assumption | (simp; assumption)), (hB3.cell (by first | assumption | (simp; assumption))).trans (by first | assumption | (simp; assumption)), (hB3.cell (by first | assumption | (simp; assumption))).trans (by first | assumption | (simp; assumption)), (hB3.cell (by first | assumption | (simp; assumption))).trans (by first | assumption | (simp; assumption)), (hB3.cell (by first | assumption | (simp; assumption))).trans (by first | assumption | (simp; assumption)), (hB3.cell (by first | assumption | (simp; assumption))).trans (by first | assumption | (simp; assumption)), (hB3.cell (by first | assumption | (simp; assumption))).trans (by first | assumption | (simp; assumption))⟩))
            (first | (go_at_call 31; refine C0.out.mono ?_; rintro e w3 ⟨rfl, hB3⟩))
          have HB3 := Lib.hid (HE.out _ (HB2.out.trans (((Below.refl w2.heap.size w2).drew.trans (hB3.mono (Nat.le_refl _))).mono z2)))
          clear hB3 P0 P1 E0 E1 E2 e0 e1 e2 C0
          go_wp2_with fail
          go_ret
          exact ⟨ret_int (by rw [HL.out, if_neg (fun e => HN.out e.2)]), HB3.out⟩
      · have cu : (t0 == 0) = false := by rw [beq_eq_false_iff_ne]; exact ct
        have HT := Lib.hid ct
        clear ct
        go_region_held3 (fun w' => w'.cell? ⟨w.heap.size, 0, none⟩ = some (.slice B1 p.decls.length b1) ∧ w'.cell? ⟨w.heap.size, 1, none⟩ = some (.slice B2 p.funcs.length b2) ∧ w'.cell? ⟨w.heap.size + 1, 0, none⟩ = some (.int .i64 7) ∧ w'.cell? ⟨w.heap.size + 1, 1, none⟩ = some (.int .i64 0) ∧ w'.cell? ⟨w.heap.size + 1, 2, none⟩ = some (.slice (some ⟨b0, o0, none⟩) ks.length c) ∧ w'.cell? ⟨b0, o0, none⟩ = some (.int .i64 (nthX ks 0).op) ∧ w'.cell? ⟨b0, o0 + 1, none⟩ = some (.int .i64 (nthX ks 0).num) ∧ w'.cell? ⟨b0, o0 + 2, none⟩ = some (.slice A' (nthX ks 0).kids.length c'))
          (first | go_keep | (exact ⟨(hB1.cell (by first | assumption | (simp; assumption))).trans (by first | assumption | (simp; assumption)), (hB1.cell (by first | assumption | (simp; assumption))).trans (by first | assumption | (simp; assumption)), (hB1.cell (by first | assumption | (simp; assumption))).trans (by first | assumption | (simp; assumption)), (hB1.cell (by first | assumption | (simp; assumption))).trans (by first | assumption | (simp; assumption)), (hB1.cell (by first | assumption | (simp; assumption))).trans (by first | assumption | (simp; assumption)), (hB1.cell (by first | assumption | (simp; assumption))).trans (by first | assumption | (simp; assumption)), (hB1.cell (by first | assumption | (simp; assumption))).trans (by first | assumption | (simp; assumption)), (hB1.cell (by first | assumption | (simp; assumption))).trans (by first | assumption | (simp; assumption))⟩))
          (first | (go_at_call 31; refine C0.out.mono ?_; rintro e w1 ⟨rfl, hB1⟩))
        have HB1 := Lib.hid (HE.out _ ((Below.refl W0.heap.size W0).drew.trans (hB1.mono (Nat.le_refl _))))
        clear hB1 P0 P1 E0 E1 E2 e0 e1 e2 C0
        go_wp2_with fail
        go_ret
        exact ⟨ret_int (by rw [HL.out, if_neg (fun e => HT.out e.1)]), HB1.out⟩
    · have c3 : ((ks.length : Int) == 3) = false := by rw [beq_eq_false_iff_ne]; omega
      rw [show ifV n (tyL p ks) vars = -1 by unfold ifV; rw [length_tyL, if_neg (fun e => c2 e.2.1)]]
      obtain ⟨⟨P0, P1⟩, ⟨E0, E1, E2⟩⟩ := HX.out W0 (Below.refl _ _)
      have g0 : w.heap.size < W0.heap.size := by omega
      have g1 : w.heap.size + 1 < W0.heap.size := by omega
      subst c1
      clear c2 hz0
      go_enter Tryz.func31, Tryz.ntmps31
      go_wp2_with fail
      rw [← hW0]
      clear hW0
      go_quiet (fail)
      go_wp2_with fail
      go_ret
      exact ⟨rfl, HE.out _ (below_drewN (Below.refl _ _) _)⟩
  · have c3 : (n == 0) = false := by rw [beq_eq_false_iff_ne]; exact c1
    rw [show ifV n (tyL p ks) vars = -1 by unfold ifV; rw [if_neg (fun e => c1 e.1)]]
    obtain ⟨⟨P0, P1⟩, ⟨E0, E1, E2⟩⟩ := HX.out W0 (Below.refl _ _)
    have g0 : w.heap.size < W0.heap.size := by omega
    have g1 : w.heap.size + 1 < W0.heap.size := by omega
    clear c1 hz0
    go_enter Tryz.func31, Tryz.ntmps31
    go_wp2_with fail
    rw [← hW0]
    clear hW0
    go_quiet (fail)
    go_wp2_with fail
    go_ret
    exact ⟨rfl, HE.out _ (below_drewN (Below.refl _ _) _)⟩
end Go.Proofs.YtihmkaodjpgikaaGreat
