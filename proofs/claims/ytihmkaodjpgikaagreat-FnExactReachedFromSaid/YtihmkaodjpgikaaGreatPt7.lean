/- Contracts of chapter 2: the types of OpLet and OpIf. -/
import Derived.Test.YtihmkaodjpgikaaGreatPt6
namespace Go.Proofs.YtihmkaodjpgikaaGreat
open Go.RowKit Go.BigFrame
/-- A kid's typing, told at a world above. -/
theorem TyC.at_ {p : Pg} {w0 : World} {L U : Nat} {u : Value} {e : Ex} (h : TyC p w0 L U u e) {pv gv bv : Value} {g b : List Int} {w : World} (hS : Same L U w0 w) (hU : U ≤ w.heap.size) (sc : Sc w p pv gv bv g b) (hl : b.length + 3 * e.sum one_ ≤ 1000000) {t : Int} (ht : e.ty p (g ++ b) = t) :
    Calls Tryz.prog 65 #[pv, .agg #[gv, bv], .agg #[.int .i64 e.op, .int .i64 e.num, u]] w fun x w' => x = .returned (.int .i64 t) ∧ Below w.heap.size w w' := by
  subst ht; exact h pv gv bv g b w hS hU sc hl
theorem Sc.drew {w : World} {p : Pg} {pv gv bv : Value} {g b : List Int} (h : Sc w p pv gv bv g b) : Sc w.drew p pv gv bv g b := h.up (Below.refl _ _).drew
set_option maxHeartbeats 3200000 in
theorem typeOfLet_of {w0 : World} {L U : Nat} {A : Option Addr} {c : Nat} {V : Nat → Value} {ks : List Ex} (p : Pg) (r : Row w0 L U 3 A ks.length c (fun i j => exCell (nthX ks i) (V i) j)) (HV : Hid (∀ i, i < ks.length → ∃ A' c', V i = .slice A' (nthX ks i).kids.length c')) (HC : Hid (∀ i, i < ks.length → TyC p w0 L U (V i) (nthX ks i))) (pv gv bv : Value) (g b : List Int) (o n : Int) (w : World) (hS : Same L U w0 w) (hU : U ≤ w.heap.size) (sc : Sc w p pv gv bv g b) (hl : b.length + 3 + 3 * sumL one_ ks ≤ 1000000) :
    Calls Tryz.prog 82 #[pv, .agg #[gv, bv], .agg #[.int .i64 o, .int .i64 n, .slice A ks.length c]] w fun x w' => x = .returned (.int .i64 (letV n (tyL p ks) (g ++ b))) ∧ Below w.heap.size w w' := by
  have hrl := r.le
  have hrc : c ≤ 9223372036854775807 := r.cap
  have hd0 := sc.p
  obtain ⟨dd, ff, rfl, hd, hf⟩ := hd0
  obtain ⟨B1, b1, rfl, l1, m1⟩ := hd.open_
  obtain ⟨B2, b2, rfl, l2, m2⟩ := hf.open_
  obtain ⟨A3, c3, rfl, l3, m3⟩ := sc.g.open_
  obtain ⟨A4, c4, rfl, l4, m4⟩ := sc.b.open_
  obtain ⟨W0, hW0⟩ : ∃ W0, W0 = ((w.alloc (.cells #[.slice B1 p.decls.length b1, .slice B2 p.funcs.length b2] 32)).alloc (.cells #[.slice A3 g.length c3, .slice A4 b.length c4] 97)).alloc (.cells #[.int .i64 o, .int .i64 n, .slice A ks.length c] 64) := ⟨_, rfl⟩
  have hB0 : Below w.heap.size w W0 := by rw [hW0]; exact (((Below.refl _ w).alloc (Nat.le_refl _) _).alloc (by simp) _).alloc (by simp; omega) _
  have hz0 : W0.heap.size = w.heap.size + 3 := by rw [hW0]; simp
  have x0 : W0.heap[w.heap.size]? = some (.cells #[.slice B1 p.decls.length b1, .slice B2 p.funcs.length b2] 32 (0, 0)) := by rw [hW0]; refine Eq.trans (Below.heap_alloc _ _ _ (by simp only [World.size_alloc]; omega)) ?_; refine Eq.trans (Below.heap_alloc _ _ _ (by simp only [World.size_alloc]; omega)) ?_; exact alloc_last _ _ _ (by simp)
  have x1 : W0.heap[w.heap.size + 1]? = some (.cells #[.slice A3 g.length c3, .slice A4 b.length c4] 97 (0, 0)) := by rw [hW0]; refine Eq.trans (Below.heap_alloc _ _ _ (by simp only [World.size_alloc]; omega)) ?_; exact alloc_last _ _ _ (by simp)
  have x2 : W0.heap[w.heap.size + 1 + 1]? = some (.cells #[.int .i64 o, .int .i64 n, .slice A ks.length c] 64 (0, 0)) := by rw [hW0]; exact alloc_last _ _ _ (by simp)
  have HX := Lib.hid fun W (hB : Below W0.heap.size W0 W) => (show (W.cell? ⟨w.heap.size, 0, none⟩ = some (.slice B1 p.decls.length b1) ∧ W.cell? ⟨w.heap.size, 1, none⟩ = some (.slice B2 p.funcs.length b2)) ∧ (W.cell? ⟨w.heap.size + 1, 0, none⟩ = some (.slice A3 g.length c3) ∧ W.cell? ⟨w.heap.size + 1, 1, none⟩ = some (.slice A4 b.length c4)) ∧ (W.cell? ⟨w.heap.size + 1 + 1, 0, none⟩ = some (.int .i64 o) ∧ W.cell? ⟨w.heap.size + 1 + 1, 1, none⟩ = some (.int .i64 n) ∧ W.cell? ⟨w.heap.size + 1 + 1, 2, none⟩ = some (.slice A ks.length c)) from ⟨cells2 ((hB.block (w.heap.size) (by omega)).trans x0), cells2 ((hB.block (w.heap.size + 1) (by omega)).trans x1), three ((hB.block (w.heap.size + 1 + 1) (by omega)).trans x2)⟩)
  have HSC := Lib.hid fun W (hB : Below W0.heap.size W0 W) => (sc.up hB0).up hB
  have HE := Lib.hid fun W (hB : Below W0.heap.size W0 W) => hB0.trans (hB.mono (show w.heap.size ≤ W0.heap.size by omega))
  have HS0 := Lib.hid fun W (hB : Below W0.heap.size W0 W) => hS.trans (Same.of_below (hB0.trans (hB.mono (show w.heap.size ≤ W0.heap.size by omega))) hU)
  have HZ := Lib.hid hz0
  clear sc hd hf hS x0 x1 x2
  by_cases c1 : n = 0
  · by_cases c2 : ks.length = 2
    · subst c1
      obtain ⟨t0, ht0⟩ : ∃ t, (nthX ks 0).ty p (g ++ b) = t := ⟨_, rfl⟩
      obtain ⟨t1, ht1⟩ : ∃ t, (nthX ks 1).ty p (g ++ (b ++ [t0])) = t := ⟨_, rfl⟩
      have k0 := kid_le (es := ks) (k := 0) (by omega)
      have k1 := kid_le (es := ks) (k := 1) (by omega)
      have HL : Hid (letV 0 (tyL p ks) (g ++ b) = if 0 ≤ t0 then t1 else -1) := by
        show _ = _
        unfold letV
        rw [length_tyL, c2, at_tyL p (show 0 < ks.length by omega), at_tyL p (show 1 < ks.length by omega), ht0, List.append_assoc, ht1]
        simp
      rw [HL.out]
      obtain ⟨⟨P0, P1⟩, ⟨S0, S1⟩, ⟨E0, E1, E2⟩⟩ := HX.out W0 (Below.refl _ _)
      obtain ⟨b0, o0, rfl, _, l0, e0, e1, e2⟩ := row_at (r.keep (HS0.out W0 (Below.refl _ _))) (show 0 < ks.length by omega)
      simp only [Nat.zero_mul, Nat.add_zero] at e0 e1 e2
      obtain ⟨A', c', hV⟩ := HV.out 0 (by omega)
      have C0 := (HC.out 0 (by omega)).at_ ((HS0.out W0 (Below.refl _ _)).trans (same_drew _ _ W0)) (show U ≤ W0.drew.heap.size by show U ≤ W0.heap.size; omega) (HSC.out W0 (Below.refl _ _)).drew (by omega) ht0
      rw [hV] at e2 C0
      have C0 := Lib.hid C0
      have c2' : (ks.length : Int) = 2 := by omega
      have C2 := Lib.hid c2
      have g0 : w.heap.size < W0.heap.size := by omega
      have g1 : w.heap.size + 1 < W0.heap.size := by omega
      have g2 : w.heap.size + 1 + 1 < W0.heap.size := by omega
      have g3 : b0 < W0.heap.size := by omega
      have i0 : (0 : Int) < (ks.length : Int) := by omega
      clear hV ht0 c2
      go_enter Tryz.func82, Tryz.ntmps82
      go_wp2_with fail
      rw [← hW0]
      clear hW0
      go_region_held3 (fun w' => w'.cell? ⟨w.heap.size, 0, none⟩ = some (.slice B1 p.decls.length b1) ∧ w'.cell? ⟨w.heap.size, 1, none⟩ = some (.slice B2 p.funcs.length b2) ∧ w'.cell? ⟨w.heap.size + 1, 0, none⟩ = some (.slice A3 g.length c3) ∧ w'.cell? ⟨w.heap.size + 1, 1, none⟩ = some (.slice A4 b.length c4) ∧ w'.cell? ⟨w.heap.size + 1 + 1, 0, none⟩ = some (.int .i64 o) ∧ w'.cell? ⟨w.heap.size + 1 + 1, 1, none⟩ = some (.int .i64 0) ∧ w'.cell? ⟨w.heap.size + 1 + 1, 2, none⟩ = some (.slice (some ⟨b0, o0, none⟩) ks.length c) ∧ w'.cell? ⟨b0, o0, none⟩ = some (.int .i64 (nthX ks 0).op) ∧ w'.cell? ⟨b0, o0 + 1, none⟩ = some (.int .i64 (nthX ks 0).num) ∧ w'.cell? ⟨b0, o0 + 2, none⟩ = some (.slice A' (nthX ks 0).kids.length c'))
        (first | go_keep | (exact ⟨(hB1.cell (by first | assumption | (simp; assumption))).trans (by first | assumption | (simp; assumption)), (hB1.cell (by first | assumption | (simp; assumption))).trans (by first | assumption | (simp; assumption)), (hB1.cell (by first | assumption | (simp; assumption))).trans (by first | assumption | (simp; assumption)), (hB1.cell (by first | assumption | (simp; assumption))).trans (by first | assumption | (simp; assumption)), (hB1.cell (by first | assumption | (simp; assumption))).trans (by first | assumption | (simp; assumption)), (hB1.cell (by first | assumption | (simp; assumption))).trans (by first | assumption | (simp; assumption)), (hB1.cell (by first | assumption | (simp; assumption))).trans (by first | assumption | (simp; assumption)), (hB1.cell (by first | assumption | (simp; assumption))).trans (by first | assumption | (simp; assumption)), (hB1.cell (by first | assumption | (simp; assumption))).trans (by first | assumption | (simp; assumption)), (hB1.cell (by first | assumption | (simp; assumption))).trans (by first | assumption | (simp; assumption))⟩))
        (first | (go_at_call 65; refine C0.out.mono ?_; rintro e w1 ⟨rfl, hB1⟩))
      have HB1 := Lib.hid ((Below.refl W0.heap.size W0).drew.trans (hB1.mono (Nat.le_refl _)))
      clear hB1 P0 P1 S0 S1 E0 E1 E2 e0 e1 e2 C0
      by_cases ct : t0 < 0
      · go_wp2_with fail
        go_ret
        exact ⟨by first | rfl | (exact ret_int (by rw [if_neg (by omega)])), HE.out _ HB1.out⟩
      · have z1 : W0.heap.size ≤ w1.heap.size := HB1.out.size
        obtain ⟨⟨P0, P1⟩, ⟨S0, S1⟩, ⟨E0, E1, E2⟩⟩ := HX.out w1 HB1.out
        have C2' := C2.out
        obtain ⟨b1', o1', eb, _, l1', e0, e1, e2⟩ := row_at (r.keep (HS0.out w1 HB1.out)) (show 1 < ks.length by omega)
        injection eb with eb
        injection eb with eb1 eb2 _
        subst eb1 eb2
        simp only [Nat.one_mul] at e0 e1 e2
        obtain ⟨A'', c'', hV⟩ := HV.out 1 (by omega)
        have sc1 := HSC.out w1 HB1.out
        have sB : Below w1.heap.size w1 (w1.drew.alloc (.cells #[.int .i64 t0] 3)) := (Below.refl w1.heap.size w1).drew.alloc (Nat.le_refl _) _
        have CB := bind_any 0 _ _ _ b [t0] (.slice A3 g.length c3) (.slice A4 b.length c4) (.slice (some ⟨w1.heap.size, 0, none⟩) 1 1) (w1.drew.alloc (.cells #[.int .i64 t0] 3)) ⟨_, _, _, rfl⟩ (sc1.up sB).b (Nat.le_refl _) (ints_row (alloc_last w1.drew (.cells #[.int .i64 t0] 3) w1.heap.size rfl) (xs := [t0]) rfl (by simp [maxLen])) (by simp) (by simp; omega)
        have CK := Lib.hid fun (W : World) (bv : Value) (hB : Below w1.heap.size w1 W) (hi : Ints W 0 W.heap.size bv (b ++ [t0])) => (HC.out 1 (by omega)).at_ (HS0.out W (HB1.out.trans (hB.mono z1))) (by have := hB.size; omega) (show Sc W p _ _ bv g (b ++ [t0]) from ⟨((sc1.up hB)).p, ((sc1.up hB)).g, hi⟩) (by simp; omega) ht1
        rw [hV] at e2 CK
        have CB := Lib.hid CB
        have SB := Lib.hid sB
        have SZ : Hid (w1.heap.size ≤ (w1.drew.alloc (.cells #[.int .i64 t0] 3)).heap.size) := by show _ ≤ _; simp
        have h0 : w.heap.size < w1.heap.size := by omega
        have h1 : w.heap.size + 1 < w1.heap.size := by omega
        have h2 : w.heap.size + 1 + 1 < w1.heap.size := by omega
        have h3 : b0 < w1.heap.size := by omega
        have i1 : (1 : Int) < (ks.length : Int) := by omega
        clear hV ht1 C2' sc1 sB
        go_wp2_with fail
        go_region_held3 (fun w' => w'.cell? ⟨w.heap.size, 0, none⟩ = some (.slice B1 p.decls.length b1) ∧ w'.cell? ⟨w.heap.size, 1, none⟩ = some (.slice B2 p.funcs.length b2) ∧ w'.cell? ⟨w.heap.size + 1, 0, none⟩ = some (.slice A3 g.length c3) ∧ w'.cell? ⟨w.heap.size + 1, 1, none⟩ = some (.slice A4 b.length c4) ∧ w'.cell? ⟨w.heap.size + 1 + 1, 0, none⟩ = some (.int .i64 o) ∧ w'.cell? ⟨w.heap.size + 1 + 1, 1, none⟩ = some (.int .i64 0) ∧ w'.cell? ⟨w.heap.size + 1 + 1, 2, none⟩ = some (.slice (some ⟨b0, o0, none⟩) ks.length c) ∧ w'.cell? ⟨b0, o0 + 3, none⟩ = some (.int .i64 (nthX ks 1).op) ∧ w'.cell? ⟨b0, o0 + 3 + 1, none⟩ = some (.int .i64 (nthX ks 1).num) ∧ w'.cell? ⟨b0, o0 + 3 + 2, none⟩ = some (.slice A'' (nthX ks 1).kids.length c''))
          (first | go_keep | (exact ⟨(hB3.cell (by first | assumption | (simp; assumption))).trans (by first | assumption | (simp; assumption)), (hB3.cell (by first | assumption | (simp; assumption))).trans (by first | assumption | (simp; assumption)), (hB3.cell (by first | assumption | (simp; assumption))).trans (by first | assumption | (simp; assumption)), (hB3.cell (by first | assumption | (simp; assumption))).trans (by first | assumption | (simp; assumption)), (hB3.cell (by first | assumption | (simp; assumption))).trans (by first | assumption | (simp; assumption)), (hB3.cell (by first | assumption | (simp; assumption))).trans (by first | assumption | (simp; assumption)), (hB3.cell (by first | assumption | (simp; assumption))).trans (by first | assumption | (simp; assumption)), (hB3.cell (by first | assumption | (simp; assumption))).trans (by first | assumption | (simp; assumption)), (hB3.cell (by first | assumption | (simp; assumption))).trans (by first | assumption | (simp; assumption)), (hB3.cell (by first | assumption | (simp; assumption))).trans (by first | assumption | (simp; assumption))⟩) | (exact ⟨(hB2.cell (by first | assumption | (simp; assumption))).trans (by first | assumption | (simp; assumption)), (hB2.cell (by first | assumption | (simp; assumption))).trans (by first | assumption | (simp; assumption)), (hB2.cell (by first | assumption | (simp; assumption))).trans (by first | assumption | (simp; assumption)), (hB2.cell (by first | assumption | (simp; assumption))).trans (by first | assumption | (simp; assumption)), (hB2.cell (by first | assumption | (simp; assumption))).trans (by first | assumption | (simp; assumption)), (hB2.cell (by first | assumption | (simp; assumption))).trans (by first | assumption | (simp; assumption)), (hB2.cell (by first | assumption | (simp; assumption))).trans (by first | assumption | (simp; assumption)), (hB2.cell (by first | assumption | (simp; assumption))).trans (by first | assumption | (simp; assumption)), (hB2.cell (by first | assumption | (simp; assumption))).trans (by first | assumption | (simp; assumption)), (hB2.cell (by first | assumption | (simp; assumption))).trans (by first | assumption | (simp; assumption))⟩))
          (first | (go_at_call 91; refine CB.out.mono ?_; rintro e w2 ⟨u2, rfl, hB2', hI2⟩; have hB2 := SB.out.trans (hB2'.mono SZ.out)) | (go_at_call 65; refine (CK.out _ _ hB2 (hI2.wide (Nat.zero_le _) (Nat.le_refl _))).mono ?_; rintro e w3 ⟨rfl, hB3'⟩; have hB3 := hB2.trans (hB3'.mono hB2.size)))
        have HB3 := Lib.hid (HE.out _ (HB1.out.trans (hB3.mono z1)))
        clear hB2 hB3 hB3' hB2' hI2
        go_wp2_with fail
        go_ret
        exact ⟨by first | rfl | (exact ret_int (by rw [if_pos (by omega)])), HB3.out⟩
    · have c3' : ((ks.length : Int) == 2) = false := by rw [beq_eq_false_iff_ne]; omega
      rw [show letV n (tyL p ks) (g ++ b) = -1 by unfold letV; rw [length_tyL, if_neg (fun e => c2 e.2.1)]]
      subst c1
      clear c2
      go_enter Tryz.func82, Tryz.ntmps82
      go_wp2_with fail
      go_ret
      exact ⟨rfl, by rw [← hW0]; exact HE.out _ (Below.refl _ _)⟩
  · have c3' : (n == 0) = false := by rw [beq_eq_false_iff_ne]; exact c1
    rw [show letV n (tyL p ks) (g ++ b) = -1 by unfold letV; rw [if_neg (fun e => c1 e.1)]]
    clear c1
    go_enter Tryz.func82, Tryz.ntmps82
    go_wp2_with fail
    go_ret
    exact ⟨rfl, by rw [← hW0]; exact HE.out _ (Below.refl _ _)⟩
end Go.Proofs.YtihmkaodjpgikaaGreat
