/- Contracts of chapter 2: the type of OpIf. -/
import Derived.Test.YtihmkaodjpgikaaGreatPt7
namespace Go.Proofs.YtihmkaodjpgikaaGreat
open Go.RowKit Go.BigFrame
/-- The state, laid out. -/
theorem act_eq {P : Program} {md : Region.Mode} {ops : Array Oper} {Q : Exit → Act → World → Prop} {S : World → Prop} {fuel : Nat} {listed : Array Bool} {a a' : Act} {w : World} (e : a = a') (h : wpAnyH P md ops Q S fuel listed a' w) : wpAnyH P md ops Q S fuel listed a w := by
  rw [e]; exact h
set_option maxHeartbeats 3200000 in
theorem typeOfIf_of {w0 : World} {L U : Nat} {A : Option Addr} {c : Nat} {V : Nat → Value} {ks : List Ex} (p : Pg) (r : Row w0 L U 3 A ks.length c (fun i j => exCell (nthX ks i) (V i) j)) (HV : Hid (∀ i, i < ks.length → ∃ A' c', V i = .slice A' (nthX ks i).kids.length c')) (HC : Hid (∀ i, i < ks.length → TyC p w0 L U (V i) (nthX ks i))) (pv gv bv : Value) (g b : List Int) (o n : Int) (w : World) (hS : Same L U w0 w) (hU : U ≤ w.heap.size) (sc : Sc w p pv gv bv g b) (hl : b.length + 3 + 3 * sumL one_ ks ≤ 1000000) :
    Calls Tryz.prog 83 #[pv, .agg #[gv, bv], .agg #[.int .i64 o, .int .i64 n, .slice A ks.length c]] w fun x w' => x = .returned (.int .i64 (ifV n (tyL p ks) (g ++ b))) ∧ Below w.heap.size w w' := by
  have hrl := r.le
  have hrc : c ≤ 9223372036854775807 := r.cap
  have hd0 := sc.p
  obtain ⟨dd, ff, rfl, hd, hf⟩ := hd0
  obtain ⟨B1, b1, rfl, l1, m1⟩ := hd.open_
  obtain ⟨B2, b2, rfl, l2, m2⟩ := hf.open_
  obtain ⟨A3, c3, rfl, l3, m3⟩ := sc.g.open_
  obtain ⟨A4, c4, rfl, l4, m4⟩ := sc.b.open_
  obtain ⟨W0, hW0⟩ : ∃ W0, W0 = ((w.alloc (.cells #[.slice B1 p.decls.length b1, .slice B2 p.funcs.length b2] 32)).alloc (.cells #[.slice A3 g.length c3, .slice A4 b.length c4] 97)).alloc (.cells #[.int .i64 o, .int .i64 n, .slice A ks.length c] 64) := ⟨_, rfl⟩
  have hB0 : Below w.heap.size w W0 := by rw [hW0]; exact (((Below.refl _ w).alloc (Nat.le_refl _) _).alloc (by simp) _).alloc (by simp; omega) _
  have hz0 : W0.heap.size = w.heap.size + 3 := by rw [hW0]; simp
  have x0 : W0.heap[w.heap.size]? = some (.cells #[.slice B1 p.decls.length b1, .slice B2 p.funcs.length b2] 32 (0, 0)) := by rw [hW0]; refine Eq.trans (Below.heap_alloc _ _ _ (by simp only [World.size_alloc]; omega)) ?_; refine Eq.trans (Below.heap_alloc _ _ _ (by simp only [World.size_alloc]; omega)) ?_; exact alloc_last _ _ _ (by simp)
  have x1 : W0.heap[w.heap.size + 1]? = some (.cells #[.slice A3 g.length c3, .slice A4 b.length c4] 97 (0, 0)) := by rw [hW0]; refine Eq.trans (Below.heap_alloc _ _ _ (by simp only [World.size_alloc]; omega)) ?_; exact alloc_last _ _ _ (by simp)
  have x2 : W0.heap[w.heap.size + 1 + 1]? = some (.cells #[.int .i64 o, .int .i64 n, .slice A ks.length c] 64 (0, 0)) := by rw [hW0]; exact alloc_last _ _ _ (by simp)
  have HX := Lib.hid fun W (hB : Below W0.heap.size W0 W) => (show (W.cell? ⟨w.heap.size, 0, none⟩ = some (.slice B1 p.decls.length b1) ∧ W.cell? ⟨w.heap.size, 1, none⟩ = some (.slice B2 p.funcs.length b2)) ∧ (W.cell? ⟨w.heap.size + 1, 0, none⟩ = some (.slice A3 g.length c3) ∧ W.cell? ⟨w.heap.size + 1, 1, none⟩ = some (.slice A4 b.length c4)) ∧ (W.cell? ⟨w.heap.size + 1 + 1, 0, none⟩ = some (.int .i64 o) ∧ W.cell? ⟨w.heap.size + 1 + 1, 1, none⟩ = some (.int .i64 n) ∧ W.cell? ⟨w.heap.size + 1 + 1, 2, none⟩ = some (.slice A ks.length c)) from ⟨cells2 ((hB.block (w.heap.size) (by omega)).trans x0), cells2 ((hB.block (w.heap.size + 1) (by omega)).trans x1), three ((hB.block (w.heap.size + 1 + 1) (by omega)).trans x2)⟩)
  have HSC := Lib.hid fun W (hB : Below W0.heap.size W0 W) => (sc.up hB0).up hB
  have HE := Lib.hid fun W (hB : Below W0.heap.size W0 W) => hB0.trans (hB.mono (show w.heap.size ≤ W0.heap.size by omega))
  have HS0 := Lib.hid fun W (hB : Below W0.heap.size W0 W) => hS.trans (Same.of_below (hB0.trans (hB.mono (show w.heap.size ≤ W0.heap.size by omega))) hU)
  have HZ := Lib.hid hz0
  clear sc hd hf hS x0 x1 x2
  by_cases c1 : n = 0
  · by_cases c2 : ks.length = 3
    · subst c1
      obtain ⟨t0, ht0⟩ : ∃ t, (nthX ks 0).ty p (g ++ b) = t := ⟨_, rfl⟩
      obtain ⟨t1, ht1⟩ : ∃ t, (nthX ks 1).ty p (g ++ b) = t := ⟨_, rfl⟩
      obtain ⟨t2, ht2⟩ : ∃ t, (nthX ks 2).ty p (g ++ b) = t := ⟨_, rfl⟩
      have k0 := kid_le (es := ks) (k := 0) (by omega)
      have k1 := kid_le (es := ks) (k := 1) (by omega)
      have k2 := kid_le (es := ks) (k := 2) (by omega)
      have HL : Hid (ifV 0 (tyL p ks) (g ++ b) = if t0 = 0 ∧ t2 = t1 then t1 else -1) := by
        show _ = _
        unfold ifV
        rw [length_tyL, c2, at_tyL p (show 0 < ks.length by omega), at_tyL p (show 1 < ks.length by omega), at_tyL p (show 2 < ks.length by omega), ht0, ht1, ht2]
        simp
      obtain ⟨⟨P0, P1⟩, ⟨S0, S1⟩, ⟨E0, E1, E2⟩⟩ := HX.out W0 (Below.refl _ _)
      obtain ⟨b0, o0, rfl, _, l0, e0, e1, e2⟩ := row_at (r.keep (HS0.out W0 (Below.refl _ _))) (show 1 < ks.length by omega)
      simp only [Nat.one_mul] at e0 e1 e2
      obtain ⟨A', c', hV⟩ := HV.out 1 (by omega)
      have C0 := (HC.out 1 (by omega)).at_ ((HS0.out W0 (Below.refl _ _)).trans (same_drew _ _ W0)) (show U ≤ W0.drew.heap.size by show U ≤ W0.heap.size; omega) (HSC.out W0 (Below.refl _ _)).drew (by omega) ht1
      rw [hV] at e2 C0
      have C0 := Lib.hid C0
      have C2 := Lib.hid c2
      have c2' : (ks.length : Int) = 3 := by omega
      have g0 : w.heap.size < W0.heap.size := by omega
      have g1 : w.heap.size + 1 < W0.heap.size := by omega
      have g2 : w.heap.size + 1 + 1 < W0.heap.size := by omega
      have g3 : b0 < W0.heap.size := by omega
      have i0 : (1 : Int) < (ks.length : Int) := by omega
      clear hV ht1 c2
      go_enter Tryz.func83, Tryz.ntmps83
      go_wp2_with fail
      rw [← hW0]
      clear hW0
      go_region_held3 (fun w' => w'.cell? ⟨w.heap.size, 0, none⟩ = some (.slice B1 p.decls.length b1) ∧ w'.cell? ⟨w.heap.size, 1, none⟩ = some (.slice B2 p.funcs.length b2) ∧ w'.cell? ⟨w.heap.size + 1, 0, none⟩ = some (.slice A3 g.length c3) ∧ w'.cell? ⟨w.heap.size + 1, 1, none⟩ = some (.slice A4 b.length c4) ∧ w'.cell? ⟨w.heap.size + 1 + 1, 0, none⟩ = some (.int .i64 o) ∧ w'.cell? ⟨w.heap.size + 1 + 1, 1, none⟩ = some (.int .i64 0) ∧ w'.cell? ⟨w.heap.size + 1 + 1, 2, none⟩ = some (.slice (some ⟨b0, o0, none⟩) ks.length c) ∧ w'.cell? ⟨b0, o0 + 3, none⟩ = some (.int .i64 (nthX ks 1).op) ∧ w'.cell? ⟨b0, o0 + 3 + 1, none⟩ = some (.int .i64 (nthX ks 1).num) ∧ w'.cell? ⟨b0, o0 + 3 + 2, none⟩ = some (.slice A' (nthX ks 1).kids.length c'))
        (first | go_keep | (exact ⟨(hB1.cell (by first | assumption | (simp; assumption))).trans (by first | assumption | (simp; assumption)), (hB1.cell (by first | assumption | (simp; assumption))).trans (by first | assumption | (simp; assumption)), (hB1.cell (by first | assumption | (simp; assumption))).trans (by first | assumption | (simp; assumption)), (hB1.cell (by first | assumption | (simp; assumption))).trans (by first | assumption | (simp; assumption)), (hB1.cell (by first | assumption | (simp; assumption))).trans (by first | assumption | (simp; assumption)), (hB1.cell (by first | assumption | (simp; assumption))).trans (by first | assumption | (simp; assumption)), (hB1.cell (by first | assumption | (simp; assumption))).trans (by first | assumption | (simp; assumption)), (hB1.cell (by first | assumption | (simp; assumption))).trans (by first | assumption | (simp; assumption)), (hB1.cell (by first | assumption | (simp; assumption))).trans (by first | assumption | (simp; assumption)), (hB1.cell (by first | assumption | (simp; assumption))).trans (by first | assumption | (simp; assumption))⟩))
        (first | (go_at_call 65; refine C0.out.mono ?_; rintro e w1 ⟨rfl, hB1⟩))
      have HB1 := Lib.hid ((Below.refl W0.heap.size W0).drew.trans (hB1.mono (Nat.le_refl _)))
      clear hB1 P0 P1 S0 S1 E0 E1 E2 e0 e1 e2 C0
      have z1 : W0.heap.size ≤ w1.heap.size := HB1.out.size
      obtain ⟨⟨P0, P1⟩, ⟨S0, S1⟩, ⟨E0, E1, E2⟩⟩ := HX.out w1 HB1.out
      have C2' := C2.out
      obtain ⟨b1', o1', eb, _, l1', e0, e1, e2⟩ := row_at (r.keep (HS0.out w1 HB1.out)) (show 0 < ks.length by omega)
      injection eb with eb
      injection eb with eb1 eb2 _
      subst eb1 eb2
      obtain ⟨b1', o1', eb, _, l1', f0, f1, f2⟩ := row_at (r.keep (HS0.out w1 HB1.out)) (show 2 < ks.length by omega)
      injection eb with eb
      injection eb with eb1 eb2 _
      subst eb1 eb2
      simp only [Nat.zero_mul, Nat.add_zero] at e0 e1 e2
      simp only [show 2 * 3 = 6 from rfl] at f0 f1 f2
      obtain ⟨A0, c0, hV0⟩ := HV.out 0 (by omega)
      obtain ⟨A2, c2, hV2⟩ := HV.out 2 (by omega)
      have C0 := (HC.out 0 (by omega)).at_ ((HS0.out w1 HB1.out).trans (same_drew _ _ w1)) (show U ≤ w1.drew.heap.size by show U ≤ w1.heap.size; omega) (HSC.out w1 HB1.out).drew (by omega) ht0
      have CK := Lib.hid fun (W : World) (hB : Below w1.heap.size w1 W) => (HC.out 2 (by omega)).at_ (HS0.out W (HB1.out.trans (hB.mono z1))) (by have := hB.size; omega) (HSC.out W (HB1.out.trans (hB.mono z1))) (by omega) ht2
      rw [hV0] at e2 C0
      rw [hV2] at f2 CK
      have C0 := Lib.hid C0
      have h0 : w.heap.size < w1.heap.size := by omega
      have h1 : w.heap.size + 1 < w1.heap.size := by omega
      have h2 : w.heap.size + 1 + 1 < w1.heap.size := by omega
      have h3 : b0 < w1.heap.size := by omega
      have i0 : (0 : Int) < (ks.length : Int) := by omega
      have i1 : (2 : Int) < (ks.length : Int) := by omega
      clear hV0 hV2 ht0 ht2 C2'
      by_cases ct : t0 = 0
      · have HLa := Lib.hid (show ifV 0 (tyL p ks) (g ++ b) = if t2 = t1 then t1 else -1 by rw [HL.out]; simp [ct])
        have cu0 : (t0 != 0) = false := by rw [ct]; rfl
        clear HL ct
        by_cases cu : t2 = t1
        · have HL := Lib.hid (show ifV 0 (tyL p ks) (g ++ b) = t1 by rw [HLa.out, if_pos cu])
          have cu2 : (t2 != t1) = false := by rw [cu]; simp
          clear HLa cu
          go_wp2_with fail
          go_region_held3 (fun w' => w'.cell? ⟨w.heap.size, 0, none⟩ = some (.slice B1 p.decls.length b1) ∧ w'.cell? ⟨w.heap.size, 1, none⟩ = some (.slice B2 p.funcs.length b2) ∧ w'.cell? ⟨w.heap.size + 1, 0, none⟩ = some (.slice A3 g.length c3) ∧ w'.cell? ⟨w.heap.size + 1, 1, none⟩ = some (.slice A4 b.length c4) ∧ w'.cell? ⟨w.heap.size + 1 + 1, 0, none⟩ = some (.int .i64 o) ∧ w'.cell? ⟨w.heap.size + 1 + 1, 1, none⟩ = some (.int .i64 0) ∧ w'.cell? ⟨w.heap.size + 1 + 1, 2, none⟩ = some (.slice (some ⟨b0, o0, none⟩) ks.length c) ∧ w'.cell? ⟨b0, o0, none⟩ = some (.int .i64 (nthX ks 0).op) ∧ w'.cell? ⟨b0, o0 + 1, none⟩ = some (.int .i64 (nthX ks 0).num) ∧ w'.cell? ⟨b0, o0 + 2, none⟩ = some (.slice A0 (nthX ks 0).kids.length c0) ∧ w'.cell? ⟨b0, o0 + 6, none⟩ = some (.int .i64 (nthX ks 2).op) ∧ w'.cell? ⟨b0, o0 + 6 + 1, none⟩ = some (.int .i64 (nthX ks 2).num) ∧ w'.cell? ⟨b0, o0 + 6 + 2, none⟩ = some (.slice A2 (nthX ks 2).kids.length c2))
            (first | go_keep | (exact ⟨(hB3.cell (by first | assumption | (simp; assumption))).trans (by first | assumption | (simp; assumption)), (hB3.cell (by first | assumption | (simp; assumption))).trans (by first | assumption | (simp; assumption)), (hB3.cell (by first | assumption | (simp; assumption))).trans (by first | assumption | (simp; assumption)), (hB3.cell (by first | assumption | (simp; assumption))).trans (by first | assumption | (simp; assumption)), (hB3.cell (by first | assumption | (simp; assumption))).trans (by first | assumption | (simp; assumption)), (hB3.cell (by first | assumption | (simp; assumption))).trans (by first | assumption | (simp; assumption)), (hB3.cell (by first | assumption | (simp; assumption))).trans (by first | assumption | (simp; assumption)), (hB3.cell (by first | assumption | (simp; assumption))).trans (by first | assumption | (simp; assumption)), (hB3.cell (by first | assumption | (simp; assumption))).trans (by first | assumption | (simp; assumption)), (hB3.cell (by first | assumption | (simp; assumption))).trans (by first | assumption | (simp; assumption)), (hB3.cell (by first | assumption | (simp; assumption))).trans (by first | assumption | (simp; assumption)), (hB3.cell (by first | assumption | (simp; assumption))).trans (by first | assumption | (simp; assumption)), (hB3.cell (by first | assumption | (simp; assumption))).trans (by first | assumption | (simp; assumption))⟩) | (exact ⟨(hB2.cell (by first | assumption | (simp; assumption))).trans (by first | assumption | (simp; assumption)), (hB2.cell (by first | assumption | (simp; assumption))).trans (by first | assumption | (simp; assumption)), (hB2.cell (by first | assumption | (simp; assumption))).trans (by first | assumption | (simp; assumption)), (hB2.cell (by first | assumption | (simp; assumption))).trans (by first | assumption | (simp; assumption)), (hB2.cell (by first | assumption | (simp; assumption))).trans (by first | assumption | (simp; assumption)), (hB2.cell (by first | assumption | (simp; assumption))).trans (by first | assumption | (simp; assumption)), (hB2.cell (by first | assumption | (simp; assumption))).trans (by first | assumption | (simp; assumption)), (hB2.cell (by first | assumption | (simp; assumption))).trans (by first | assumption | (simp; assumption)), (hB2.cell (by first | assumption | (simp; assumption))).trans (by first | assumption | (simp; assumption)), (hB2.cell (by first | assumption | (simp; assumption))).trans (by first | assumption | (simp; assumption)), (hB2.cell (by first | assumption | (simp; assumption))).trans (by first | assumption | (simp; assumption)), (hB2.cell (by first | assumption | (simp; assumption))).trans (by first | assumption | (simp; assumption)), (hB2.cell (by first | assumption | (simp; assumption))).trans (by first | assumption | (simp; assumption))⟩))
            (first | (go_at_call 65; refine (CK.out _ hB2).mono ?_; rintro e w3 ⟨rfl, hB3'⟩; have hB3 := hB2.trans (hB3'.mono hB2.size)) | (go_at_call 65; refine C0.out.mono ?_; rintro e w2 ⟨rfl, hB2'⟩; have hB2 := (Below.refl w1.heap.size w1).drew.trans (hB2'.mono (Nat.le_refl _))))
          have HB3 := Lib.hid (HE.out _ (HB1.out.trans (hB3.mono z1)))
          clear hB2 hB3 hB3' hB2'
          go_wp2_with fail
          go_ret
          exact ⟨ret_int (by rw [HL.out]), HB3.out⟩
        · have HL := Lib.hid (show ifV 0 (tyL p ks) (g ++ b) = -1 by rw [HLa.out, if_neg cu])
          have cu2 : (t2 != t1) = true := by rw [bne_iff_ne]; exact cu
          clear cu HLa
          go_wp2_with fail
          go_region_held3 (fun w' => w'.cell? ⟨w.heap.size, 0, none⟩ = some (.slice B1 p.decls.length b1) ∧ w'.cell? ⟨w.heap.size, 1, none⟩ = some (.slice B2 p.funcs.length b2) ∧ w'.cell? ⟨w.heap.size + 1, 0, none⟩ = some (.slice A3 g.length c3) ∧ w'.cell? ⟨w.heap.size + 1, 1, none⟩ = some (.slice A4 b.length c4) ∧ w'.cell? ⟨w.heap.size + 1 + 1, 0, none⟩ = some (.int .i64 o) ∧ w'.cell? ⟨w.heap.size + 1 + 1, 1, none⟩ = some (.int .i64 0) ∧ w'.cell? ⟨w.heap.size + 1 + 1, 2, none⟩ = some (.slice (some ⟨b0, o0, none⟩) ks.length c) ∧ w'.cell? ⟨b0, o0, none⟩ = some (.int .i64 (nthX ks 0).op) ∧ w'.cell? ⟨b0, o0 + 1, none⟩ = some (.int .i64 (nthX ks 0).num) ∧ w'.cell? ⟨b0, o0 + 2, none⟩ = some (.slice A0 (nthX ks 0).kids.length c0) ∧ w'.cell? ⟨b0, o0 + 6, none⟩ = some (.int .i64 (nthX ks 2).op) ∧ w'.cell? ⟨b0, o0 + 6 + 1, none⟩ = some (.int .i64 (nthX ks 2).num) ∧ w'.cell? ⟨b0, o0 + 6 + 2, none⟩ = some (.slice A2 (nthX ks 2).kids.length c2))
            (first | go_keep | (exact ⟨(hB3.cell (by first | assumption | (simp; assumption))).trans (by first | assumption | (simp; assumption)), (hB3.cell (by first | assumption | (simp; assumption))).trans (by first | assumption | (simp; assumption)), (hB3.cell (by first | assumption | (simp; assumption))).trans (by first | assumption | (simp; assumption)), (hB3.cell (by first | assumption | (simp; assumption))).trans (by first | assumption | (simp; assumption)), (hB3.cell (by first | assumption | (simp; assumption))).trans (by first | assumption | (simp; assumption)), (hB3.cell (by first | assumption | (simp; assumption))).trans (by first | assumption | (simp; assumption)), (hB3.cell (by first | assumption | (simp; assumption))).trans (by first | assumption | (simp; assumption)), (hB3.cell (by first | assumption | (simp; assumption))).trans (by first | assumption | (simp; assumption)), (hB3.cell (by first | assumption | (simp; assumption))).trans (by first | assumption | (simp; assumption)), (hB3.cell (by first | assumption | (simp; assumption))).trans (by first | assumption | (simp; assumption)), (hB3.cell (by first | assumption | (simp; assumption))).trans (by first | assumption | (simp; assumption)), (hB3.cell (by first | assumption | (simp; assumption))).trans (by first | assumption | (simp; assumption)), (hB3.cell (by first | assumption | (simp; assumption))).trans (by first | assumption | (simp; assumption))⟩) | (exact ⟨(hB2.cell (by first | assumption | (simp; assumption))).trans (by first | assumption | (simp; assumption)), (hB2.cell (by first | assumption | (simp; assumption))).trans (by first | assumption | (simp; assumption)), (hB2.cell (by first | assumption | (simp; assumption))).trans (by first | assumption | (simp; assumption)), (hB2.cell (by first | assumption | (simp; assumption))).trans (by first | assumption | (simp; assumption)), (hB2.cell (by first | assumption | (simp; assumption))).trans (by first | assumption | (simp; assumption)), (hB2.cell (by first | assumption | (simp; assumption))).trans (by first | assumption | (simp; assumption)), (hB2.cell (by first | assumption | (simp; assumption))).trans (by first | assumption | (simp; assumption)), (hB2.cell (by first | assumption | (simp; assumption))).trans (by first | assumption | (simp; assumption)), (hB2.cell (by first | assumption | (simp; assumption))).trans (by first | assumption | (simp; assumption)), (hB2.cell (by first | assumption | (simp; assumption))).trans (by first | assumption | (simp; assumption)), (hB2.cell (by first | assumption | (simp; assumption))).trans (by first | assumption | (simp; assumption)), (hB2.cell (by first | assumption | (simp; assumption))).trans (by first | assumption | (simp; assumption)), (hB2.cell (by first | assumption | (simp; assumption))).trans (by first | assumption | (simp; assumption))⟩))
            (first | (go_at_call 65; refine (CK.out _ hB2).mono ?_; rintro e w3 ⟨rfl, hB3'⟩; have hB3 := hB2.trans (hB3'.mono hB2.size)) | (go_at_call 65; refine C0.out.mono ?_; rintro e w2 ⟨rfl, hB2'⟩; have hB2 := (Below.refl w1.heap.size w1).drew.trans (hB2'.mono (Nat.le_refl _))))
          have HB3 := Lib.hid (HE.out _ (HB1.out.trans (hB3.mono z1)))
          clear hB2 hB3 hB3' hB2'
          go_wp2_with fail
          go_ret
          exact ⟨ret_int (by rw [HL.out]), HB3.out⟩
      · have HL := Lib.hid (show ifV 0 (tyL p ks) (g ++ b) = -1 by rw [HL.out, if_neg (fun e => ct e.1)])
        have cu0 : (t0 != 0) = true := by rw [bne_iff_ne]; exact ct
        clear ct
        go_wp2_with fail
        refine wp_region_noPanic ?_
        refine wp_region_held_drew (S := (fun w' => w'.cell? ⟨w.heap.size, 0, none⟩ = some (.slice B1 p.decls.length b1) ∧ w'.cell? ⟨w.heap.size, 1, none⟩ = some (.slice B2 p.funcs.length b2) ∧ w'.cell? ⟨w.heap.size + 1, 0, none⟩ = some (.slice A3 g.length c3) ∧ w'.cell? ⟨w.heap.size + 1, 1, none⟩ = some (.slice A4 b.length c4) ∧ w'.cell? ⟨w.heap.size + 1 + 1, 0, none⟩ = some (.int .i64 o) ∧ w'.cell? ⟨w.heap.size + 1 + 1, 1, none⟩ = some (.int .i64 0) ∧ w'.cell? ⟨w.heap.size + 1 + 1, 2, none⟩ = some (.slice (some ⟨b0, o0, none⟩) ks.length c) ∧ w'.cell? ⟨b0, o0, none⟩ = some (.int .i64 (nthX ks 0).op) ∧ w'.cell? ⟨b0, o0 + 1, none⟩ = some (.int .i64 (nthX ks 0).num) ∧ w'.cell? ⟨b0, o0 + 2, none⟩ = some (.slice A0 (nthX ks 0).kids.length c0) ∧ w'.cell? ⟨b0, o0 + 6, none⟩ = some (.int .i64 (nthX ks 2).op) ∧ w'.cell? ⟨b0, o0 + 6 + 1, none⟩ = some (.int .i64 (nthX ks 2).num) ∧ w'.cell? ⟨b0, o0 + 6 + 2, none⟩ = some (.slice A2 (nthX ks 2).kids.length c2))) (by kernel_rfl) ?_ (fun hHeld => ?_)
        · (first | go_keep | (exact ⟨(hB2.cell (by first | assumption | (simp; assumption))).trans (by first | assumption | (simp; assumption)), (hB2.cell (by first | assumption | (simp; assumption))).trans (by first | assumption | (simp; assumption)), (hB2.cell (by first | assumption | (simp; assumption))).trans (by first | assumption | (simp; assumption)), (hB2.cell (by first | assumption | (simp; assumption))).trans (by first | assumption | (simp; assumption)), (hB2.cell (by first | assumption | (simp; assumption))).trans (by first | assumption | (simp; assumption)), (hB2.cell (by first | assumption | (simp; assumption))).trans (by first | assumption | (simp; assumption)), (hB2.cell (by first | assumption | (simp; assumption))).trans (by first | assumption | (simp; assumption)), (hB2.cell (by first | assumption | (simp; assumption))).trans (by first | assumption | (simp; assumption)), (hB2.cell (by first | assumption | (simp; assumption))).trans (by first | assumption | (simp; assumption)), (hB2.cell (by first | assumption | (simp; assumption))).trans (by first | assumption | (simp; assumption)), (hB2.cell (by first | assumption | (simp; assumption))).trans (by first | assumption | (simp; assumption)), (hB2.cell (by first | assumption | (simp; assumption))).trans (by first | assumption | (simp; assumption)), (hB2.cell (by first | assumption | (simp; assumption))).trans (by first | assumption | (simp; assumption))⟩))
        refine wpAnyH_take (i := 0) (v := ?_) rfl (by kernel_rfl) (by kernel_rfl) (by kernel_rfl) (fun _ _ _ h => h) (Or.inl ⟨by rfl, ?_⟩) hHeld ?_
        rotate_left
        · (intro wq hSw; (try dsimp only at hSw); go_simp; try with_reducible rfl)
        refine act_eq (show Act.put _ (some 24) _ = _ from by simp only [Act.put, List.setIfInBounds_toArray, List.set_cons_zero, List.set_cons_succ]; exact rfl) ?_
        refine wpAnyH_take (i := 1) (v := ?_) rfl (by kernel_rfl) (by kernel_rfl) (by kernel_rfl) (fun _ _ _ h => h) (Or.inl ⟨by rfl, ?_⟩) hHeld ?_
        rotate_left
        · (intro wq hSw; (try dsimp only at hSw); go_simp; try with_reducible rfl)
        refine act_eq (show Act.put _ (some 25) _ = _ from by simp only [Act.put, List.setIfInBounds_toArray, List.set_cons_zero, List.set_cons_succ]; exact rfl) ?_
        refine wpAnyH_take (i := 2) (v := ?_) rfl (by kernel_rfl) (by kernel_rfl) (by kernel_rfl) (fun _ _ _ h => h) (Or.inl ⟨by rfl, ?_⟩) hHeld ?_
        rotate_left
        · (intro wq hSw; (try dsimp only at hSw); go_simp; try with_reducible rfl)
        refine act_eq (show Act.put _ (some 26) _ = _ from by simp only [Act.put, List.setIfInBounds_toArray, List.set_cons_zero, List.set_cons_succ]; exact rfl) ?_
        refine wpAnyH_take (i := 3) (v := ?_) rfl (by kernel_rfl) (by kernel_rfl) (by kernel_rfl) (fun _ _ _ h => h) (Or.inl ⟨by rfl, ?_⟩) hHeld ?_
        rotate_left
        · (intro wq hSw; (try dsimp only at hSw); go_simp; try with_reducible rfl)
        refine act_eq (show Act.put _ (some 27) _ = _ from by simp only [Act.put, List.setIfInBounds_toArray, List.set_cons_zero, List.set_cons_succ]; exact rfl) ?_
        refine wpAnyH_take (i := 4) (v := ?_) rfl (by kernel_rfl) (by kernel_rfl) (by kernel_rfl) (fun _ _ _ h => h) (Or.inl ⟨by rfl, ?_⟩) hHeld ?_
        rotate_left
        · (intro wq hSw; (try dsimp only at hSw); go_simp; try with_reducible rfl)
        refine act_eq (show Act.put _ (some 28) _ = _ from by simp only [Act.put, List.setIfInBounds_toArray, List.set_cons_zero, List.set_cons_succ]; exact rfl) ?_
        refine wpAnyH_take (i := 5) (v := ?_) rfl (by kernel_rfl) (by kernel_rfl) (by kernel_rfl) (fun _ _ _ h => h) (Or.inl ⟨by rfl, ?_⟩) hHeld ?_
        rotate_left
        · (intro wq hSw; (try dsimp only at hSw); go_simp; try with_reducible rfl)
        refine act_eq (show Act.put _ (some 29) _ = _ from by simp only [Act.put, List.setIfInBounds_toArray, List.set_cons_zero, List.set_cons_succ]; exact rfl) ?_
        refine wpAnyH_ready (rs := [6]) (by kernel_rfl) (by simp) ?_
        refine AllReadyH.cons rfl (fun K hK => ?_) AllReadyH.nil
        go_simp
        ((go_at_call 65; refine C0.out.mono ?_; rintro e w2 ⟨rfl, hB2'⟩; have hB2 := (Below.refl w1.heap.size w1).drew.trans (hB2'.mono (Nat.le_refl _))))
        refine hK.out _ _ ?_ (fun hHeld2 => ?_)
        · (first | go_keep | (exact ⟨(hB2.cell (by first | assumption | (simp; assumption))).trans (by first | assumption | (simp; assumption)), (hB2.cell (by first | assumption | (simp; assumption))).trans (by first | assumption | (simp; assumption)), (hB2.cell (by first | assumption | (simp; assumption))).trans (by first | assumption | (simp; assumption)), (hB2.cell (by first | assumption | (simp; assumption))).trans (by first | assumption | (simp; assumption)), (hB2.cell (by first | assumption | (simp; assumption))).trans (by first | assumption | (simp; assumption)), (hB2.cell (by first | assumption | (simp; assumption))).trans (by first | assumption | (simp; assumption)), (hB2.cell (by first | assumption | (simp; assumption))).trans (by first | assumption | (simp; assumption)), (hB2.cell (by first | assumption | (simp; assumption))).trans (by first | assumption | (simp; assumption)), (hB2.cell (by first | assumption | (simp; assumption))).trans (by first | assumption | (simp; assumption)), (hB2.cell (by first | assumption | (simp; assumption))).trans (by first | assumption | (simp; assumption)), (hB2.cell (by first | assumption | (simp; assumption))).trans (by first | assumption | (simp; assumption)), (hB2.cell (by first | assumption | (simp; assumption))).trans (by first | assumption | (simp; assumption)), (hB2.cell (by first | assumption | (simp; assumption))).trans (by first | assumption | (simp; assumption))⟩))
        clear hK K hHeld
        have hHeld := hHeld2
        clear hHeld2
        refine wpAnyH_take (i := 7) (v := ?_) rfl (by kernel_rfl) (by kernel_rfl) (by kernel_rfl) (fun _ _ _ h => h) (Or.inl ⟨by rfl, ?_⟩) hHeld ?_
        rotate_left
        · (intro wq hSw; (try dsimp only at hSw); go_simp; try with_reducible rfl)
        refine act_eq (show Act.put _ (some 31) _ = _ from by simp only [Act.put, List.setIfInBounds_toArray, List.set_cons_zero, List.set_cons_succ]; exact rfl) ?_
        refine wpAnyH_take (i := 8) (v := ?_) rfl (by kernel_rfl) (by kernel_rfl) (by kernel_rfl) (fun _ _ _ h => h) (Or.inl ⟨by rfl, ?_⟩) hHeld ?_
        rotate_left
        · (intro wq hSw; (try dsimp only at hSw); go_simp; try with_reducible rfl)
        refine act_eq (show Act.put _ (some 32) _ = _ from by simp only [Act.put, List.setIfInBounds_toArray, List.set_cons_zero, List.set_cons_succ]; exact rfl) ?_
        (try rw [cu0])
        refine wpAnyH_take (i := 9) rfl (by kernel_rfl) (by kernel_rfl) (by kernel_rfl) (fun _ _ _ h => h) (Or.inr ⟨by rfl, rfl⟩) hHeld ?_
        refine act_eq (show Act.put _ (some 33) _ = _ from by simp only [Act.put, List.setIfInBounds_toArray, List.set_cons_zero, List.set_cons_succ]; exact rfl) ?_
        refine wpAnyH_take (i := 10) rfl (by kernel_rfl) (by kernel_rfl) (by kernel_rfl) (fun _ _ _ h => h) (Or.inr ⟨by rfl, rfl⟩) hHeld ?_
        refine act_eq (show Act.put _ (some 34) _ = _ from by simp only [Act.put, List.setIfInBounds_toArray, List.set_cons_zero, List.set_cons_succ]; exact rfl) ?_
        refine wpAnyH_take (i := 11) rfl (by kernel_rfl) (by kernel_rfl) (by kernel_rfl) (fun _ _ _ h => h) (Or.inr ⟨by rfl, rfl⟩) hHeld ?_
        refine act_eq (show Act.put _ (some 35) _ = _ from by simp only [Act.put, List.setIfInBounds_toArray, List.set_cons_zero, List.set_cons_succ]; exact rfl) ?_
        refine wpAnyH_take (i := 12) rfl (by kernel_rfl) (by kernel_rfl) (by kernel_rfl) (fun _ _ _ h => h) (Or.inr ⟨by rfl, rfl⟩) hHeld ?_
        refine act_eq (show Act.put _ (some 36) _ = _ from by simp only [Act.put, List.setIfInBounds_toArray, List.set_cons_zero, List.set_cons_succ]; exact rfl) ?_
        refine wpAnyH_take (i := 13) rfl (by kernel_rfl) (by kernel_rfl) (by kernel_rfl) (fun _ _ _ h => h) (Or.inr ⟨by rfl, rfl⟩) hHeld ?_
        refine act_eq (show Act.put _ (some 37) _ = _ from by simp only [Act.put, List.setIfInBounds_toArray, List.set_cons_zero, List.set_cons_succ]; exact rfl) ?_
        refine wpAnyH_take (i := 14) rfl (by kernel_rfl) (by kernel_rfl) (by kernel_rfl) (fun _ _ _ h => h) (Or.inr ⟨by rfl, rfl⟩) hHeld ?_
        refine act_eq (show Act.put _ (some 38) _ = _ from by simp only [Act.put, List.setIfInBounds_toArray, List.set_cons_zero, List.set_cons_succ]; exact rfl) ?_
        refine wpAnyH_take (i := 15) rfl (by kernel_rfl) (by kernel_rfl) (by kernel_rfl) (fun _ _ _ h => h) (Or.inr ⟨by rfl, rfl⟩) hHeld ?_
        refine act_eq (show Act.put _ (some 39) _ = _ from by simp only [Act.put, List.setIfInBounds_toArray, List.set_cons_zero, List.set_cons_succ]; exact rfl) ?_
        refine wpAnyH_take (i := 16) rfl (by kernel_rfl) (by kernel_rfl) (by kernel_rfl) (fun _ _ _ h => h) (Or.inr ⟨by rfl, rfl⟩) hHeld ?_
        refine act_eq (show Act.put _ (some 40) _ = _ from by simp only [Act.put, List.setIfInBounds_toArray, List.set_cons_zero, List.set_cons_succ]; exact rfl) ?_
        refine wpAnyH_take (i := 17) rfl (by kernel_rfl) (by kernel_rfl) (by kernel_rfl) (fun _ _ _ h => h) (Or.inr ⟨by rfl, rfl⟩) hHeld ?_
        refine act_eq (show Act.put _ (some 41) _ = _ from by simp only [Act.put, List.setIfInBounds_toArray, List.set_cons_zero, List.set_cons_succ]; exact rfl) ?_
        refine wpAnyH_take (i := 18) (v := ?_) rfl (by kernel_rfl) (by kernel_rfl) (by kernel_rfl) (fun _ _ _ h => h) (Or.inl ⟨by rfl, ?_⟩) hHeld ?_
        rotate_left
        · (intro wq hSw; (try dsimp only at hSw); go_simp; try with_reducible rfl)
        refine act_eq (show Act.put _ (some 42) _ = _ from by simp only [Act.put, List.setIfInBounds_toArray, List.set_cons_zero, List.set_cons_succ]; exact rfl) ?_
        refine wpAnyH_done (by kernel_rfl) ?_ _
        refine NoPanic.normal ?_
        have HB3 := Lib.hid (HE.out _ (HB1.out.trans (hB2.mono z1)))
        clear hB2 hB2'
        go_wp2_with fail
        go_ret
        exact ⟨ret_int (by rw [HL.out]), HB3.out⟩
    · have c3' : ((ks.length : Int) == 3) = false := by rw [beq_eq_false_iff_ne]; omega
      rw [show ifV n (tyL p ks) (g ++ b) = -1 by unfold ifV; rw [length_tyL, if_neg (fun e => c2 e.2.1)]]
      subst c1
      clear c2
      go_enter Tryz.func83, Tryz.ntmps83
      go_wp2_with fail
      go_ret
      exact ⟨rfl, by rw [← hW0]; exact HE.out _ (Below.refl _ _)⟩
  · have c3' : (n == 0) = false := by rw [beq_eq_false_iff_ne]; exact c1
    rw [show ifV n (tyL p ks) (g ++ b) = -1 by unfold ifV; rw [if_neg (fun e => c1 e.1)]]
    clear c1
    go_enter Tryz.func83, Tryz.ntmps83
    go_wp2_with fail
    go_ret
    exact ⟨rfl, by rw [← hW0]; exact HE.out _ (Below.refl _ _)⟩
end Go.Proofs.YtihmkaodjpgikaaGreat
