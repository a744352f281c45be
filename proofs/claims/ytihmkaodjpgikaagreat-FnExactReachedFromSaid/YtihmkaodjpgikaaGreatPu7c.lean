/- Contracts of chapter 2, as the model types: applications. -/
import Derived.Test.YtihmkaodjpgikaaGreatPu4
import Derived.Test.YtihmkaodjpgikaaGreatPt9
namespace Go.Proofs.YtihmkaodjpgikaaGreat
open Go.RowKit Go.BigFrame
theorem sIsArrow_is (r : Bool) (t : Int) (L U : Nat) (ds : List Dec) (v : Value) (w : World) (hv : Decs w L U v ds) (hr : isAr ds t = r) :
    Calls Tryz.prog 57 #[v, .int .i64 t] w fun e w' => e = .returned (.bool r) ∧ w = w' := by
  subst hr
  obtain ⟨B, d, rfl, hl, hd⟩ := hv.open_
  have hI := inRange_any t 1 (ds.length : Int) w
  rcases isAr_cases ds t with ⟨h, e⟩ | ⟨h, h2, e⟩ | ⟨k, rfl, hk, e⟩
  · rw [e]
    rw [decide_eq_false (show ¬ (1 : Int) ≤ t by omega), Bool.false_and] at hI
    have HI := Lib.hid hI
    clear hI e
    go_enter Tryz.func57, Tryz.ntmps57
    go_wp2_with (go_at_call 16; refine HI.out.mono ?_; rintro e w' ⟨rfl, rfl⟩)
    go_ret
    exact ⟨rfl, rfl⟩
  · rw [e]
    rw [decide_eq_false h2, Bool.and_false] at hI
    have HI := Lib.hid hI
    clear hI e
    go_enter Tryz.func57, Tryz.ntmps57
    go_wp2_with (go_at_call 16; refine HI.out.mono ?_; rintro e w' ⟨rfl, rfl⟩)
    go_ret
    exact ⟨rfl, rfl⟩
  · rw [e]
    rw [decide_eq_true (show (1 : Int) ≤ (k : Int) + 1 by omega), decide_eq_true (show (k : Int) + 1 ≤ (ds.length : Int) by omega)] at hI
    obtain ⟨b, o, A', c', rfl, _, _, hc0, hc1, hc2, hu⟩ := hv.at_ hk
    have HI := Lib.hid hI
    have s1 : IntKind.i64.wrap ((k : Int) + 1 - 1) = (k : Int) := by rw [IntWalk.i64_in _ (by omega)]; omega
    have j0 : (0 : Int) ≤ (k : Int) := by omega
    have j1 : (k : Int) < (ds.length : Int) := by omega
    clear hu hv e hI
    by_cases h0 : (nthD ds k).cons.length = 0
    · rw [decide_eq_true h0]
      rw [h0] at hc2
      clear h0
      go_enter Tryz.func57, Tryz.ntmps57
      go_wp2_with (go_at_call 16; refine HI.out.mono ?_; rintro e w' ⟨rfl, rfl⟩)
      go_ret
      exact ⟨rfl, rfl⟩
    · rw [decide_eq_false h0]
      have h1 : (((nthD ds k).cons.length : Int) == 0) = false := by rw [beq_eq_false_iff_ne]; omega
      go_enter Tryz.func57, Tryz.ntmps57
      go_wp2_with (go_at_call 16; refine HI.out.mono ?_; rintro e w' ⟨rfl, rfl⟩)
      go_ret
      exact ⟨rfl, rfl⟩
set_option maxRecDepth 100000 in
set_option maxHeartbeats 3200000 in
theorem typeOfApplyS_of {w0 : World} {L U : Nat} {A : Option Addr} {c : Nat} {V : Nat → Value} {ks : List Ex} (p : Pg) (r : Row w0 L U 3 A ks.length c (fun i j => exCell (nthX ks i) (V i) j)) (HV : Hid (∀ i, i < ks.length → ∃ A' c', V i = .slice A' (nthX ks i).kids.length c')) (HC : Hid (∀ i, i < ks.length → TyS p w0 L U (V i) (nthX ks i))) (pv vv : Value) (vars : List Int) (n : Int) (w : World) (hS : Same L U w0 w) (hU : U ≤ w.heap.size) (sc : ScS w p pv vv vars) (hs : vars.length + 3 + 3 * sumL one_ ks ≤ 1900000) :
    Calls Tryz.prog 31 #[pv, vv, .agg #[.int .i64 11, .int .i64 n, .slice A ks.length c]] w fun x w' => x = .returned (.int .i64 ((if n = 0 then applyRes p.decls (tysL p vars ks) else -1))) ∧ Below w.heap.size w w' := by
  have hrl := r.le
  have hrc : c ≤ 9223372036854775807 := r.cap
  have hd0 := sc.p
  obtain ⟨dd, ff, rfl, hd, hf⟩ := hd0
  obtain ⟨B1, b1, rfl, l1, m1⟩ := hd.open_
  obtain ⟨B2, b2, rfl, l2, m2⟩ := hf.open_
  obtain ⟨A3, c3, rfl, l3, m3⟩ := sc.v.open_
  obtain ⟨W0, hW0⟩ : ∃ W0, W0 = (w.alloc (.cells #[.slice B1 p.decls.length b1, .slice B2 p.funcs.length b2] 32)).alloc (.cells #[.int .i64 11, .int .i64 n, .slice A ks.length c] 64) := ⟨_, rfl⟩
  have hB0 : Below w.heap.size w W0 := by rw [hW0]; exact ((Below.refl _ w).alloc (Nat.le_refl _) _).alloc (by simp) _
  have hz0 : W0.heap.size = w.heap.size + 2 := by rw [hW0]; simp
  have x0 : W0.heap[w.heap.size]? = some (.cells #[.slice B1 p.decls.length b1, .slice B2 p.funcs.length b2] 32 (0, 0)) := by rw [hW0]; refine Eq.trans (Below.heap_alloc _ _ _ (by simp only [World.size_alloc]; omega)) ?_; exact alloc_last _ _ _ (by simp)
  have x1 : W0.heap[w.heap.size + 1]? = some (.cells #[.int .i64 11, .int .i64 n, .slice A ks.length c] 64 (0, 0)) := by rw [hW0]; exact alloc_last _ _ _ (by simp)
  have HX := Lib.hid fun W (hB : Below W0.heap.size W0 W) => (show (W.cell? ⟨w.heap.size, 0, none⟩ = some (.slice B1 p.decls.length b1) ∧ W.cell? ⟨w.heap.size, 1, none⟩ = some (.slice B2 p.funcs.length b2)) ∧ (W.cell? ⟨w.heap.size + 1, 0, none⟩ = some (.int .i64 11) ∧ W.cell? ⟨w.heap.size + 1, 1, none⟩ = some (.int .i64 n) ∧ W.cell? ⟨w.heap.size + 1, 2, none⟩ = some (.slice A ks.length c)) from ⟨cells2 ((hB.block w.heap.size (by omega)).trans x0), three ((hB.block (w.heap.size + 1) (by omega)).trans x1)⟩)
  have HSC := Lib.hid fun W (hB : Below W0.heap.size W0 W) => (sc.up hB0).up hB
  have HE := Lib.hid fun W (hB : Below W0.heap.size W0 W) => hB0.trans (hB.mono (show w.heap.size ≤ W0.heap.size by omega))
  have HS0 := Lib.hid fun W (hB : Below W0.heap.size W0 W) => hS.trans (Same.of_below (hB0.trans (hB.mono (show w.heap.size ≤ W0.heap.size by omega))) hU)
  have HZ := Lib.hid hz0
  have HR := Lib.hid r
  have HDc := Lib.hid fun W (hB : Below W0.heap.size W0 W) => ((HSC.out W hB).p).two.1
  clear sc hd hf hS x0 x1 r
  by_cases c1 : n = 0
  · rw [if_pos c1]
    by_cases c2 : ks.length = 2
    · subst c1
      obtain ⟨t0, ht0⟩ : ∃ t, (nthX ks 0).ty p vars = t := ⟨_, rfl⟩
      obtain ⟨t1, ht1⟩ : ∃ t, (nthX ks 1).ty p vars = t := ⟨_, rfl⟩
      have k0 := kid_le (es := ks) (k := 0) (by omega)
      have k1 := kid_le (es := ks) (k := 1) (by omega)
      obtain ⟨R, hR⟩ : ∃ R, applyRes p.decls (tysL p vars ks) = R := ⟨_, rfl⟩
      have HL : Hid (R = if isAr p.decls t0 = true ∧ t1 = (nthD p.decls (t0 - 1).toNat).frm then (nthD p.decls (t0 - 1).toNat).to else -1) := by
        show _ = _
        rw [← hR]
        unfold applyRes
        rw [length_tysL, c2, nth_tysL p vars (show 0 < ks.length by omega), nth_tysL p vars (show 1 < ks.length by omega), ht0, ht1]
        simp
      rw [hR]
      clear hR
      obtain ⟨⟨P0, P1⟩, ⟨E0, E1, E2⟩⟩ := HX.out W0 (Below.refl _ _)
      obtain ⟨b0, o0, rfl, _, l0, e0, e1, e2⟩ := row_at (HR.out.keep (HS0.out W0 (Below.refl _ _))) (show 0 < ks.length by omega)
      simp only [Nat.zero_mul, Nat.add_zero] at e0 e1 e2
      obtain ⟨A', c', hV⟩ := HV.out 0 (by omega)
      have C0 := (HC.out 0 (by omega)).at_ ((HS0.out W0 (Below.refl _ _)).trans (same_drew _ _ W0)) (show U ≤ W0.drew.heap.size by show U ≤ W0.heap.size; omega) (HSC.out W0 (Below.refl _ _)).drew (by omega) ht0
      rw [hV] at e2 C0
      have C0 := Lib.hid C0
      have c2' : (ks.length : Int) = 2 := by omega
      have C2 := Lib.hid c2
      have g0 : w.heap.size < W0.heap.size := by omega
      have g1 : w.heap.size + 1 < W0.heap.size := by omega
      have g3 : b0 < W0.heap.size := by omega
      have i0 : (0 : Int) < (ks.length : Int) := by omega
      clear hV ht0 c2 hz0
      go_enter Tryz.func31, Tryz.ntmps31
      go_wp2_with fail
      rw [← hW0]
      clear hW0
      go_region_held3 (fun w' => w'.cell? ⟨w.heap.size, 0, none⟩ = some (.slice B1 p.decls.length b1) ∧ w'.cell? ⟨w.heap.size, 1, none⟩ = some (.slice B2 p.funcs.length b2) ∧ w'.cell? ⟨w.heap.size + 1, 0, none⟩ = some (.int .i64 11) ∧ w'.cell? ⟨w.heap.size + 1, 1, none⟩ = some (.int .i64 0) ∧ w'.cell? ⟨w.heap.size + 1, 2, none⟩ = some (.slice (some ⟨b0, o0, none⟩) ks.length c) ∧ w'.cell? ⟨b0, o0, none⟩ = some (.int .i64 (nthX ks 0).op) ∧ w'.cell? ⟨b0, o0 + 1, none⟩ = some (.int .i64 (nthX ks 0).num) ∧ w'.cell? ⟨b0, o0 + 2, none⟩ = some (.slice A' (nthX ks 0).kids.length c'))
        (first | go_keep | (exact ⟨(hB1.cell (by first | assumption | (simp; assumption))).trans (by first | assumption | (simp; assumption)), (hB1.cell (by first | assumption | (simp; assumption))).trans (by first | assumption | (simp; assumption)), (hB1.cell (by first | assumption | (simp; assumption))).trans (by first | assumption | (simp; assumption)), (hB1.cell (by first | assumption | (simp; assumption))).trans (by first | assumption | (simp; assumption)), (hB1.cell (by first | assumption | (simp; assumption))).trans (by first | assumption | (simp; assumption)), (hB1.cell (by first | assumption | (simp; assumption))).trans (by first | assumption | (simp; assumption)), (hB1.cell (by first | assumption | (simp; assumption))).trans (by first | assumption | (simp; assumption)), (hB1.cell (by first | assumption | (simp; assumption))).trans (by first | assumption | (simp; assumption))⟩))
        (first | (go_at_call 31; refine C0.out.mono ?_; rintro e w1 ⟨rfl, hB1⟩))
      have HB1 := Lib.hid ((Below.refl W0.heap.size W0).drew.trans (hB1.mono (Nat.le_refl _)))
      clear hB1 P0 P1 E0 E1 E2 e0 e1 e2 C0
      have z1 : W0.heap.size ≤ w1.heap.size := HB1.out.size
      obtain ⟨⟨P0, P1⟩, ⟨E0, E1, E2⟩⟩ := HX.out w1 HB1.out
      have hz0 := HZ.out
      have h0 : w.heap.size < w1.heap.size := by omega
      have h1 : w.heap.size + 1 < w1.heap.size := by omega
      have hcase : isAr p.decls t0 = false ∨ ∃ k : Nat, t0 = (k : Int) + 1 ∧ k < p.decls.length ∧ isAr p.decls t0 = true := by
        rcases isAr_cases p.decls t0 with ⟨_, e⟩ | ⟨_, _, e⟩ | ⟨k, e1, e2, _⟩
        · exact .inl e
        · exact .inl e
        · rcases h : isAr p.decls t0 with _ | _
          · exact .inl rfl
          · exact .inr ⟨k, e1, e2, rfl⟩
      rcases hcase with har | ⟨kk, rfl, hkk, har⟩
      · have CI := Lib.hid fun (W : World) (hB : Below W0.heap.size W0 W) => sIsArrow_is _ t0 _ _ _ _ W (HDc.out W hB) har
        have HA := Lib.hid har
        clear har hz0
        go_wp2_with fail
        go_quiet ((go_at_call 57; exact quiet_eq (CI.out _ (below_drewN HB1.out _))))
        go_wp2_with fail
        go_ret
        exact ⟨ret_int (by rw [HL.out, if_neg (fun e => by rw [HA.out] at e; cases e.1)]), HE.out _ (below_drewN HB1.out _)⟩
      · have CI := Lib.hid fun (W : World) (hB : Below W0.heap.size W0 W) => sIsArrow_is _ ((kk : Int) + 1) _ _ _ _ W (HDc.out W hB) har
        rw [har, show ((kk : Int) + 1 - 1).toNat = kk by omega] at HL
        have C2' := C2.out
        obtain ⟨b1', o1', eb, _, l1', e0, e1, e2⟩ := row_at (HR.out.keep (HS0.out w1 HB1.out)) (show 1 < ks.length by omega)
        injection eb with eb
        injection eb with eb1 eb2 _
        subst eb1 eb2
        simp only [Nat.one_mul] at e0 e1 e2
        obtain ⟨A', c', hV⟩ := HV.out 1 (by omega)
        have C0 := (HC.out 1 (by omega)).at_ ((HS0.out w1 HB1.out).trans (same_drew _ _ w1)) (show U ≤ w1.drew.heap.size by show U ≤ w1.heap.size; omega) (HSC.out w1 HB1.out).drew (by omega) ht1
        rw [hV] at e2 C0
        have C0 := Lib.hid C0
        obtain ⟨bd, od, Ac, cc, rfl, _, lbd, d0, d1, d2, _⟩ := (HDc.out w1 HB1.out).at_ hkk
        obtain ⟨fr, hfr⟩ : ∃ x, (nthD p.decls kk).frm = x := ⟨_, rfl⟩
        obtain ⟨tt, htt⟩ : ∃ x, (nthD p.decls kk).to = x := ⟨_, rfl⟩
        rw [hfr] at d0 HL
        rw [htt] at d1 HL
        have HD2 : Hid (∀ W, Below w1.heap.size w1 W → W.cell? ⟨bd, od + kk * 3 + 1, none⟩ = some (.int .i64 tt)) := fun W hB => (hB.cell lbd).trans d1
        have h3 : b0 < w1.heap.size := by omega
        have i1 : (1 : Int) < (ks.length : Int) := by omega
        have j0 : (0 : Int) ≤ (kk : Int) := by omega
        have j1 : (kk : Int) < (p.decls.length : Int) := by omega
        have s1 : IntKind.i64.wrap ((kk : Int) + 1 - 1) = (kk : Int) := by rw [IntWalk.i64_in _ (by omega)]; omega
        have s1b : IntKind.i64.wrap (kk : Int) = (kk : Int) := IntWalk.i64_in _ (by omega)
        clear hV ht1 C2' hz0 har hfr htt
        by_cases ce : t1 = fr
        · have cf : (t1 == fr) = true := by rw [ce]; simp
          have HN := Lib.hid ce
          clear ce
          go_wp2_with fail
          go_region_held3 (fun w' => w'.cell? ⟨w.heap.size, 0, none⟩ = some (.slice (some ⟨bd, od, none⟩) p.decls.length b1) ∧ w'.cell? ⟨w.heap.size, 1, none⟩ = some (.slice B2 p.funcs.length b2) ∧ w'.cell? ⟨w.heap.size + 1, 0, none⟩ = some (.int .i64 11) ∧ w'.cell? ⟨w.heap.size + 1, 1, none⟩ = some (.int .i64 0) ∧ w'.cell? ⟨w.heap.size + 1, 2, none⟩ = some (.slice (some ⟨b0, o0, none⟩) ks.length c) ∧ w'.cell? ⟨b0, o0 + 3, none⟩ = some (.int .i64 (nthX ks 1).op) ∧ w'.cell? ⟨b0, o0 + 3 + 1, none⟩ = some (.int .i64 (nthX ks 1).num) ∧ w'.cell? ⟨b0, o0 + 3 + 2, none⟩ = some (.slice A' (nthX ks 1).kids.length c') ∧ w'.cell? ⟨bd, od + kk * 3, none⟩ = some (.int .i64 fr))
            (first | go_keep | (exact ⟨(hB3.cell (by first | assumption | (simp; assumption))).trans (by first | assumption | (simp; assumption)), (hB3.cell (by first | assumption | (simp; assumption))).trans (by first | assumption | (simp; assumption)), (hB3.cell (by first | assumption | (simp; assumption))).trans (by first | assumption | (simp; assumption)), (hB3.cell (by first | assumption | (simp; assumption))).trans (by first | assumption | (simp; assumption)), (hB3.cell (by first | assumption | (simp; assumption))).trans (by first | assumption | (simp; assumption)), (hB3.cell (by first | assumption | (simp; assumption))).trans (by first | assumption | (simp; assumption)), (hB3.cell (by first | assumption | (simp; assumption))).trans (by first | assumption | (simp; assumption)), (hB3.cell (by first | assumption | (simp; assumption))).trans (by first | assumption | (simp; assumption)), (hB3.cell (by first | assumption | (simp; assumption))).trans (by first | assumption | (simp; assumption))⟩))
            (first | (go_at_call 31; refine C0.out.mono ?_; rintro e w3 ⟨rfl, hB3⟩) | (go_at_call 57; refine (CI.out _ HB1.out.drew).mono ?_; rintro e w2 ⟨rfl, rfl⟩))
          have HB3 := Lib.hid ((Below.refl w1.heap.size w1).drew.trans (hB3.mono (Nat.le_refl _)))
          obtain ⟨⟨Q0, Q1⟩, ⟨F0, F1, F2⟩⟩ := HX.out w3 (HB1.out.trans (HB3.out.mono z1))
          have y1 := HD2.out w3 HB3.out
          clear hB3 P0 P1 E0 E1 E2 e0 e1 e2 C0 d0 d1 d2
          go_wp2_with fail
          go_ret
          exact ⟨ret_int (by rw [HL.out, if_pos (by first | exact ⟨rfl, HN.out⟩ | exact ⟨trivial, HN.out⟩)]), HE.out _ (HB1.out.trans (HB3.out.mono z1))⟩
        · have cf : (t1 == fr) = false := by rw [beq_eq_false_iff_ne]; exact ce
          have HN := Lib.hid ce
          clear ce
          go_wp2_with fail
          go_region_held3 (fun w' => w'.cell? ⟨w.heap.size, 0, none⟩ = some (.slice (some ⟨bd, od, none⟩) p.decls.length b1) ∧ w'.cell? ⟨w.heap.size, 1, none⟩ = some (.slice B2 p.funcs.length b2) ∧ w'.cell? ⟨w.heap.size + 1, 0, none⟩ = some (.int .i64 11) ∧ w'.cell? ⟨w.heap.size + 1, 1, none⟩ = some (.int .i64 0) ∧ w'.cell? ⟨w.heap.size + 1, 2, none⟩ = some (.slice (some ⟨b0, o0, none⟩) ks.length c) ∧ w'.cell? ⟨b0, o0 + 3, none⟩ = some (.int .i64 (nthX ks 1).op) ∧ w'.cell? ⟨b0, o0 + 3 + 1, none⟩ = some (.int .i64 (nthX ks 1).num) ∧ w'.cell? ⟨b0, o0 + 3 + 2, none⟩ = some (.slice A' (nthX ks 1).kids.length c') ∧ w'.cell? ⟨bd, od + kk * 3, none⟩ = some (.int .i64 fr))
            (first | go_keep | (exact ⟨(hB3.cell (by first | assumption | (simp; assumption))).trans (by first | assumption | (simp; assumption)), (hB3.cell (by first | assumption | (simp; assumption))).trans (by first | assumption | (simp; assumption)), (hB3.cell (by first | assumption | (simp; assumption))).trans (by first | assumption | (simp; assumption)), (hB3.cell (by first | assumption | (simp; assumption))).trans (by first | assumption | (simp; assumption)), (hB3.cell (by first | assumption | (simp; assumption))).trans (by first | assumption | (simp; assumption)), (hB3.cell (by first | assumption | (simp; assumption))).trans (by first | assumption | (simp; assumption)), (hB3.cell (by first | assumption | (simp; assumption))).trans (by first | assumption | (simp; assumption)), (hB3.cell (by first | assumption | (simp; assumption))).trans (by first | assumption | (simp; assumption)), (hB3.cell (by first | assumption | (simp; assumption))).trans (by first | assumption | (simp; assumption))⟩))
            (first | (go_at_call 31; refine C0.out.mono ?_; rintro e w3 ⟨rfl, hB3⟩) | (go_at_call 57; refine (CI.out _ HB1.out.drew).mono ?_; rintro e w2 ⟨rfl, rfl⟩))
          have HB3 := Lib.hid (HE.out _ (HB1.out.trans (((Below.refl w1.heap.size w1).drew.trans (hB3.mono (Nat.le_refl _))).mono z1)))
          clear hB3 P0 P1 E0 E1 E2 e0 e1 e2 C0 d0 d1 d2
          go_wp2_with fail
          go_ret
          exact ⟨ret_int (by rw [HL.out, if_neg (fun e => HN.out e.2)]), HB3.out⟩
    · have c3 : ((ks.length : Int) == 2) = false := by rw [beq_eq_false_iff_ne]; omega
      rw [show applyRes p.decls (tysL p vars ks) = -1 by unfold applyRes; rw [length_tysL, if_neg (fun e => c2 e.1)]]
      subst c1
      clear c2
      go_enter Tryz.func31, Tryz.ntmps31
      go_wp2_with fail
      go_ret
      exact ⟨rfl, by rw [← hW0]; exact HE.out _ (Below.refl _ _)⟩
  · rw [if_neg c1]
    have c3 : (n == 0) = false := by rw [beq_eq_false_iff_ne]; exact c1
    clear c1
    go_enter Tryz.func31, Tryz.ntmps31
    go_wp2_with fail
    go_ret
    exact ⟨rfl, by rw [← hW0]; exact HE.out _ (Below.refl _ _)⟩
end Go.Proofs.YtihmkaodjpgikaaGreat
