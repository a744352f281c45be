/- Contracts of chapter 2, as the model types: matches. -/
import Derived.Test.YtihmkaodjpgikaaGreatPu4
import Derived.Test.YtihmkaodjpgikaaGreatPt9
namespace Go.Proofs.YtihmkaodjpgikaaGreat
open Go.RowKit Go.BigFrame
theorem conTy_con {ds : List Dec} {k i : Nat} (hk : k < ds.length) (hi : i < (nthD ds k).cons.length) : conTy ds ((cnt ds k : Int) + (i : Int)) = (k : Int) + 1 := by
  unfold conTy
  refine seek_hit (fun j hj => ?_) hk ?_
  · have := cnt_mono ds (i := j + 1) (j := k) (by omega)
    rw [decide_eq_false (show ¬ (cnt ds k : Int) + (i : Int) < (cnt ds (j + 1) : Int) by omega), Bool.and_false]
  · have := cnt_succ hk
    rw [decide_eq_true (by omega), decide_eq_true (by omega)]; rfl
theorem flds_con {ds : List Dec} {k i : Nat} (hk : k < ds.length) (hi : i < (nthD ds k).cons.length) : flds ds ((cnt ds k : Int) + (i : Int)) = nthL (nthD ds k).cons i := by
  rw [flds_at (conTy_con hk hi), show ((cnt ds k : Int) + (i : Int) - (cnt ds k : Int)).toNat = i by omega]
theorem consAt_at {ds : List Dec} {k i : Nat} (h : i < (consAt ds k).length) : (consAt ds k)[i] = (cnt ds k : Int) + (i : Int) := by simp [consAt]
theorem consOfV_none {ds : List Dec} {t : Int} (h : isDat ds t = false) : consOfV ds t = [] := by
  unfold consOfV
  by_cases hc : typesOk ds = true ∧ 1 ≤ t ∧ t ≤ ds.length
  · rw [if_pos hc]
    unfold isDat isTy at h
    rw [decide_eq_true (by omega), Bool.true_and, decide_eq_true (show 0 ≤ t by omega), decide_eq_true hc.2.2, Bool.true_and, Bool.true_and, decide_eq_false_iff_not] at h
    refine List.eq_nil_of_length_eq_zero ?_
    rw [length_consAt]; omega
  · rw [if_neg hc]
theorem consOfV_at {ds : List Dec} {k : Nat} (hb : typesOk ds = true) (hk : k < ds.length) : consOfV ds ((k : Int) + 1) = consAt ds k := by
  unfold consOfV; rw [if_pos ⟨hb, by omega, by omega⟩, show ((k : Int) + 1 - 1).toNat = k by omega]
/-- The fields of a constructor that there is, in any world. -/
theorem sFields_at {ds : List Dec} {k i : Nat} {L U : Nat} {v : Value} {x : Int} {F : List Int} {w : World} (hv : Decs w L U v ds) (hU : U ≤ w.heap.size) (hto : typesOk ds = true) (hk : k < ds.length) (hi : i < (nthD ds k).cons.length) (hx : (cnt ds k : Int) + (i : Int) = x) (hF : nthL (nthD ds k).cons i = F) :
    Calls Tryz.prog 53 #[v, .int .i64 x] w fun e w' => ∃ u, e = .returned u ∧ Below w.heap.size w w' ∧ Ints w' 0 w'.heap.size u F := by
  subst hx hF
  refine (conFields_any _ L U ds v w hv (big_of_twelve (cnt_twelve hto)) (by rw [conTy_con hk hi]; omega)).mono ?_
  rintro e w' ⟨u, rfl, hB, hI⟩
  rw [flds_con hk hi] at hI
  exact ⟨u, rfl, hB, hI.wide (Nat.zero_le _) (Nat.le_trans hU hB.size)⟩
set_option maxHeartbeats 6400000 in
theorem matchType_of {w0 : World} {L U : Nat} {A : Option Addr} {c : Nat} {V : Nat → Value} {ks : List Ex} (p : Pg) (r : Row w0 L U 3 A ks.length c (fun i j => exCell (nthX ks i) (V i) j)) (HV : Hid (∀ i, i < ks.length → ∃ A' c', V i = .slice A' (nthX ks i).kids.length c')) (HC : Hid (∀ i, i < ks.length → TyS p w0 L U (V i) (nthX ks i))) (pv vv : Value) (vars : List Int) (n : Int) (w : World) (hS : Same L U w0 w) (hU : U ≤ w.heap.size) (sc : ScS w p pv vv vars) (hto : typesOk p.decls = true) (hs : vars.length + 3 + 3 * sumL one_ ks ≤ 1900000) :
    Calls Tryz.prog 55 #[pv, vv, .agg #[.int .i64 8, .int .i64 n, .slice A ks.length c]] w fun x w' => x = .returned (.int .i64 (matchV p.decls n (tyL p ks) vars)) ∧ Below w.heap.size w w' := by
  have hrl := r.le
  have hrc : c ≤ 9223372036854775807 := r.cap
  have hd0 := sc.p
  obtain ⟨dd, ff, rfl, hd, hf⟩ := hd0
  obtain ⟨B1, b1, rfl, l1, m1⟩ := hd.open_
  obtain ⟨B2, b2, rfl, l2, m2⟩ := hf.open_
  obtain ⟨A3, c3, rfl, l3, m3⟩ := sc.v.open_
  obtain ⟨W0, hW0⟩ : ∃ W0, W0 = (w.alloc (.cells #[.slice B1 p.decls.length b1, .slice B2 p.funcs.length b2] 32)).alloc (.cells #[.int .i64 8, .int .i64 n, .slice A ks.length c] 64) := ⟨_, rfl⟩
  have hB0 : Below w.heap.size w W0 := by rw [hW0]; exact ((Below.refl _ w).alloc (Nat.le_refl _) _).alloc (by simp) _
  have hz0 : W0.heap.size = w.heap.size + 2 := by rw [hW0]; simp
  have x0 : W0.heap[w.heap.size]? = some (.cells #[.slice B1 p.decls.length b1, .slice B2 p.funcs.length b2] 32 (0, 0)) := by rw [hW0]; refine Eq.trans (Below.heap_alloc _ _ _ (by simp only [World.size_alloc]; omega)) ?_; exact alloc_last _ _ _ (by simp)
  have x1 : W0.heap[w.heap.size + 1]? = some (.cells #[.int .i64 8, .int .i64 n, .slice A ks.length c] 64 (0, 0)) := by rw [hW0]; exact alloc_last _ _ _ (by simp)
  have HX := Lib.hid fun W (hB : Below W0.heap.size W0 W) => (show (W.cell? ⟨w.heap.size, 0, none⟩ = some (.slice B1 p.decls.length b1) ∧ W.cell? ⟨w.heap.size, 1, none⟩ = some (.slice B2 p.funcs.length b2)) ∧ (W.cell? ⟨w.heap.size + 1, 0, none⟩ = some (.int .i64 8) ∧ W.cell? ⟨w.heap.size + 1, 1, none⟩ = some (.int .i64 n) ∧ W.cell? ⟨w.heap.size + 1, 2, none⟩ = some (.slice A ks.length c)) from ⟨cells2 ((hB.block w.heap.size (by omega)).trans x0), three ((hB.block (w.heap.size + 1) (by omega)).trans x1)⟩)
  have HSC := Lib.hid fun W (hB : Below W0.heap.size W0 W) => (sc.up hB0).up hB
  have HE := Lib.hid fun W (hB : Below W0.heap.size W0 W) => hB0.trans (hB.mono (show w.heap.size ≤ W0.heap.size by omega))
  have HS0 := Lib.hid fun W (hB : Below W0.heap.size W0 W) => hS.trans (Same.of_below (hB0.trans (hB.mono (show w.heap.size ≤ W0.heap.size by omega))) hU)
  have HZ := Lib.hid hz0
  have HDc := Lib.hid fun W (hB : Below W0.heap.size W0 W) => ((HSC.out W hB).p).two.1
  have HR := Lib.hid r
  clear sc hd hf hS x0 x1 hz0 r
  obtain ⟨⟨P0, P1⟩, ⟨E0, E1, E2⟩⟩ := HX.out W0 (Below.refl _ _)
  rcases isDat_cases p.decls n with hdat | ⟨kk, rfl, hkk, hpos, hdat⟩
  · rw [matchV_no (.inl hdat)]
    have C1 := Lib.hid (sConsOf_is [] n _ _ _ _ W0 (HDc.out W0 (Below.refl _ _)) (Nat.le_refl _) hto (consOfV_none hdat))
    clear hdat
    go_enter Tryz.func55, Tryz.ntmps55
    go_wp2_with fail
    rw [← hW0]
    clear hW0
    refine C1.out.mono ?_
    rintro e w1 ⟨u7, rfl, hB1, hI⟩
    obtain ⟨A7, c7, rfl, _, _⟩ := hI.open_
    obtain ⟨⟨Q0, Q1⟩, ⟨F0, F1, F2⟩⟩ := HX.out w1 hB1
    have HB1 := Lib.hid hB1
    clear hI C1 hB1 P0 P1 E0 E1 E2
    simp only [List.length_nil]
    go_wp2_with fail
    go_quiet (fail)
    go_wp2_with fail
    go_ret
    exact ⟨rfl, HE.out _ (below_drewN HB1.out _)⟩
  · have hn1 : ((kk : Int) + 1 - 1).toNat = kk := by omega
    obtain ⟨cs, hcs⟩ : ∃ cs, (nthD p.decls kk).cons = cs := ⟨_, rfl⟩
    have hc3 : cs.length ≤ 3 := by rw [← hcs]; exact cons_three hto hkk
    have HC3 : Hid (∀ k, k < cs.length → (nthL cs k).length ≤ 3) := by
      intro k hk
      rw [← hcs] at hk ⊢
      exact con_three hto hkk hk
    have HNO := Lib.hid (matchV_no (ds := p.decls) (n := (kk : Int) + 1) (fs := tyL p ks) (vars := vars))
    have HYES := Lib.hid (matchV_yes (ds := p.decls) (n := (kk : Int) + 1) (fs := tyL p ks) (vars := vars) hdat)
    have C1 := Lib.hid (sConsOf_is _ ((kk : Int) + 1) _ _ _ _ W0 (HDc.out W0 (Below.refl _ _)) (Nat.le_refl _) hto (consOfV_at hto hkk))
    obtain ⟨xs, hxs⟩ : ∃ xs, consAt p.decls kk = xs := ⟨_, rfl⟩
    have hxl : xs.length = cs.length := by rw [← hxs, length_consAt, hcs]
    have HXA : Hid (∀ k (h : k < xs.length), xs[k] = (cnt p.decls kk : Int) + (k : Int)) := by
      intro k h
      subst hxs
      exact consAt_at h
    have HSF : Hid (∀ (W : World) (k : Nat), Below W0.heap.size W0 W → k < cs.length → Calls Tryz.prog 53 #[.slice B1 p.decls.length b1, .int .i64 ((cnt p.decls kk : Int) + (k : Int))] W fun e w' => ∃ u, e = .returned u ∧ Below W.heap.size W w' ∧ Ints w' 0 w'.heap.size u (nthL cs k)) := by
      intro W k hB hk
      exact sFields_at (HDc.out W hB) (Nat.le_refl _) hto hkk (by rw [hcs]; exact hk) rfl (by rw [hcs])
    rw [hxs] at C1
    rw [hn1, hcs, length_tyL] at HNO HYES
    rw [hcs] at hpos
    have s2 : IntKind.i64.wrap (1 + (cs.length : Int)) = 1 + (cs.length : Int) := IntWalk.i64_in _ (by omega)
    have s2' : IntKind.i64.wrap (1 + (xs.length : Int)) = 1 + (cs.length : Int) := by rw [hxl]; exact s2
    have HS2 := Lib.hid (And.intro s2 s2')
    have hx0 : ((xs.length : Int) == 0) = false := by rw [beq_eq_false_iff_ne]; omega
    have HX0 := Lib.hid hx0
    have HXL := Lib.hid hxl
    clear hcs hdat hn1 s2 s2' hxs hx0 hto
    by_cases hlen : ks.length = 1 + cs.length
    · obtain ⟨t0, ht0⟩ : ∃ t, (nthX ks 0).ty p vars = t := ⟨_, rfl⟩
      have HAR : Hid (∀ k, k < cs.length → armV cs (tyL p ks) vars k = (nthX ks (1 + k)).ty p (vars ++ nthL cs k)) := by
        intro k hk
        unfold armV
        rw [at_tyL p (show 1 + k < ks.length by omega)]
      have HT0 : Hid (at_ (tyL p ks) 0 vars = t0) := by show _ = _; rw [at_tyL p (show 0 < ks.length by omega), ht0]
      have k0 := kid_le (es := ks) (k := 0) (by omega)
      have hl3 : ((ks.length : Int) != 1 + (cs.length : Int)) = false := by rw [show ((ks.length : Int)) = 1 + (cs.length : Int) by omega]; simp
      have HLEN := Lib.hid hlen
      have HPOS := Lib.hid hpos
      have i5n : 0 < ks.length := by omega
      have kne : ¬ ks = [] := fun e => by rw [e] at hlen; simp at hlen; omega
      have cne : ¬ xs = [] := fun e => by rw [e] at hxl; simp at hxl; omega
      have i5 : (0 : Int) < (ks.length : Int) := by omega
      have i5' : (0 : Int) < 1 + (cs.length : Int) := by omega
      have i7 : (0 : Int) < (xs.length : Int) := by omega
      have i7n : 0 < xs.length := by omega
      have i7' : (0 : Int) < (cs.length : Int) := by omega
      have HN3 := Lib.hid hl3
      clear hlen hxl hl3
      go_enter Tryz.func55, Tryz.ntmps55
      go_wp2_with fail
      rw [← hW0]
      clear hW0
      refine C1.out.mono ?_
      rintro e w1 ⟨u7, rfl, hB1, hI⟩
      have hlen := HLEN.out
      have hxl := HXL.out
      have z1 : W0.heap.size ≤ w1.heap.size := hB1.size
      have hz0 := HZ.out
      obtain ⟨b0, o0, rfl, _, l0, e0, e1, e2⟩ := row_at (HR.out.keep (HS0.out w1 hB1)) (show 0 < ks.length by omega)
      simp only [Nat.zero_mul, Nat.add_zero] at e0 e1 e2
      obtain ⟨A', c', hV⟩ := HV.out 0 (by omega)
      have C0 := (HC.out 0 (by omega)).at_ ((HS0.out w1 hB1).trans (same_drew _ _ w1)) (show U ≤ w1.drew.heap.size by show U ≤ w1.heap.size; omega) (HSC.out w1 hB1).drew (by omega) ht0
      rw [hV] at e2 C0
      have C0 := Lib.hid C0
      obtain ⟨A7, c7, rfl, _, hc7⟩ := hI.open_
      obtain ⟨b7, o7, rfl, _, l7, y0⟩ := hI.at_ (show 0 < xs.length by omega)
      have HI := Lib.hid fun W (hB : Below w1.heap.size w1 W) => hI.keep (Same.of_below hB (Nat.le_refl _))
      have HB1 := Lib.hid hB1
      obtain ⟨⟨Q0, Q1⟩, ⟨F0, F1, F2⟩⟩ := HX.out w1 hB1
      have g0 : w.heap.size < w1.heap.size := by omega
      have g1 : w.heap.size + 1 < w1.heap.size := by omega
      have g3 : b0 < w1.heap.size := by omega
      clear hV ht0 hlen hxl hI C1 hB1 P0 P1 E0 E1 E2 y0
      have s2 := HS2.out.2
      have hx0 := HX0.out
      have hl3 := HN3.out
      go_wp2_with fail
      by_cases ct : t0 = (kk : Int) + 1
      · have cu : (t0 != (kk : Int) + 1) = false := by rw [ct]; simp
        have HCT := Lib.hid ct
        clear ct
        go_region_held3 (fun w' => w'.cell? ⟨w.heap.size, 0, none⟩ = some (.slice B1 p.decls.length b1) ∧ w'.cell? ⟨w.heap.size, 1, none⟩ = some (.slice B2 p.funcs.length b2) ∧ w'.cell? ⟨w.heap.size + 1, 0, none⟩ = some (.int .i64 8) ∧ w'.cell? ⟨w.heap.size + 1, 1, none⟩ = some (.int .i64 ((kk : Int) + 1)) ∧ w'.cell? ⟨w.heap.size + 1, 2, none⟩ = some (.slice (some ⟨b0, o0, none⟩) ks.length c) ∧ w'.cell? ⟨b0, o0, none⟩ = some (.int .i64 (nthX ks 0).op) ∧ w'.cell? ⟨b0, o0 + 1, none⟩ = some (.int .i64 (nthX ks 0).num) ∧ w'.cell? ⟨b0, o0 + 2, none⟩ = some (.slice A' (nthX ks 0).kids.length c'))
          (first | go_keep | (exact ⟨(hB2.cell (by first | assumption | (simp; assumption))).trans (by first | assumption | (simp; assumption)), (hB2.cell (by first | assumption | (simp; assumption))).trans (by first | assumption | (simp; assumption)), (hB2.cell (by first | assumption | (simp; assumption))).trans (by first | assumption | (simp; assumption)), (hB2.cell (by first | assumption | (simp; assumption))).trans (by first | assumption | (simp; assumption)), (hB2.cell (by first | assumption | (simp; assumption))).trans (by first | assumption | (simp; assumption)), (hB2.cell (by first | assumption | (simp; assumption))).trans (by first | assumption | (simp; assumption)), (hB2.cell (by first | assumption | (simp; assumption))).trans (by first | assumption | (simp; assumption)), (hB2.cell (by first | assumption | (simp; assumption))).trans (by first | assumption | (simp; assumption))⟩))
          (first | (go_at_call 31; refine C0.out.mono ?_; rintro e w2 ⟨rfl, hB2⟩))
        have HB2 := Lib.hid ((Below.refl w1.heap.size w1).drew.trans (hB2.mono (Nat.le_refl _)))
        clear hB2 Q0 Q1 F0 F1 F2 e0 e1 e2 C0 s2 hx0 hl3 cu
        have z2 : w1.heap.size ≤ w2.heap.size := HB2.out.size
        obtain ⟨t1, ht1⟩ : ∃ t, (nthX ks 1).ty p (vars ++ nthL cs 0) = t := ⟨_, rfl⟩
        have HT1 := Lib.hid (show armV cs (tyL p ks) vars 0 = t1 from (HAR.out 0 HPOS.out).trans ht1)
        have HBX := Lib.hid (HB1.out.trans ((HB2.out).mono z1))
        obtain ⟨⟨P0, P1⟩, ⟨E0, E1, E2⟩⟩ := HX.out w2 HBX.out
        have hlen := HLEN.out
        have hxl := HXL.out
        obtain ⟨b1', o1', eb, _, l1', e0, e1, e2⟩ := row_at (HR.out.keep (HS0.out w2 HBX.out)) (show 1 < ks.length by omega)
        injection eb with eb
        injection eb with eb1 eb2 _
        subst eb1 eb2
        obtain ⟨b9, o9, eb, _, l9, y0⟩ := (HI.out w2 (HB2.out)).at_ (show 0 < xs.length by omega)
        injection eb with eb
        injection eb with eb1 eb2 _
        subst eb1 eb2
        rw [HXA.out 0 (by omega)] at y0
        obtain ⟨cc, hcc⟩ : ∃ cc, (cnt p.decls kk : Int) + ((0 : Nat) : Int) = cc := ⟨_, rfl⟩
        have CF := HSF.out w2.drew 0 HBX.out.drew (by omega)
        obtain ⟨A'', c'', hV⟩ := HV.out 1 (by omega)
        have kq := kid_le (es := ks) (k := 1) (by omega)
        have h3f := HC3.out 0 (by omega)
        have zz := (HB2.out).size
        have CE := Lib.hid fun (W : World) (u : Value) (hB : Below w2.heap.size w2 W) (hi : Ints W 0 W.heap.size u (nthL cs 0)) => extend_any 0 W.heap.size 0 W.heap.size vars (nthL cs 0) (.slice A3 vars.length c3) u W (HSC.out W (HBX.out.trans (hB.mono (Nat.le_trans z1 zz)))).v (Nat.le_refl _) hi (Nat.le_refl _) (by omega) (by omega)
        have CK := Lib.hid fun (W : World) (u : Value) (hB : Below w2.heap.size w2 W) (hi : Ints W 0 W.heap.size u (vars ++ nthL cs 0)) => (HC.out 1 (by omega)).at_ (HS0.out W (HBX.out.trans (hB.mono (Nat.le_trans z1 zz)))) (by have := hB.size; omega) (show ScS W p _ u (vars ++ nthL cs 0) from ⟨(HSC.out W (HBX.out.trans (hB.mono (Nat.le_trans z1 zz)))).p, hi⟩) (by rw [List.length_append]; omega) ht1
        rw [hV] at e2 CK
        rw [hcc] at y0 CF
        have CF := Lib.hid CF
        have h0 : w.heap.size < w2.heap.size := by omega
        have h1 : w.heap.size + 1 < w2.heap.size := by omega
        have h3 : b0 < w2.heap.size := by omega
        have h4 : b7 < w2.heap.size := by omega
        have i6 : (1 : Int) < (ks.length : Int) := by omega
        have i6' : (1 : Int) < 1 + (cs.length : Int) := by omega
        simp only [Nat.one_mul, Nat.add_zero] at e0 e1 e2 y0
        clear hV ht1 hlen hxl hcc
        go_wp2_with fail
        go_region_held3 (fun w' => w'.cell? ⟨w.heap.size, 0, none⟩ = some (.slice B1 p.decls.length b1) ∧ w'.cell? ⟨w.heap.size, 1, none⟩ = some (.slice B2 p.funcs.length b2) ∧ w'.cell? ⟨w.heap.size + 1, 0, none⟩ = some (.int .i64 8) ∧ w'.cell? ⟨w.heap.size + 1, 1, none⟩ = some (.int .i64 ((kk : Int) + 1)) ∧ w'.cell? ⟨w.heap.size + 1, 2, none⟩ = some (.slice (some ⟨b0, o0, none⟩) ks.length c) ∧ w'.cell? ⟨b0, o0 + 3, none⟩ = some (.int .i64 (nthX ks 1).op) ∧ w'.cell? ⟨b0, o0 + 3 + 1, none⟩ = some (.int .i64 (nthX ks 1).num) ∧ w'.cell? ⟨b0, o0 + 3 + 2, none⟩ = some (.slice A'' (nthX ks 1).kids.length c'') ∧ w'.cell? ⟨b7, o7, none⟩ = some (.int .i64 cc))
          (first | go_keep | (exact ⟨(hB5.cell (by first | assumption | (simp; assumption))).trans (by first | assumption | (simp; assumption)), (hB5.cell (by first | assumption | (simp; assumption))).trans (by first | assumption | (simp; assumption)), (hB5.cell (by first | assumption | (simp; assumption))).trans (by first | assumption | (simp; assumption)), (hB5.cell (by first | assumption | (simp; assumption))).trans (by first | assumption | (simp; assumption)), (hB5.cell (by first | assumption | (simp; assumption))).trans (by first | assumption | (simp; assumption)), (hB5.cell (by first | assumption | (simp; assumption))).trans (by first | assumption | (simp; assumption)), (hB5.cell (by first | assumption | (simp; assumption))).trans (by first | assumption | (simp; assumption)), (hB5.cell (by first | assumption | (simp; assumption))).trans (by first | assumption | (simp; assumption)), (hB5.cell (by first | assumption | (simp; assumption))).trans (by first | assumption | (simp; assumption))⟩) | (exact ⟨(hB4.cell (by first | assumption | (simp; assumption))).trans (by first | assumption | (simp; assumption)), (hB4.cell (by first | assumption | (simp; assumption))).trans (by first | assumption | (simp; assumption)), (hB4.cell (by first | assumption | (simp; assumption))).trans (by first | assumption | (simp; assumption)), (hB4.cell (by first | assumption | (simp; assumption))).trans (by first | assumption | (simp; assumption)), (hB4.cell (by first | assumption | (simp; assumption))).trans (by first | assumption | (simp; assumption)), (hB4.cell (by first | assumption | (simp; assumption))).trans (by first | assumption | (simp; assumption)), (hB4.cell (by first | assumption | (simp; assumption))).trans (by first | assumption | (simp; assumption)), (hB4.cell (by first | assumption | (simp; assumption))).trans (by first | assumption | (simp; assumption)), (hB4.cell (by first | assumption | (simp; assumption))).trans (by first | assumption | (simp; assumption))⟩) | (exact ⟨(hB3.cell (by first | assumption | (simp; assumption))).trans (by first | assumption | (simp; assumption)), (hB3.cell (by first | assumption | (simp; assumption))).trans (by first | assumption | (simp; assumption)), (hB3.cell (by first | assumption | (simp; assumption))).trans (by first | assumption | (simp; assumption)), (hB3.cell (by first | assumption | (simp; assumption))).trans (by first | assumption | (simp; assumption)), (hB3.cell (by first | assumption | (simp; assumption))).trans (by first | assumption | (simp; assumption)), (hB3.cell (by first | assumption | (simp; assumption))).trans (by first | assumption | (simp; assumption)), (hB3.cell (by first | assumption | (simp; assumption))).trans (by first | assumption | (simp; assumption)), (hB3.cell (by first | assumption | (simp; assumption))).trans (by first | assumption | (simp; assumption)), (hB3.cell (by first | assumption | (simp; assumption))).trans (by first | assumption | (simp; assumption))⟩))
          (first | (go_at_call 31; refine (CK.out _ _ hB4 hI4).mono ?_; rintro e w5 ⟨rfl, hB5'⟩; have hB5 := hB4.trans (hB5'.mono hB4.size)) | (go_at_call 54; refine (CE.out _ _ hB3 hI3).mono ?_; rintro e w4 ⟨u4, rfl, hB4', hI4'⟩; have hI4 := hI4'.wide (Nat.zero_le _) (Nat.le_refl _); have hB4 := hB3.trans (hB4'.mono hB3.size)) | (go_at_call 53; refine CF.out.mono ?_; rintro e w3 ⟨u3, rfl, hB3', hI3⟩; have hB3 := (Below.refl w2.heap.size w2).drew.trans (hB3'.mono (Nat.le_refl _))))
        have HB5 := Lib.hid (HB2.out.trans (hB5.mono z2))
        clear hB3 hB3' hB4 hB4' hB5 hB5' hI3 hI4 hI4' P0 P1 E0 E1 E2 e0 e1 e2 y0 CF CE CK h0 h1 h3 h4
        go_wp2_with fail
        go_loopw [9] (fun i wr => ∃ k : Nat, 1 ≤ k ∧ k ≤ cs.length ∧ i = .int .i64 k ∧ Hid (∀ j, j < k → armV cs (tyL p ks) vars j = t1) ∧ Below w1.heap.size w1 wr) (fun i _ => cs.length - (intOf i).toNat)
        case atStart => exact ⟨1, by omega, by omega, rfl, fun j hj => by rw [show j = 0 by omega]; exact HT1.out, HB5.out⟩
        case round =>
          obtain ⟨k, hk1, hk, rfl, HJ, hB⟩ := hrel
          have HBr := Lib.hid hB
          have zr := hB.size
          by_cases hlt : k < cs.length
          · obtain ⟨m, hm⟩ : ∃ m, 1 + k = m := ⟨_, rfl⟩
            obtain ⟨x, hx⟩ : ∃ t, (nthX ks m).ty p (vars ++ nthL cs k) = t := ⟨_, rfl⟩
            have HXX := Lib.hid (show armV cs (tyL p ks) vars k = x from (HAR.out k hlt).trans (by rw [hm]; exact hx))
            have HBX := Lib.hid (HB1.out.trans ((HBr.out).mono z1))
            obtain ⟨⟨P0, P1⟩, ⟨E0, E1, E2⟩⟩ := HX.out wr HBX.out
            have hlen := HLEN.out
            have hxl := HXL.out
            obtain ⟨b1', o1', eb, _, l1', e0, e1, e2⟩ := row_at (HR.out.keep (HS0.out wr HBX.out)) (show m < ks.length by omega)
            injection eb with eb
            injection eb with eb1 eb2 _
            subst eb1 eb2
            obtain ⟨b9, o9, eb, _, l9, y0⟩ := (HI.out wr (HBr.out)).at_ (show k < xs.length by omega)
            injection eb with eb
            injection eb with eb1 eb2 _
            subst eb1 eb2
            rw [HXA.out k (by omega)] at y0
            obtain ⟨cc, hcc⟩ : ∃ cc, (cnt p.decls kk : Int) + (k : Int) = cc := ⟨_, rfl⟩
            have CF := HSF.out wr.drew k HBX.out.drew (by omega)
            obtain ⟨A'', c'', hV⟩ := HV.out m (by omega)
            have kq := kid_le (es := ks) (k := m) (by omega)
            have h3f := HC3.out k (by omega)
            have zz := (HBr.out).size
            have CE := Lib.hid fun (W : World) (u : Value) (hB : Below wr.heap.size wr W) (hi : Ints W 0 W.heap.size u (nthL cs k)) => extend_any 0 W.heap.size 0 W.heap.size vars (nthL cs k) (.slice A3 vars.length c3) u W (HSC.out W (HBX.out.trans (hB.mono (Nat.le_trans z1 zz)))).v (Nat.le_refl _) hi (Nat.le_refl _) (by omega) (by omega)
            have CK := Lib.hid fun (W : World) (u : Value) (hB : Below wr.heap.size wr W) (hi : Ints W 0 W.heap.size u (vars ++ nthL cs k)) => (HC.out m (by omega)).at_ (HS0.out W (HBX.out.trans (hB.mono (Nat.le_trans z1 zz)))) (by have := hB.size; omega) (show ScS W p _ u (vars ++ nthL cs k) from ⟨(HSC.out W (HBX.out.trans (hB.mono (Nat.le_trans z1 zz)))).p, hi⟩) (by rw [List.length_append]; omega) hx
            rw [hV] at e2 CK
            rw [hcc] at y0 CF
            have CF := Lib.hid CF
            have h0 : w.heap.size < wr.heap.size := by omega
            have h1 : w.heap.size + 1 < wr.heap.size := by omega
            have h3 : b0 < wr.heap.size := by omega
            have h4 : b7 < wr.heap.size := by omega
            have i6 : (m : Int) < (ks.length : Int) := by omega
            have i6' : (m : Int) < 1 + (cs.length : Int) := by omega
            have i7k : (k : Int) < (xs.length : Int) := by omega
            have i7k' : (k : Int) < (cs.length : Int) := by omega
            have i8 : (0 : Int) ≤ (k : Int) := by omega
            have i9 : (0 : Int) ≤ (m : Int) := by omega
            have s5 : IntKind.i64.wrap (1 + (k : Int)) = (m : Int) := by rw [IntWalk.i64_in _ (by omega)]; omega
            have HLT := Lib.hid (And.intro hlt (And.intro hk1 hk))
            clear hV hx hlen hxl hm hB hcc
            by_cases ce : x = t1
            · have cf' : (x != t1) = false := by rw [ce]; simp
              have HN : Hid (∀ j, j < k + 1 → armV cs (tyL p ks) vars j = t1) := by
                intro j hj
                by_cases e : j = k
                · rw [e, HXX.out, ce]
                · exact HJ.out j (by omega)
              clear ce
              go_wp2_with fail
              go_region_held3 (fun w' => w'.cell? ⟨w.heap.size, 0, none⟩ = some (.slice B1 p.decls.length b1) ∧ w'.cell? ⟨w.heap.size, 1, none⟩ = some (.slice B2 p.funcs.length b2) ∧ w'.cell? ⟨w.heap.size + 1, 0, none⟩ = some (.int .i64 8) ∧ w'.cell? ⟨w.heap.size + 1, 1, none⟩ = some (.int .i64 ((kk : Int) + 1)) ∧ w'.cell? ⟨w.heap.size + 1, 2, none⟩ = some (.slice (some ⟨b0, o0, none⟩) ks.length c) ∧ w'.cell? ⟨b0, o0 + m * 3, none⟩ = some (.int .i64 (nthX ks m).op) ∧ w'.cell? ⟨b0, o0 + m * 3 + 1, none⟩ = some (.int .i64 (nthX ks m).num) ∧ w'.cell? ⟨b0, o0 + m * 3 + 2, none⟩ = some (.slice A'' (nthX ks m).kids.length c'') ∧ w'.cell? ⟨b7, o7 + k, none⟩ = some (.int .i64 cc))
                (first | go_keep | (exact ⟨(hB5.cell (by first | assumption | (simp; assumption))).trans (by first | assumption | (simp; assumption)), (hB5.cell (by first | assumption | (simp; assumption))).trans (by first | assumption | (simp; assumption)), (hB5.cell (by first | assumption | (simp; assumption))).trans (by first | assumption | (simp; assumption)), (hB5.cell (by first | assumption | (simp; assumption))).trans (by first | assumption | (simp; assumption)), (hB5.cell (by first | assumption | (simp; assumption))).trans (by first | assumption | (simp; assumption)), (hB5.cell (by first | assumption | (simp; assumption))).trans (by first | assumption | (simp; assumption)), (hB5.cell (by first | assumption | (simp; assumption))).trans (by first | assumption | (simp; assumption)), (hB5.cell (by first | assumption | (simp; assumption))).trans (by first | assumption | (simp; assumption)), (hB5.cell (by first | assumption | (simp; assumption))).trans (by first | assumption | (simp; assumption))⟩) | (exact ⟨(hB4.cell (by first | assumption | (simp; assumption))).trans (by first | assumption | (simp; assumption)), (hB4.cell (by first | assumption | (simp; assumption))).trans (by first | assumption | (simp; assumption)), (hB4.cell (by first | assumption | (simp; assumption))).trans (by first | assumption | (simp; assumption)), (hB4.cell (by first | assumption | (simp; assumption))).trans (by first | assumption | (simp; assumption)), (hB4.cell (by first | assumption | (simp; assumption))).trans (by first | assumption | (simp; assumption)), (hB4.cell (by first | assumption | (simp; assumption))).trans (by first | assumption | (simp; assumption)), (hB4.cell (by first | assumption | (simp; assumption))).trans (by first | assumption | (simp; assumption)), (hB4.cell (by first | assumption | (simp; assumption))).trans (by first | assumption | (simp; assumption)), (hB4.cell (by first | assumption | (simp; assumption))).trans (by first | assumption | (simp; assumption))⟩) | (exact ⟨(hB3.cell (by first | assumption | (simp; assumption))).trans (by first | assumption | (simp; assumption)), (hB3.cell (by first | assumption | (simp; assumption))).trans (by first | assumption | (simp; assumption)), (hB3.cell (by first | assumption | (simp; assumption))).trans (by first | assumption | (simp; assumption)), (hB3.cell (by first | assumption | (simp; assumption))).trans (by first | assumption | (simp; assumption)), (hB3.cell (by first | assumption | (simp; assumption))).trans (by first | assumption | (simp; assumption)), (hB3.cell (by first | assumption | (simp; assumption))).trans (by first | assumption | (simp; assumption)), (hB3.cell (by first | assumption | (simp; assumption))).trans (by first | assumption | (simp; assumption)), (hB3.cell (by first | assumption | (simp; assumption))).trans (by first | assumption | (simp; assumption)), (hB3.cell (by first | assumption | (simp; assumption))).trans (by first | assumption | (simp; assumption))⟩))
                (first | (go_at_call 31; refine (CK.out _ _ hB4 hI4).mono ?_; rintro e w5 ⟨rfl, hB5'⟩; have hB5 := hB4.trans (hB5'.mono hB4.size)) | (go_at_call 54; refine (CE.out _ _ hB3 hI3).mono ?_; rintro e w4 ⟨u4, rfl, hB4', hI4'⟩; have hI4 := hI4'.wide (Nat.zero_le _) (Nat.le_refl _); have hB4 := hB3.trans (hB4'.mono hB3.size)) | (go_at_call 53; refine CF.out.mono ?_; rintro e w3 ⟨u3, rfl, hB3', hI3⟩; have hB3 := (Below.refl wr.heap.size wr).drew.trans (hB3'.mono (Nat.le_refl _))))
              have HB5 := Lib.hid (HBr.out.trans (hB5.mono zr))
              have e9 := HLT.out
              clear hB3 hB3' hB4 hB4' hB5 hB5' hI3 hI4 hI4' P0 P1 E0 E1 E2 e0 e1 e2 y0 CF CE CK h0 h1 h3 h4
              go_wp2_with fail
              go_roundw
              case rel => exact ⟨k + 1, by omega, by omega, by go_num, HN, HB5.out⟩
              case measure => simp [intOf]; omega
            · have cf' : (x != t1) = true := by rw [bne_iff_ne]; exact ce
              have HN := Lib.hid (HNO.out (.inr (.inr (.inr ⟨k, hlt, by rw [HXX.out, HT1.out]; exact ce⟩))))
              clear ce
              go_wp2_with fail
              go_region_held3 (fun w' => w'.cell? ⟨w.heap.size, 0, none⟩ = some (.slice B1 p.decls.length b1) ∧ w'.cell? ⟨w.heap.size, 1, none⟩ = some (.slice B2 p.funcs.length b2) ∧ w'.cell? ⟨w.heap.size + 1, 0, none⟩ = some (.int .i64 8) ∧ w'.cell? ⟨w.heap.size + 1, 1, none⟩ = some (.int .i64 ((kk : Int) + 1)) ∧ w'.cell? ⟨w.heap.size + 1, 2, none⟩ = some (.slice (some ⟨b0, o0, none⟩) ks.length c) ∧ w'.cell? ⟨b0, o0 + m * 3, none⟩ = some (.int .i64 (nthX ks m).op) ∧ w'.cell? ⟨b0, o0 + m * 3 + 1, none⟩ = some (.int .i64 (nthX ks m).num) ∧ w'.cell? ⟨b0, o0 + m * 3 + 2, none⟩ = some (.slice A'' (nthX ks m).kids.length c'') ∧ w'.cell? ⟨b7, o7 + k, none⟩ = some (.int .i64 cc))
                (first | go_keep | (exact ⟨(hB5.cell (by first | assumption | (simp; assumption))).trans (by first | assumption | (simp; assumption)), (hB5.cell (by first | assumption | (simp; assumption))).trans (by first | assumption | (simp; assumption)), (hB5.cell (by first | assumption | (simp; assumption))).trans (by first | assumption | (simp; assumption)), (hB5.cell (by first | assumption | (simp; assumption))).trans (by first | assumption | (simp; assumption)), (hB5.cell (by first | assumption | (simp; assumption))).trans (by first | assumption | (simp; assumption)), (hB5.cell (by first | assumption | (simp; assumption))).trans (by first | assumption | (simp; assumption)), (hB5.cell (by first | assumption | (simp; assumption))).trans (by first | assumption | (simp; assumption)), (hB5.cell (by first | assumption | (simp; assumption))).trans (by first | assumption | (simp; assumption)), (hB5.cell (by first | assumption | (simp; assumption))).trans (by first | assumption | (simp; assumption))⟩) | (exact ⟨(hB4.cell (by first | assumption | (simp; assumption))).trans (by first | assumption | (simp; assumption)), (hB4.cell (by first | assumption | (simp; assumption))).trans (by first | assumption | (simp; assumption)), (hB4.cell (by first | assumption | (simp; assumption))).trans (by first | assumption | (simp; assumption)), (hB4.cell (by first | assumption | (simp; assumption))).trans (by first | assumption | (simp; assumption)), (hB4.cell (by first | assumption | (simp; assumption))).trans (by first | assumption | (simp; assumption)), (hB4.cell (by first | assumption | (simp; assumption))).trans (by first | assumption | (simp; assumption)), (hB4.cell (by first | assumption | (simp; assumption))).trans (by first | assumption | (simp; assumption)), (hB4.cell (by first | assumption | (simp; assumption))).trans (by first | assumption | (simp; assumption)), (hB4.cell (by first | assumption | (simp; assumption))).trans (by first | assumption | (simp; assumption))⟩) | (exact ⟨(hB3.cell (by first | assumption | (simp; assumption))).trans (by first | assumption | (simp; assumption)), (hB3.cell (by first | assumption | (simp; assumption))).trans (by first | assumption | (simp; assumption)), (hB3.cell (by first | assumption | (simp; assumption))).trans (by first | assumption | (simp; assumption)), (hB3.cell (by first | assumption | (simp; assumption))).trans (by first | assumption | (simp; assumption)), (hB3.cell (by first | assumption | (simp; assumption))).trans (by first | assumption | (simp; assumption)), (hB3.cell (by first | assumption | (simp; assumption))).trans (by first | assumption | (simp; assumption)), (hB3.cell (by first | assumption | (simp; assumption))).trans (by first | assumption | (simp; assumption)), (hB3.cell (by first | assumption | (simp; assumption))).trans (by first | assumption | (simp; assumption)), (hB3.cell (by first | assumption | (simp; assumption))).trans (by first | assumption | (simp; assumption))⟩))
                (first | (go_at_call 31; refine (CK.out _ _ hB4 hI4).mono ?_; rintro e w5 ⟨rfl, hB5'⟩; have hB5 := hB4.trans (hB5'.mono hB4.size)) | (go_at_call 54; refine (CE.out _ _ hB3 hI3).mono ?_; rintro e w4 ⟨u4, rfl, hB4', hI4'⟩; have hI4 := hI4'.wide (Nat.zero_le _) (Nat.le_refl _); have hB4 := hB3.trans (hB4'.mono hB3.size)) | (go_at_call 53; refine CF.out.mono ?_; rintro e w3 ⟨u3, rfl, hB3', hI3⟩; have hB3 := (Below.refl wr.heap.size wr).drew.trans (hB3'.mono (Nat.le_refl _))))
              have HB5 := Lib.hid (HB1.out.trans ((HBr.out.trans (hB5.mono zr)).mono z1))
              clear hB3 hB3' hB4 hB4' hB5 hB5' hI3 hI4 hI4' P0 P1 E0 E1 E2 e0 e1 e2 y0 CF CE CK h0 h1 h3 h4
              go_wp2_with fail
              go_ret
              exact ⟨ret_int (by rw [HN.out]), HE.out _ HB5.out⟩
          · have HN := Lib.hid (HYES.out HLEN.out (HT0.out.trans HCT.out) (fun j hj => by rw [HT1.out]; exact HJ.out j (by omega)))
            have hlt2 : ¬ k < xs.length := by have := HXL.out; omega
            have hlt3 : ¬ (k : Int) < (xs.length : Int) := by omega
            go_wp2_with fail
            go_ret
            exact ⟨ret_int (by rw [HN.out, HT1.out]), HE.out _ (HB1.out.trans (HBr.out.mono z1))⟩
      · have cu : (t0 != (kk : Int) + 1) = true := by rw [bne_iff_ne]; exact ct
        have HN := Lib.hid (HNO.out (.inr (.inr (.inl (by rw [HT0.out]; exact ct)))))
        clear ct
        go_region_held3 (fun w' => w'.cell? ⟨w.heap.size, 0, none⟩ = some (.slice B1 p.decls.length b1) ∧ w'.cell? ⟨w.heap.size, 1, none⟩ = some (.slice B2 p.funcs.length b2) ∧ w'.cell? ⟨w.heap.size + 1, 0, none⟩ = some (.int .i64 8) ∧ w'.cell? ⟨w.heap.size + 1, 1, none⟩ = some (.int .i64 ((kk : Int) + 1)) ∧ w'.cell? ⟨w.heap.size + 1, 2, none⟩ = some (.slice (some ⟨b0, o0, none⟩) ks.length c) ∧ w'.cell? ⟨b0, o0, none⟩ = some (.int .i64 (nthX ks 0).op) ∧ w'.cell? ⟨b0, o0 + 1, none⟩ = some (.int .i64 (nthX ks 0).num) ∧ w'.cell? ⟨b0, o0 + 2, none⟩ = some (.slice A' (nthX ks 0).kids.length c'))
          (first | go_keep | (exact ⟨(hB2.cell (by first | assumption | (simp; assumption))).trans (by first | assumption | (simp; assumption)), (hB2.cell (by first | assumption | (simp; assumption))).trans (by first | assumption | (simp; assumption)), (hB2.cell (by first | assumption | (simp; assumption))).trans (by first | assumption | (simp; assumption)), (hB2.cell (by first | assumption | (simp; assumption))).trans (by first | assumption | (simp; assumption)), (hB2.cell (by first | assumption | (simp; assumption))).trans (by first | assumption | (simp; assumption)), (hB2.cell (by first | assumption | (simp; assumption))).trans (by first | assumption | (simp; assumption)), (hB2.cell (by first | assumption | (simp; assumption))).trans (by first | assumption | (simp; assumption)), (hB2.cell (by first | assumption | (simp; assumption))).trans (by first | assumption | (simp; assumption))⟩))
          (first | (go_at_call 31; refine C0.out.mono ?_; rintro e w2 ⟨rfl, hB2⟩))
        have HB2 := Lib.hid (HB1.out.trans (((Below.refl w1.heap.size w1).drew.trans (hB2.mono (Nat.le_refl _))).mono z1))
        clear hB2 Q0 Q1 F0 F1 F2 e0 e1 e2 C0
        go_wp2_with fail
        go_ret
        exact ⟨ret_int (by rw [HN.out]), HE.out _ HB2.out⟩
    · have hl3 : ((ks.length : Int) != 1 + (cs.length : Int)) = true := by rw [bne_iff_ne]; omega
      rw [HNO.out (.inr (.inl hlen))]
      clear hlen HNO HYES hxl
      go_enter Tryz.func55, Tryz.ntmps55
      go_wp2_with fail
      rw [← hW0]
      clear hW0
      refine C1.out.mono ?_
      rintro e w1 ⟨u7, rfl, hB1, hI⟩
      obtain ⟨A7, c7, rfl, _, _⟩ := hI.open_
      obtain ⟨⟨Q0, Q1⟩, ⟨F0, F1, F2⟩⟩ := HX.out w1 hB1
      have HB1 := Lib.hid hB1
      clear hI C1 hB1 P0 P1 E0 E1 E2
      go_wp2_with fail
      have s2 := HS2.out.2
      have hx0 := HX0.out
      go_quiet (fail)
      go_wp2_with fail
      go_ret
      exact ⟨rfl, HE.out _ (below_drewN HB1.out _)⟩
end Go.Proofs.YtihmkaodjpgikaaGreat
