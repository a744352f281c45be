/- Contracts of chapter 2: the type of OpMatch. -/
import Derived.Test.YtihmkaodjpgikaaGreatPt8
namespace Go.Proofs.YtihmkaodjpgikaaGreat
open Go.RowKit Go.BigFrame
theorem Pgm.two {w : World} {L U : Nat} {d f : Value} {p : Pg} (h : Pgm w L U (.agg #[d, f]) p) : Decs w L U d p.decls ∧ Fns w L U f p.funcs := by
  obtain ⟨d', f', e, hd, hf⟩ := h
  injection e with e
  injection e with e
  injection e with e1 e
  injection e with e2 _
  subst e1 e2
  exact ⟨hd, hf⟩
theorem isDat_cases (ds : List Dec) (t : Int) : isDat ds t = false ∨ ∃ k : Nat, t = (k : Int) + 1 ∧ k < ds.length ∧ 0 < (nthD ds k).cons.length ∧ isDat ds t = true := by
  rcases h : isDat ds t with _ | _
  · exact .inl rfl
  · refine .inr ⟨(t - 1).toNat, ?_⟩
    unfold isDat isTy at h
    simp only [Bool.and_eq_true, decide_eq_true_eq] at h
    exact ⟨by omega, by omega, h.2.2, rfl⟩
theorem matchV_no {ds : List Dec} {n : Int} {fs : List (List Int → Int)} {vars : List Int} (h : isDat ds n = false ∨ ¬ fs.length = 1 + (nthD ds (n - 1).toNat).cons.length ∨ ¬ at_ fs 0 vars = n ∨
    ∃ k, k < (nthD ds (n - 1).toNat).cons.length ∧ ¬ armV (nthD ds (n - 1).toNat).cons fs vars k = armV (nthD ds (n - 1).toNat).cons fs vars 0) : matchV ds n fs vars = -1 := by
  unfold matchV
  rw [if_neg]
  rintro ⟨h1, h2, h3, h4⟩
  rcases h with h | h | h | ⟨k, hk, h⟩
  · rw [h] at h1; cases h1
  · exact h h2
  · exact h h3
  · exact h (of_decide_eq_true (upTo_at h4 hk))
theorem matchV_yes {ds : List Dec} {n : Int} {fs : List (List Int → Int)} {vars : List Int} (h1 : isDat ds n = true) (h2 : fs.length = 1 + (nthD ds (n - 1).toNat).cons.length) (h3 : at_ fs 0 vars = n)
    (h4 : ∀ k, k < (nthD ds (n - 1).toNat).cons.length → armV (nthD ds (n - 1).toNat).cons fs vars k = armV (nthD ds (n - 1).toNat).cons fs vars 0) : matchV ds n fs vars = armV (nthD ds (n - 1).toNat).cons fs vars 0 := by
  have h5 : upTo (nthD ds (n - 1).toNat).cons.length (fun k => decide (armV (nthD ds (n - 1).toNat).cons fs vars k = armV (nthD ds (n - 1).toNat).cons fs vars 0)) = true := by
    unfold upTo
    rw [List.all_eq_true]
    intro k hk
    exact decide_eq_true (h4 k (List.mem_range.1 hk))
  unfold matchV
  rw [if_pos ⟨h1, h2, h3, h5⟩]
set_option maxHeartbeats 3200000 in
theorem typeOfMatch_of {w0 : World} {L U : Nat} {A : Option Addr} {c : Nat} {V : Nat → Value} {ks : List Ex} (p : Pg) (r : Row w0 L U 3 A ks.length c (fun i j => exCell (nthX ks i) (V i) j)) (HV : Hid (∀ i, i < ks.length → ∃ A' c', V i = .slice A' (nthX ks i).kids.length c')) (HC : Hid (∀ i, i < ks.length → TyC p w0 L U (V i) (nthX ks i))) (pv gv bv : Value) (g b : List Int) (o n : Int) (w : World) (hS : Same L U w0 w) (hU : U ≤ w.heap.size) (sc : Sc w p pv gv bv g b) (hto : typesOk p.decls = true) (hl : b.length + 3 + 3 * sumL one_ ks ≤ 1000000) :
    Calls Tryz.prog 84 #[pv, .agg #[gv, bv], .agg #[.int .i64 o, .int .i64 n, .slice A ks.length c]] w fun x w' => x = .returned (.int .i64 (matchV p.decls n (tyL p ks) (g ++ b))) ∧ Below w.heap.size w w' := by
  have hrl := r.le
  have hrc : c ≤ 9223372036854775807 := r.cap
  have hd0 := sc.p
  obtain ⟨dd, ff, rfl, hd, hf⟩ := hd0
  obtain ⟨B1, b1, rfl, l1, m1⟩ := hd.open_
  obtain ⟨B2, b2, rfl, l2, m2⟩ := hf.open_
  obtain ⟨A3, c3, rfl, l3, m3⟩ := sc.g.open_
  obtain ⟨A4, c4, rfl, l4, m4⟩ := sc.b.open_
  obtain ⟨W0, hW0⟩ : ∃ W0, W0 = ((w.alloc (.cells #[.slice B1 p.decls.length b1, .slice B2 p.funcs.length b2] 32)).alloc (.cells #[.slice A3 g.length c3, .slice A4 b.length c4] 97)).alloc (.cells #[.int .i64 o, .int .i64 n, .slice A ks.length c] 64) := ⟨_, rfl⟩
  have hB0 : Below w.heap.size w W0 := by rw [hW0]; exact (((Below.refl _ w).alloc (Nat.le_refl _) _).alloc (by simp) _).alloc (by simp; omega) _
  have hz0 : W0.heap.size = w.heap.size + 3 := by rw [hW0]; simp
  have x0 : W0.heap[w.heap.size]? = some (.cells #[.slice B1 p.decls.length b1, .slice B2 p.funcs.length b2] 32 (0, 0)) := by rw [hW0]; refine Eq.trans (Below.heap_alloc _ _ _ (by simp only [World.size_alloc]; omega)) ?_; refine Eq.trans (Below.heap_alloc _ _ _ (by simp only [World.size_alloc]; omega)) ?_; exact alloc_last _ _ _ (by simp)
  have x1 : W0.heap[w.heap.size + 1]? = some (.cells #[.slice A3 g.length c3, .slice A4 b.length c4] 97 (0, 0)) := by rw [hW0]; refine Eq.trans (Below.heap_alloc _ _ _ (by simp only [World.size_alloc]; omega)) ?_; exact alloc_last _ _ _ (by simp)
  have x2 : W0.heap[w.heap.size + 1 + 1]? = some (.cells #[.int .i64 o, .int .i64 n, .slice A ks.length c] 64 (0, 0)) := by rw [hW0]; exact alloc_last _ _ _ (by simp)
  have HX := Lib.hid fun W (hB : Below W0.heap.size W0 W) => (show (W.cell? ⟨w.heap.size, 0, none⟩ = some (.slice B1 p.decls.length b1) ∧ W.cell? ⟨w.heap.size, 1, none⟩ = some (.slice B2 p.funcs.length b2)) ∧ (W.cell? ⟨w.heap.size + 1, 0, none⟩ = some (.slice A3 g.length c3) ∧ W.cell? ⟨w.heap.size + 1, 1, none⟩ = some (.slice A4 b.length c4)) ∧ (W.cell? ⟨w.heap.size + 1 + 1, 0, none⟩ = some (.int .i64 o) ∧ W.cell? ⟨w.heap.size + 1 + 1, 1, none⟩ = some (.int .i64 n) ∧ W.cell? ⟨w.heap.size + 1 + 1, 2, none⟩ = some (.slice A ks.length c)) from ⟨cells2 ((hB.block (w.heap.size) (by omega)).trans x0), cells2 ((hB.block (w.heap.size + 1) (by omega)).trans x1), three ((hB.block (w.heap.size + 1 + 1) (by omega)).trans x2)⟩)
  have HSC := Lib.hid fun W (hB : Below W0.heap.size W0 W) => (sc.up hB0).up hB
  have HE := Lib.hid fun W (hB : Below W0.heap.size W0 W) => hB0.trans (hB.mono (show w.heap.size ≤ W0.heap.size by omega))
  have HS0 := Lib.hid fun W (hB : Below W0.heap.size W0 W) => hS.trans (Same.of_below (hB0.trans (hB.mono (show w.heap.size ≤ W0.heap.size by omega))) hU)
  have HZ := Lib.hid hz0
  clear sc hd hf hS x0 x1 x2
  have HDc := Lib.hid fun W (hB : Below W0.heap.size W0 W) => ((HSC.out W hB).p).two.1
  obtain ⟨⟨P0, P1⟩, ⟨S0, S1⟩, ⟨E0, E1, E2⟩⟩ := HX.out W0 (Below.refl _ _)
  rcases isDat_cases p.decls n with hdat | ⟨kk, rfl, hkk, hpos, hdat⟩
  · rw [matchV_no (.inl hdat)]
    have HDT := Lib.hid hdat
    clear hdat
    go_enter Tryz.func84, Tryz.ntmps84
    go_wp2_with fail
    rw [← hW0]
    clear hW0
    refine (isData_is _ _ _ _ _ _ W0 (HDc.out W0 (Below.refl _ _)) HDT.out).mono ?_
    rintro e w1 ⟨rfl, rfl⟩
    go_wp2_with fail
    go_ret
    exact ⟨rfl, HE.out _ (Below.refl _ _)⟩
  · have hn1 : ((kk : Int) + 1 - 1).toNat = kk := by omega
    have HDT := Lib.hid hdat
    obtain ⟨cs, hcs⟩ : ∃ cs, (nthD p.decls kk).cons = cs := ⟨_, rfl⟩
    have hc3 : cs.length ≤ 3 := by rw [← hcs]; exact cons_three hto hkk
    have HC3 : Hid (∀ k, k < cs.length → (nthL cs k).length ≤ 3) := by
      intro k hk
      rw [← hcs] at hk ⊢
      exact con_three hto hkk hk
    rw [hcs] at hpos
    have HNO := Lib.hid (matchV_no (ds := p.decls) (n := (kk : Int) + 1) (fs := tyL p ks) (vars := g ++ b))
    have HYES := Lib.hid (matchV_yes (ds := p.decls) (n := (kk : Int) + 1) (fs := tyL p ks) (vars := g ++ b) hdat)
    rw [hn1, hcs, length_tyL] at HNO HYES
    obtain ⟨bd, od, Ac, cc, rfl, _, lbd, d0, d1, d2, hcons⟩ := (HDc.out W0 (Below.refl _ _)).at_ hkk
    rw [hcs] at d2 hcons
    have HCN := Lib.hid fun W (hB : Below W0.heap.size W0 W) => (hcons.keep (Same.of_below hB (Nat.le_refl _))).wide (Nat.le_refl 0) hB.size
    obtain ⟨A9, c9, eAc, hcl, hcc⟩ := hcons.open_
    injection eAc with ea1 _ ea3
    subst ea1 ea3
    have HDD := Lib.hid d2
    have i0 : (0 : Int) ≤ (kk : Int) := by omega
    have i1 : (kk : Int) < (p.decls.length : Int) := by omega
    have s1 : IntKind.i64.wrap ((kk : Int) + 1 - 1) = (kk : Int) := by rw [IntWalk.i64_in _ (by omega)]; omega
    have s2 : IntKind.i64.wrap (1 + (cs.length : Int)) = 1 + (cs.length : Int) := IntWalk.i64_in _ (by omega)
    have HS2 := Lib.hid s2
    clear hcons hcs d0 d1 hdat hn1 s2
    by_cases hlen : ks.length = 1 + cs.length
    · obtain ⟨t0, ht0⟩ : ∃ t, (nthX ks 0).ty p (g ++ b) = t := ⟨_, rfl⟩
      have HAR : Hid (∀ k, k < cs.length → armV cs (tyL p ks) (g ++ b) k = (nthX ks (1 + k)).ty p (g ++ (b ++ nthL cs k))) := by
        intro k hk
        unfold armV
        rw [at_tyL p (show 1 + k < ks.length by omega), List.append_assoc]
      have HT0 : Hid (at_ (tyL p ks) 0 (g ++ b) = t0) := by show _ = _; rw [at_tyL p (show 0 < ks.length by omega), ht0]
      have k0 := kid_le (es := ks) (k := 0) (by omega)
      obtain ⟨b0, o0, rfl, _, l0, e0, e1, e2⟩ := row_at (r.keep (HS0.out W0 (Below.refl _ _))) (show 0 < ks.length by omega)
      simp only [Nat.zero_mul, Nat.add_zero] at e0 e1 e2
      obtain ⟨A', c', hV⟩ := HV.out 0 (by omega)
      have C0 := (HC.out 0 (by omega)).at_ ((HS0.out W0 (Below.refl _ _)).trans (same_drew _ _ W0)) (show U ≤ W0.drew.heap.size by show U ≤ W0.heap.size; omega) (HSC.out W0 (Below.refl _ _)).drew (by omega) ht0
      rw [hV] at e2 C0
      have C0 := Lib.hid C0
      have HLEN := Lib.hid hlen
      have hl3 : ((ks.length : Int) != 1 + (cs.length : Int)) = false := by rw [show ((ks.length : Int)) = 1 + (cs.length : Int) by omega]; simp
      have g0 : w.heap.size < W0.heap.size := by omega
      have g1 : w.heap.size + 1 < W0.heap.size := by omega
      have g2 : w.heap.size + 1 + 1 < W0.heap.size := by omega
      have g3 : b0 < W0.heap.size := by omega
      have i5 : (0 : Int) < (ks.length : Int) := by omega
      have i5' : (0 : Int) < 1 + (cs.length : Int) := by omega
      have HPOS := Lib.hid hpos
      have kne : ¬ ks = [] := fun e => by rw [e] at hlen; simp at hlen; omega
      have cne : ¬ cs = [] := fun e => by rw [e] at hpos; simp at hpos
      have i5n : 0 < ks.length := by omega
      clear hV ht0 hlen
      go_enter Tryz.func84, Tryz.ntmps84
      go_wp2_with fail
      rw [← hW0]
      clear hW0
      refine (isData_is _ _ _ _ _ _ W0 (HDc.out W0 (Below.refl _ _)) HDT.out).mono ?_
      rintro e w1 ⟨rfl, rfl⟩
      go_wp2_with fail
      have s2 := HS2.out
      by_cases ct : t0 = (kk : Int) + 1
      · have cu : (t0 != (kk : Int) + 1) = false := by rw [ct]; simp
        have HCT := Lib.hid ct
        clear ct
        go_region_held3 (fun w' => w'.cell? ⟨w.heap.size, 0, none⟩ = some (.slice (some ⟨bd, od, none⟩) p.decls.length b1) ∧ w'.cell? ⟨w.heap.size, 1, none⟩ = some (.slice B2 p.funcs.length b2) ∧ w'.cell? ⟨w.heap.size + 1, 0, none⟩ = some (.slice A3 g.length c3) ∧ w'.cell? ⟨w.heap.size + 1, 1, none⟩ = some (.slice A4 b.length c4) ∧ w'.cell? ⟨w.heap.size + 1 + 1, 0, none⟩ = some (.int .i64 o) ∧ w'.cell? ⟨w.heap.size + 1 + 1, 1, none⟩ = some (.int .i64 ((kk : Int) + 1)) ∧ w'.cell? ⟨w.heap.size + 1 + 1, 2, none⟩ = some (.slice (some ⟨b0, o0, none⟩) ks.length c) ∧ w'.cell? ⟨b0, o0, none⟩ = some (.int .i64 (nthX ks 0).op) ∧ w'.cell? ⟨b0, o0 + 1, none⟩ = some (.int .i64 (nthX ks 0).num) ∧ w'.cell? ⟨b0, o0 + 2, none⟩ = some (.slice A' (nthX ks 0).kids.length c'))
          (first | go_keep | (exact ⟨(hB1.cell (by first | assumption | (simp; assumption))).trans (by first | assumption | (simp; assumption)), (hB1.cell (by first | assumption | (simp; assumption))).trans (by first | assumption | (simp; assumption)), (hB1.cell (by first | assumption | (simp; assumption))).trans (by first | assumption | (simp; assumption)), (hB1.cell (by first | assumption | (simp; assumption))).trans (by first | assumption | (simp; assumption)), (hB1.cell (by first | assumption | (simp; assumption))).trans (by first | assumption | (simp; assumption)), (hB1.cell (by first | assumption | (simp; assumption))).trans (by first | assumption | (simp; assumption)), (hB1.cell (by first | assumption | (simp; assumption))).trans (by first | assumption | (simp; assumption)), (hB1.cell (by first | assumption | (simp; assumption))).trans (by first | assumption | (simp; assumption)), (hB1.cell (by first | assumption | (simp; assumption))).trans (by first | assumption | (simp; assumption)), (hB1.cell (by first | assumption | (simp; assumption))).trans (by first | assumption | (simp; assumption))⟩))
          (first | (go_at_call 65; refine C0.out.mono ?_; rintro e w1 ⟨rfl, hB1⟩))
        have HB1 := Lib.hid ((Below.refl W0.heap.size W0).drew.trans (hB1.mono (Nat.le_refl _)))
        clear hB1 P0 P1 S0 S1 E0 E1 E2 e0 e1 e2 C0 d2 s2
        have z1 : W0.heap.size ≤ w1.heap.size := HB1.out.size
        obtain ⟨t1, ht1⟩ : ∃ t, (nthX ks (1 + 0)).ty p (g ++ (b ++ nthL cs 0)) = t := ⟨_, rfl⟩
        have HT1 := Lib.hid (show armV cs (tyL p ks) (g ++ b) 0 = t1 from (HAR.out 0 HPOS.out).trans ht1)
        obtain ⟨⟨P0, P1⟩, ⟨S0, S1⟩, ⟨E0, E1, E2⟩⟩ := HX.out w1 HB1.out
        have hlen := HLEN.out
        obtain ⟨b1', o1', eb, _, l1', e0, e1, e2⟩ := row_at (r.keep (HS0.out w1 HB1.out)) (show 1 + 0 < ks.length by omega)
        injection eb with eb
        injection eb with eb1 eb2 _
        subst eb1 eb2
        simp only [Nat.add_zero, Nat.one_mul] at e0 e1 e2 ht1
        obtain ⟨bc, oc, Af, cf, rfl, _, lbc, f0, hF⟩ := (HCN.out w1 HB1.out).at_ HPOS.out
        rw [Nat.add_zero] at f0
        rw [← nthL_of] at f0 hF
        obtain ⟨A'', c'', hV⟩ := HV.out 1 (by omega)
        have k1 := kid_le (es := ks) (k := 1) (by omega)
        have h3f := HC3.out 0 hpos
        have sc1 := HSC.out w1 HB1.out
        have CB := bind_any 0 _ _ _ b (nthL cs 0) (.slice A3 g.length c3) (.slice A4 b.length c4) (.slice Af (nthL cs 0).length cf) w1.drew ⟨_, _, _, rfl⟩ sc1.drew.b (Nat.le_refl _) (hF.keep (same_drew _ _ w1)) (Nat.le_refl _) (by omega)
        have CK := Lib.hid fun (W : World) (bv : Value) (hB : Below w1.heap.size w1 W) (hi : Ints W 0 W.heap.size bv (b ++ nthL cs 0)) => (HC.out 1 (by omega)).at_ (HS0.out W (HB1.out.trans (hB.mono z1))) (by have := hB.size; omega) (show Sc W p _ _ bv g (b ++ nthL cs 0) from ⟨((sc1.up hB)).p, ((sc1.up hB)).g, hi⟩) (by rw [List.length_append]; omega) ht1
        rw [hV] at e2 CK
        have CB := Lib.hid CB
        have h0 : w.heap.size < w1.heap.size := by omega
        have h1 : w.heap.size + 1 < w1.heap.size := by omega
        have h2 : w.heap.size + 1 + 1 < w1.heap.size := by omega
        have h3 : b0 < w1.heap.size := by omega
        have i6 : (1 : Int) < (ks.length : Int) := by omega
        have i6' : (1 : Int) < 1 + (cs.length : Int) := by omega
        have i7 : (0 : Int) < (cs.length : Int) := by omega
        clear hV ht1 hlen sc1 hF
        go_wp2_with fail
        go_region_held3 (fun w' => w'.cell? ⟨w.heap.size, 0, none⟩ = some (.slice (some ⟨bd, od, none⟩) p.decls.length b1) ∧ w'.cell? ⟨w.heap.size, 1, none⟩ = some (.slice B2 p.funcs.length b2) ∧ w'.cell? ⟨w.heap.size + 1, 0, none⟩ = some (.slice A3 g.length c3) ∧ w'.cell? ⟨w.heap.size + 1, 1, none⟩ = some (.slice A4 b.length c4) ∧ w'.cell? ⟨w.heap.size + 1 + 1, 0, none⟩ = some (.int .i64 o) ∧ w'.cell? ⟨w.heap.size + 1 + 1, 1, none⟩ = some (.int .i64 ((kk : Int) + 1)) ∧ w'.cell? ⟨w.heap.size + 1 + 1, 2, none⟩ = some (.slice (some ⟨b0, o0, none⟩) ks.length c) ∧ w'.cell? ⟨b0, o0 + 3, none⟩ = some (.int .i64 (nthX ks 1).op) ∧ w'.cell? ⟨b0, o0 + 3 + 1, none⟩ = some (.int .i64 (nthX ks 1).num) ∧ w'.cell? ⟨b0, o0 + 3 + 2, none⟩ = some (.slice A'' (nthX ks 1).kids.length c'') ∧ w'.cell? ⟨bc, oc, none⟩ = some (.slice Af (nthL cs 0).length cf))
          (first | go_keep | (exact ⟨(hB3.cell (by first | assumption | (simp; assumption))).trans (by first | assumption | (simp; assumption)), (hB3.cell (by first | assumption | (simp; assumption))).trans (by first | assumption | (simp; assumption)), (hB3.cell (by first | assumption | (simp; assumption))).trans (by first | assumption | (simp; assumption)), (hB3.cell (by first | assumption | (simp; assumption))).trans (by first | assumption | (simp; assumption)), (hB3.cell (by first | assumption | (simp; assumption))).trans (by first | assumption | (simp; assumption)), (hB3.cell (by first | assumption | (simp; assumption))).trans (by first | assumption | (simp; assumption)), (hB3.cell (by first | assumption | (simp; assumption))).trans (by first | assumption | (simp; assumption)), (hB3.cell (by first | assumption | (simp; assumption))).trans (by first | assumption | (simp; assumption)), (hB3.cell (by first | assumption | (simp; assumption))).trans (by first | assumption | (simp; assumption)), (hB3.cell (by first | assumption | (simp; assumption))).trans (by first | assumption | (simp; assumption)), (hB3.cell (by first | assumption | (simp; assumption))).trans (by first | assumption | (simp; assumption))⟩) | (exact ⟨(hB2.cell (by first | assumption | (simp; assumption))).trans (by first | assumption | (simp; assumption)), (hB2.cell (by first | assumption | (simp; assumption))).trans (by first | assumption | (simp; assumption)), (hB2.cell (by first | assumption | (simp; assumption))).trans (by first | assumption | (simp; assumption)), (hB2.cell (by first | assumption | (simp; assumption))).trans (by first | assumption | (simp; assumption)), (hB2.cell (by first | assumption | (simp; assumption))).trans (by first | assumption | (simp; assumption)), (hB2.cell (by first | assumption | (simp; assumption))).trans (by first | assumption | (simp; assumption)), (hB2.cell (by first | assumption | (simp; assumption))).trans (by first | assumption | (simp; assumption)), (hB2.cell (by first | assumption | (simp; assumption))).trans (by first | assumption | (simp; assumption)), (hB2.cell (by first | assumption | (simp; assumption))).trans (by first | assumption | (simp; assumption)), (hB2.cell (by first | assumption | (simp; assumption))).trans (by first | assumption | (simp; assumption)), (hB2.cell (by first | assumption | (simp; assumption))).trans (by first | assumption | (simp; assumption))⟩))
          (first | (go_at_call 91; refine CB.out.mono ?_; rintro e w2 ⟨u2, rfl, hB2', hI2⟩; have hB2 := (Below.refl w1.heap.size w1).drew.trans (hB2'.mono (Nat.le_refl _))) | (go_at_call 65; refine (CK.out _ _ hB2 (hI2.wide (Nat.zero_le _) (Nat.le_refl _))).mono ?_; rintro e w3 ⟨rfl, hB3'⟩; have hB3 := hB2.trans (hB3'.mono hB2.size)))
        have HB3 := Lib.hid (HB1.out.trans (hB3.mono z1))
        clear hB2 hB3 hB3' hB2' hI2 P0 P1 S0 S1 E0 E1 E2 e0 e1 e2 f0 CB CK h0 h1 h2 h3
        go_wp2_with fail
        go_loopw [9] (fun i wr => ∃ k : Nat, 1 ≤ k ∧ k ≤ cs.length ∧ i = .int .i64 k ∧ Hid (∀ j, j < k → armV cs (tyL p ks) (g ++ b) j = t1) ∧ Below W0.heap.size W0 wr) (fun i _ => cs.length - (intOf i).toNat)
        case atStart => exact ⟨1, by omega, by omega, rfl, fun j hj => by rw [show j = 0 by omega]; exact HT1.out, HB3.out⟩
        case round =>
          obtain ⟨k, hk1, hk, rfl, HJ, hB⟩ := hrel
          have HBr := Lib.hid hB
          have zr := hB.size
          by_cases hlt : k < cs.length
          · obtain ⟨m, hm⟩ : ∃ m, 1 + k = m := ⟨_, rfl⟩
            obtain ⟨x, hx⟩ : ∃ t, (nthX ks m).ty p (g ++ (b ++ nthL cs k)) = t := ⟨_, rfl⟩
            have HXX := Lib.hid (show armV cs (tyL p ks) (g ++ b) k = x from (HAR.out k hlt).trans (by rw [hm]; exact hx))
            have hlen := HLEN.out
            obtain ⟨⟨P0, P1⟩, ⟨S0, S1⟩, ⟨E0, E1, E2⟩⟩ := HX.out wr hB
            obtain ⟨b1', o1', eb, _, l1', e0, e1, e2⟩ := row_at (r.keep (HS0.out wr hB)) (show m < ks.length by omega)
            injection eb with eb
            injection eb with eb1 eb2 _
            subst eb1 eb2
            obtain ⟨bc', oc', Ag, cg, eb, _, lbc', f0, hF⟩ := (HCN.out wr hB).at_ hlt
            injection eb with eb
            injection eb with eb1 eb2 _
            subst eb1 eb2
            rw [← nthL_of] at f0 hF
            obtain ⟨A'', c'', hV⟩ := HV.out m (by omega)
            have k1 := kid_le (es := ks) (k := m) (by omega)
            have h3f := HC3.out k hlt
            have sc1 := HSC.out wr hB
            have CB := bind_any 0 _ _ _ b (nthL cs k) (.slice A3 g.length c3) (.slice A4 b.length c4) (.slice Ag (nthL cs k).length cg) wr.drew ⟨_, _, _, rfl⟩ sc1.drew.b (Nat.le_refl _) (hF.keep (same_drew _ _ wr)) (Nat.le_refl _) (by omega)
            have CK := Lib.hid fun (W : World) (bv : Value) (hB : Below wr.heap.size wr W) (hi : Ints W 0 W.heap.size bv (b ++ nthL cs k)) => (HC.out m (by omega)).at_ (HS0.out W (HBr.out.trans (hB.mono zr))) (by have := hB.size; omega) (show Sc W p _ _ bv g (b ++ nthL cs k) from ⟨((sc1.up hB)).p, ((sc1.up hB)).g, hi⟩) (by rw [List.length_append]; omega) hx
            rw [hV] at e2 CK
            have CB := Lib.hid CB
            have h0 : w.heap.size < wr.heap.size := by omega
            have h1 : w.heap.size + 1 < wr.heap.size := by omega
            have h2 : w.heap.size + 1 + 1 < wr.heap.size := by omega
            have h3 : b0 < wr.heap.size := by omega
            have i6 : (m : Int) < (ks.length : Int) := by omega
            have i6' : (m : Int) < 1 + (cs.length : Int) := by omega
            have i7 : (k : Int) < (cs.length : Int) := by omega
            have i8 : (0 : Int) ≤ (k : Int) := by omega
            have i9 : (0 : Int) ≤ (m : Int) := by omega
            have s5 : IntKind.i64.wrap (1 + (k : Int)) = (m : Int) := by rw [IntWalk.i64_in _ (by omega)]; omega
            have HLT := Lib.hid (And.intro hlt (And.intro hk1 hk))
            clear hV hx hlen sc1 hF hm hB
            by_cases ce : x = t1
            · have cf' : (x != t1) = false := by rw [ce]; simp
              have HN : Hid (∀ j, j < k + 1 → armV cs (tyL p ks) (g ++ b) j = t1) := by
                intro j hj
                by_cases e : j = k
                · rw [e, HXX.out, ce]
                · exact HJ.out j (by omega)
              clear ce
              go_wp2_with fail
              go_region_held3 (fun w' => w'.cell? ⟨w.heap.size, 0, none⟩ = some (.slice (some ⟨bd, od, none⟩) p.decls.length b1) ∧ w'.cell? ⟨w.heap.size, 1, none⟩ = some (.slice B2 p.funcs.length b2) ∧ w'.cell? ⟨w.heap.size + 1, 0, none⟩ = some (.slice A3 g.length c3) ∧ w'.cell? ⟨w.heap.size + 1, 1, none⟩ = some (.slice A4 b.length c4) ∧ w'.cell? ⟨w.heap.size + 1 + 1, 0, none⟩ = some (.int .i64 o) ∧ w'.cell? ⟨w.heap.size + 1 + 1, 1, none⟩ = some (.int .i64 ((kk : Int) + 1)) ∧ w'.cell? ⟨w.heap.size + 1 + 1, 2, none⟩ = some (.slice (some ⟨b0, o0, none⟩) ks.length c) ∧ w'.cell? ⟨b0, o0 + m * 3, none⟩ = some (.int .i64 (nthX ks m).op) ∧ w'.cell? ⟨b0, o0 + m * 3 + 1, none⟩ = some (.int .i64 (nthX ks m).num) ∧ w'.cell? ⟨b0, o0 + m * 3 + 2, none⟩ = some (.slice A'' (nthX ks m).kids.length c'') ∧ w'.cell? ⟨bc, oc + k, none⟩ = some (.slice Ag (nthL cs k).length cg))
                (first | go_keep | (exact ⟨(hB3.cell (by first | assumption | (simp; assumption))).trans (by first | assumption | (simp; assumption)), (hB3.cell (by first | assumption | (simp; assumption))).trans (by first | assumption | (simp; assumption)), (hB3.cell (by first | assumption | (simp; assumption))).trans (by first | assumption | (simp; assumption)), (hB3.cell (by first | assumption | (simp; assumption))).trans (by first | assumption | (simp; assumption)), (hB3.cell (by first | assumption | (simp; assumption))).trans (by first | assumption | (simp; assumption)), (hB3.cell (by first | assumption | (simp; assumption))).trans (by first | assumption | (simp; assumption)), (hB3.cell (by first | assumption | (simp; assumption))).trans (by first | assumption | (simp; assumption)), (hB3.cell (by first | assumption | (simp; assumption))).trans (by first | assumption | (simp; assumption)), (hB3.cell (by first | assumption | (simp; assumption))).trans (by first | assumption | (simp; assumption)), (hB3.cell (by first | assumption | (simp; assumption))).trans (by first | assumption | (simp; assumption)), (hB3.cell (by first | assumption | (simp; assumption))).trans (by first | assumption | (simp; assumption))⟩) | (exact ⟨(hB2.cell (by first | assumption | (simp; assumption))).trans (by first | assumption | (simp; assumption)), (hB2.cell (by first | assumption | (simp; assumption))).trans (by first | assumption | (simp; assumption)), (hB2.cell (by first | assumption | (simp; assumption))).trans (by first | assumption | (simp; assumption)), (hB2.cell (by first | assumption | (simp; assumption))).trans (by first | assumption | (simp; assumption)), (hB2.cell (by first | assumption | (simp; assumption))).trans (by first | assumption | (simp; assumption)), (hB2.cell (by first | assumption | (simp; assumption))).trans (by first | assumption | (simp; assumption)), (hB2.cell (by first | assumption | (simp; assumption))).trans (by first | assumption | (simp; assumption)), (hB2.cell (by first | assumption | (simp; assumption))).trans (by first | assumption | (simp; assumption)), (hB2.cell (by first | assumption | (simp; assumption))).trans (by first | assumption | (simp; assumption)), (hB2.cell (by first | assumption | (simp; assumption))).trans (by first | assumption | (simp; assumption)), (hB2.cell (by first | assumption | (simp; assumption))).trans (by first | assumption | (simp; assumption))⟩))
                (first | (go_at_call 91; refine CB.out.mono ?_; rintro e w2 ⟨u2, rfl, hB2', hI2⟩; have hB2 := (Below.refl wr.heap.size wr).drew.trans (hB2'.mono (Nat.le_refl _))) | (go_at_call 65; refine (CK.out _ _ hB2 (hI2.wide (Nat.zero_le _) (Nat.le_refl _))).mono ?_; rintro e w3 ⟨rfl, hB3'⟩; have hB3 := hB2.trans (hB3'.mono hB2.size)))
              have HB5 := Lib.hid (HBr.out.trans (hB3.mono zr))
              have e9 := HLT.out
              clear hB2 hB3 hB3' hB2' hI2 P0 P1 S0 S1 E0 E1 E2 e0 e1 e2 f0 CB CK h0 h1 h2 h3
              go_wp2_with fail
              go_roundw
              case rel => exact ⟨k + 1, by omega, by omega, by go_num, HN, HB5.out⟩
              case measure => simp [intOf]; omega
            · have cf' : (x != t1) = true := by rw [bne_iff_ne]; exact ce
              have HN := Lib.hid (HNO.out (.inr (.inr (.inr ⟨k, hlt, by rw [HXX.out, HT1.out]; exact ce⟩))))
              clear ce
              go_wp2_with fail
              go_region_held3 (fun w' => w'.cell? ⟨w.heap.size, 0, none⟩ = some (.slice (some ⟨bd, od, none⟩) p.decls.length b1) ∧ w'.cell? ⟨w.heap.size, 1, none⟩ = some (.slice B2 p.funcs.length b2) ∧ w'.cell? ⟨w.heap.size + 1, 0, none⟩ = some (.slice A3 g.length c3) ∧ w'.cell? ⟨w.heap.size + 1, 1, none⟩ = some (.slice A4 b.length c4) ∧ w'.cell? ⟨w.heap.size + 1 + 1, 0, none⟩ = some (.int .i64 o) ∧ w'.cell? ⟨w.heap.size + 1 + 1, 1, none⟩ = some (.int .i64 ((kk : Int) + 1)) ∧ w'.cell? ⟨w.heap.size + 1 + 1, 2, none⟩ = some (.slice (some ⟨b0, o0, none⟩) ks.length c) ∧ w'.cell? ⟨b0, o0 + m * 3, none⟩ = some (.int .i64 (nthX ks m).op) ∧ w'.cell? ⟨b0, o0 + m * 3 + 1, none⟩ = some (.int .i64 (nthX ks m).num) ∧ w'.cell? ⟨b0, o0 + m * 3 + 2, none⟩ = some (.slice A'' (nthX ks m).kids.length c'') ∧ w'.cell? ⟨bc, oc + k, none⟩ = some (.slice Ag (nthL cs k).length cg))
                (first | go_keep | (exact ⟨(hB3.cell (by first | assumption | (simp; assumption))).trans (by first | assumption | (simp; assumption)), (hB3.cell (by first | assumption | (simp; assumption))).trans (by first | assumption | (simp; assumption)), (hB3.cell (by first | assumption | (simp; assumption))).trans (by first | assumption | (simp; assumption)), (hB3.cell (by first | assumption | (simp; assumption))).trans (by first | assumption | (simp; assumption)), (hB3.cell (by first | assumption | (simp; assumption))).trans (by first | assumption | (simp; assumption)), (hB3.cell (by first | assumption | (simp; assumption))).trans (by first | assumption | (simp; assumption)), (hB3.cell (by first | assumption | (simp; assumption))).trans (by first | assumption | (simp; assumption)), (hB3.cell (by first | assumption | (simp; assumption))).trans (by first | assumption | (simp; assumption)), (hB3.cell (by first | assumption | (simp; assumption))).trans (by first | assumption | (simp; assumption)), (hB3.cell (by first | assumption | (simp; assumption))).trans (by first | assumption | (simp; assumption)), (hB3.cell (by first | assumption | (simp; assumption))).trans (by first | assumption | (simp; assumption))⟩) | (exact ⟨(hB2.cell (by first | assumption | (simp; assumption))).trans (by first | assumption | (simp; assumption)), (hB2.cell (by first | assumption | (simp; assumption))).trans (by first | assumption | (simp; assumption)), (hB2.cell (by first | assumption | (simp; assumption))).trans (by first | assumption | (simp; assumption)), (hB2.cell (by first | assumption | (simp; assumption))).trans (by first | assumption | (simp; assumption)), (hB2.cell (by first | assumption | (simp; assumption))).trans (by first | assumption | (simp; assumption)), (hB2.cell (by first | assumption | (simp; assumption))).trans (by first | assumption | (simp; assumption)), (hB2.cell (by first | assumption | (simp; assumption))).trans (by first | assumption | (simp; assumption)), (hB2.cell (by first | assumption | (simp; assumption))).trans (by first | assumption | (simp; assumption)), (hB2.cell (by first | assumption | (simp; assumption))).trans (by first | assumption | (simp; assumption)), (hB2.cell (by first | assumption | (simp; assumption))).trans (by first | assumption | (simp; assumption)), (hB2.cell (by first | assumption | (simp; assumption))).trans (by first | assumption | (simp; assumption))⟩))
                (first | (go_at_call 91; refine CB.out.mono ?_; rintro e w2 ⟨u2, rfl, hB2', hI2⟩; have hB2 := (Below.refl wr.heap.size wr).drew.trans (hB2'.mono (Nat.le_refl _))) | (go_at_call 65; refine (CK.out _ _ hB2 (hI2.wide (Nat.zero_le _) (Nat.le_refl _))).mono ?_; rintro e w3 ⟨rfl, hB3'⟩; have hB3 := hB2.trans (hB3'.mono hB2.size)))
              have HB5 := Lib.hid (HBr.out.trans (hB3.mono zr))
              clear hB2 hB3 hB3' hB2' hI2 P0 P1 S0 S1 E0 E1 E2 e0 e1 e2 f0 CB CK h0 h1 h2 h3
              go_wp2_with fail
              go_ret
              exact ⟨ret_int (by rw [HN.out]), HE.out _ HB5.out⟩
          · have HN := Lib.hid (HYES.out HLEN.out (HT0.out.trans HCT.out) (fun j hj => by rw [HT1.out]; exact HJ.out j (by omega)))
            go_wp2_with fail
            go_ret
            exact ⟨ret_int (by rw [HN.out, HT1.out]), HE.out _ hB⟩
      · have cu : (t0 != (kk : Int) + 1) = true := by rw [bne_iff_ne]; exact ct
        have HN := Lib.hid (HNO.out (.inr (.inr (.inl (by rw [HT0.out]; exact ct)))))
        clear ct
        go_region_held3 (fun w' => w'.cell? ⟨w.heap.size, 0, none⟩ = some (.slice (some ⟨bd, od, none⟩) p.decls.length b1) ∧ w'.cell? ⟨w.heap.size, 1, none⟩ = some (.slice B2 p.funcs.length b2) ∧ w'.cell? ⟨w.heap.size + 1, 0, none⟩ = some (.slice A3 g.length c3) ∧ w'.cell? ⟨w.heap.size + 1, 1, none⟩ = some (.slice A4 b.length c4) ∧ w'.cell? ⟨w.heap.size + 1 + 1, 0, none⟩ = some (.int .i64 o) ∧ w'.cell? ⟨w.heap.size + 1 + 1, 1, none⟩ = some (.int .i64 ((kk : Int) + 1)) ∧ w'.cell? ⟨w.heap.size + 1 + 1, 2, none⟩ = some (.slice (some ⟨b0, o0, none⟩) ks.length c) ∧ w'.cell? ⟨b0, o0, none⟩ = some (.int .i64 (nthX ks 0).op) ∧ w'.cell? ⟨b0, o0 + 1, none⟩ = some (.int .i64 (nthX ks 0).num) ∧ w'.cell? ⟨b0, o0 + 2, none⟩ = some (.slice A' (nthX ks 0).kids.length c'))
          (first | go_keep | (exact ⟨(hB1.cell (by first | assumption | (simp; assumption))).trans (by first | assumption | (simp; assumption)), (hB1.cell (by first | assumption | (simp; assumption))).trans (by first | assumption | (simp; assumption)), (hB1.cell (by first | assumption | (simp; assumption))).trans (by first | assumption | (simp; assumption)), (hB1.cell (by first | assumption | (simp; assumption))).trans (by first | assumption | (simp; assumption)), (hB1.cell (by first | assumption | (simp; assumption))).trans (by first | assumption | (simp; assumption)), (hB1.cell (by first | assumption | (simp; assumption))).trans (by first | assumption | (simp; assumption)), (hB1.cell (by first | assumption | (simp; assumption))).trans (by first | assumption | (simp; assumption)), (hB1.cell (by first | assumption | (simp; assumption))).trans (by first | assumption | (simp; assumption)), (hB1.cell (by first | assumption | (simp; assumption))).trans (by first | assumption | (simp; assumption)), (hB1.cell (by first | assumption | (simp; assumption))).trans (by first | assumption | (simp; assumption))⟩))
          (first | (go_at_call 65; refine C0.out.mono ?_; rintro e w1 ⟨rfl, hB1⟩))
        have HB1 := Lib.hid ((Below.refl W0.heap.size W0).drew.trans (hB1.mono (Nat.le_refl _)))
        clear hB1 P0 P1 S0 S1 E0 E1 E2 e0 e1 e2 C0
        go_wp2_with fail
        go_ret
        exact ⟨ret_int (by rw [HN.out]), HE.out _ HB1.out⟩
    · have hl2 : ((ks.length : Int) == 1 + (cs.length : Int)) = false := by rw [beq_eq_false_iff_ne]; omega
      have hl3 : ((ks.length : Int) != 1 + (cs.length : Int)) = true := by rw [bne_iff_ne]; omega
      rw [HNO.out (.inr (.inl hlen))]
      clear hlen HNO HYES
      go_enter Tryz.func84, Tryz.ntmps84
      go_wp2_with fail
      rw [← hW0]
      clear hW0
      refine (isData_is _ _ _ _ _ _ W0 (HDc.out W0 (Below.refl _ _)) HDT.out).mono ?_
      rintro e w1 ⟨rfl, rfl⟩
      go_wp2_with fail
      have s2 := HS2.out
      go_quiet (fail)
      go_wp2_with fail
      go_ret
      exact ⟨rfl, HE.out _ (below_drewN (Below.refl _ _) _)⟩
end Go.Proofs.YtihmkaodjpgikaaGreat
