/- Contracts of chapter 2, as the model types: the scope, kids of one type each. -/
import Derived.Test.YtihmkaodjpgikaaGreatPt6
namespace Go.Proofs.YtihmkaodjpgikaaGreat
open Go.RowKit Go.BigFrame
/-- What the model's typing is told of the scope. -/
structure ScS (w : World) (p : Pg) (pv vv : Value) (vars : List Int) : Prop where
  p : Pgm w 0 w.heap.size pv p
  v : Ints w 0 w.heap.size vv vars
theorem ScS.up {w w' : World} {p : Pg} {pv vv : Value} {vars : List Int} (h : ScS w p pv vv vars) (hB : Below w.heap.size w w') : ScS w' p pv vv vars :=
  ⟨(h.p.keep (Same.of_below hB (Nat.le_refl _))).wide (Nat.le_refl _) hB.size, (h.v.keep (Same.of_below hB (Nat.le_refl _))).wide (Nat.le_refl _) hB.size⟩
theorem ScS.drew {w : World} {p : Pg} {pv vv : Value} {vars : List Int} (h : ScS w p pv vv vars) : ScS w.drew p pv vv vars := h.up (Below.refl _ _).drew
/-- A kid's typing, by the model. -/
def TyS (p : Pg) (w0 : World) (L U : Nat) (u : Value) (e : Ex) : Prop := ∀ (pv vv : Value) (vars : List Int) (w : World), Same L U w0 w → U ≤ w.heap.size → ScS w p pv vv vars → vars.length + 3 * e.sum one_ ≤ 1900000 →
  Calls Tryz.prog 31 #[pv, vv, .agg #[.int .i64 e.op, .int .i64 e.num, u]] w fun x w' => x = .returned (.int .i64 (e.ty p vars)) ∧ Below w.heap.size w w'
theorem TyS.at_ {p : Pg} {w0 : World} {L U : Nat} {u : Value} {e : Ex} (h : TyS p w0 L U u e) {pv vv : Value} {vars : List Int} {w : World} (hS : Same L U w0 w) (hU : U ≤ w.heap.size) (sc : ScS w p pv vv vars) (hl : vars.length + 3 * e.sum one_ ≤ 1900000) {t : Int} (ht : e.ty p vars = t) :
    Calls Tryz.prog 31 #[pv, vv, .agg #[.int .i64 e.op, .int .i64 e.num, u]] w fun x w' => x = .returned (.int .i64 t) ∧ Below w.heap.size w w' := by
  subst ht; exact h pv vv vars w hS hU sc hl
set_option maxHeartbeats 1600000 in
theorem allInts_of {w0 : World} {L U : Nat} {A : Option Addr} {c : Nat} {V : Nat → Value} {ks : List Ex} (p : Pg) (r : Row w0 L U 3 A ks.length c (fun i j => exCell (nthX ks i) (V i) j)) (HV : Hid (∀ i, i < ks.length → ∃ A' c', V i = .slice A' (nthX ks i).kids.length c')) (HC : Hid (∀ i, i < ks.length → TyS p w0 L U (V i) (nthX ks i))) (pv vv : Value) (vars : List Int) (n : Nat) (w : World) (hS : Same L U w0 w) (hU : U ≤ w.heap.size) (sc : ScS w p pv vv vars) (hs : vars.length + 3 * sumL one_ ks ≤ 1900000) (hn : n ≤ 5) :
    Calls Tryz.prog 50 #[pv, vv, .slice A ks.length c, .int .i64 n] w fun x w' => x = .returned (.bool (decide (ks.length = n) && upTo n fun k => decide ((nthX ks k).ty p vars = 0))) ∧ Below w.heap.size w w' := by
  have hrl := r.le
  have hrc : c ≤ 9223372036854775807 := r.cap
  have hd0 := sc.p
  obtain ⟨dd, ff, rfl, hd, hf⟩ := hd0
  obtain ⟨B1, b1, rfl, l1, m1⟩ := hd.open_
  obtain ⟨B2, b2, rfl, l2, m2⟩ := hf.open_
  obtain ⟨A3, c3, rfl, l3, m3⟩ := sc.v.open_
  obtain ⟨W0, hW0⟩ : ∃ W0, W0 = w.alloc (.cells #[.slice B1 p.decls.length b1, .slice B2 p.funcs.length b2] 32) := ⟨_, rfl⟩
  have hB0 : Below w.heap.size w W0 := by rw [hW0]; exact (Below.refl _ w).alloc (Nat.le_refl _) _
  have hz0 : W0.heap.size = w.heap.size + 1 := by rw [hW0]; simp
  have x0 : W0.heap[w.heap.size]? = some (.cells #[.slice B1 p.decls.length b1, .slice B2 p.funcs.length b2] 32 (0, 0)) := by rw [hW0]; exact alloc_last _ _ _ rfl
  have HX := Lib.hid fun W (hB : Below W0.heap.size W0 W) => cells2 ((hB.block w.heap.size (by omega)).trans x0)
  have HSC := Lib.hid fun W (hB : Below W0.heap.size W0 W) => (sc.up hB0).up hB
  have HE := Lib.hid fun W (hB : Below W0.heap.size W0 W) => hB0.trans (hB.mono (show w.heap.size ≤ W0.heap.size by omega))
  have HS0 := Lib.hid fun W (hB : Below W0.heap.size W0 W) => hS.trans (Same.of_below (hB0.trans (hB.mono (show w.heap.size ≤ W0.heap.size by omega))) hU)
  have hw0 : w.heap.size < W0.heap.size := by omega
  have hU0 : U ≤ W0.heap.size := by omega
  by_cases hq : ks.length = n
  · have hn2 : ((ks.length : Int) != (n : Int)) = false := by rw [hq]; simp
    have HQ := Lib.hid hq
    clear sc hd hf hS x0 hq
    rw [decide_eq_true HQ.out, Bool.true_and]
    go_enter Tryz.func50, Tryz.ntmps50
    go_wp2_with fail
    rw [← hW0]
    clear hW0 hz0
    go_loopw [9] (fun i wr => ∃ k : Nat, k ≤ n ∧ i = .int .i64 k ∧ Hid (∀ j, j < k → decide ((nthX ks j).ty p vars = 0) = true) ∧ Below W0.heap.size W0 wr) (fun i _ => n - (intOf i).toNat)
    case atStart => exact ⟨0, by omega, rfl, before_zero, Below.refl _ _⟩
    case round =>
      obtain ⟨k, hk, rfl, HI, hB⟩ := hrel
      have hz := hB.size
      by_cases hlt : k < n
      · have hkl : k < ks.length := by have := HQ.out; omega
        obtain ⟨P0, P1⟩ := HX.out wr hB
        have hS1 := HS0.out wr hB
        obtain ⟨b, o, rfl, _, hbb, e0, e1, e2⟩ := row_at (r.keep hS1) hkl
        obtain ⟨A', c', hV⟩ := HV.out k hkl
        have hke := kid_le hkl
        obtain ⟨t, ht⟩ : ∃ t, (nthX ks k).ty p vars = t := ⟨_, rfl⟩
        have C0 := (HC.out k hkl).at_ (hS1.trans (same_drew _ _ wr)) (show U ≤ wr.drew.heap.size by show U ≤ wr.heap.size; omega) (HSC.out wr hB).drew (by omega) ht
        rw [hV] at e2 C0
        have C0 := Lib.hid C0
        have HB := Lib.hid hB
        have g0 : w.heap.size < wr.heap.size := by omega
        have g1 : b < wr.heap.size := by omega
        have k0 : (0 : Int) ≤ (k : Int) := by omega
        have k1 : (k : Int) < (ks.length : Int) := by omega
        by_cases h0 : t = 0
        · have tb : (t != 0) = false := by rw [h0]; rfl
          have HN := before_step HI (show decide ((nthX ks k).ty p vars = 0) = true by rw [ht, h0]; rfl)
          clear hS1 hV hB h0 ht HI
          go_wp2_with fail
          go_region_held3 (fun w' => w'.cell? ⟨w.heap.size, 0, none⟩ = some (.slice B1 p.decls.length b1) ∧ w'.cell? ⟨w.heap.size, 1, none⟩ = some (.slice B2 p.funcs.length b2) ∧ w'.cell? ⟨b, o + k * 3, none⟩ = some (.int .i64 (nthX ks k).op) ∧ w'.cell? ⟨b, o + k * 3 + 1, none⟩ = some (.int .i64 (nthX ks k).num) ∧ w'.cell? ⟨b, o + k * 3 + 2, none⟩ = some (.slice A' (nthX ks k).kids.length c'))
            (first | go_keep | (exact ⟨(hB1.cell (by first | assumption | (simp; assumption))).trans (by first | assumption | (simp; assumption)), (hB1.cell (by first | assumption | (simp; assumption))).trans (by first | assumption | (simp; assumption)), (hB1.cell (by first | assumption | (simp; assumption))).trans (by first | assumption | (simp; assumption)), (hB1.cell (by first | assumption | (simp; assumption))).trans (by first | assumption | (simp; assumption)), (hB1.cell (by first | assumption | (simp; assumption))).trans (by first | assumption | (simp; assumption))⟩))
            (first | (go_at_call 31; refine C0.out.mono ?_; rintro e w1 ⟨rfl, hB1⟩))
          have HB1 := Lib.hid (HB.out.trans (((Below.refl wr.heap.size wr).drew.trans (hB1.mono (Nat.le_refl _))).mono hz))
          clear hB1 P0 P1 e0 e1 e2
          go_wp2_with fail
          go_roundw
          case rel => exact ⟨k + 1, by omega, by go_num, HN, HB1.out⟩
          case measure => simp [intOf]; omega
        · have tb : (t != 0) = true := by rw [bne_iff_ne]; exact h0
          have HN := Lib.hid (upTo_stop (P := fun k => decide ((nthX ks k).ty p vars = 0)) hlt (show decide ((nthX ks k).ty p vars = 0) = false by rw [ht]; exact decide_eq_false h0))
          clear hS1 hV hB h0 ht HI
          go_wp2_with fail
          go_region_held3 (fun w' => w'.cell? ⟨w.heap.size, 0, none⟩ = some (.slice B1 p.decls.length b1) ∧ w'.cell? ⟨w.heap.size, 1, none⟩ = some (.slice B2 p.funcs.length b2) ∧ w'.cell? ⟨b, o + k * 3, none⟩ = some (.int .i64 (nthX ks k).op) ∧ w'.cell? ⟨b, o + k * 3 + 1, none⟩ = some (.int .i64 (nthX ks k).num) ∧ w'.cell? ⟨b, o + k * 3 + 2, none⟩ = some (.slice A' (nthX ks k).kids.length c'))
            (first | go_keep | (exact ⟨(hB1.cell (by first | assumption | (simp; assumption))).trans (by first | assumption | (simp; assumption)), (hB1.cell (by first | assumption | (simp; assumption))).trans (by first | assumption | (simp; assumption)), (hB1.cell (by first | assumption | (simp; assumption))).trans (by first | assumption | (simp; assumption)), (hB1.cell (by first | assumption | (simp; assumption))).trans (by first | assumption | (simp; assumption)), (hB1.cell (by first | assumption | (simp; assumption))).trans (by first | assumption | (simp; assumption))⟩))
            (first | (go_at_call 31; refine C0.out.mono ?_; rintro e w1 ⟨rfl, hB1⟩))
          have HB1 := Lib.hid (HE.out _ (HB.out.trans (((Below.refl wr.heap.size wr).drew.trans (hB1.mono (Nat.le_refl _))).mono hz)))
          clear hB1 P0 P1 e0 e1 e2
          go_wp2_with fail
          go_ret
          exact ⟨ret_bool (by rw [HN.out]), HB1.out⟩
      · go_wp2_with fail
        go_ret
        exact ⟨ret_bool (by rw [upTo_done HI hlt]), HE.out _ hB⟩
  · have hn2 : ((ks.length : Int) != (n : Int)) = true := by rw [bne_iff_ne]; omega
    rw [decide_eq_false hq, Bool.false_and]
    clear sc hd hf hS x0 hq
    go_enter Tryz.func50, Tryz.ntmps50
    go_wp2_with fail
    rw [← hW0]
    go_ret
    exact ⟨rfl, hB0⟩
set_option maxHeartbeats 1600000 in
theorem allOf_of {w0 : World} {L U : Nat} {A : Option Addr} {c : Nat} {V : Nat → Value} {ks : List Ex} (p : Pg) (r : Row w0 L U 3 A ks.length c (fun i j => exCell (nthX ks i) (V i) j)) (HV : Hid (∀ i, i < ks.length → ∃ A' c', V i = .slice A' (nthX ks i).kids.length c')) (HC : Hid (∀ i, i < ks.length → TyS p w0 L U (V i) (nthX ks i))) (pv vv : Value) (vars : List Int) (ts : List Int) (tv : Value) (w : World) (hS : Same L U w0 w) (hU : U ≤ w.heap.size) (sc : ScS w p pv vv vars) (hs : vars.length + 3 * sumL one_ ks ≤ 1900000) (hT : Ints w 0 w.heap.size tv ts) :
    Calls Tryz.prog 52 #[pv, vv, .slice A ks.length c, tv] w fun x w' => x = .returned (.bool (decide (ks.length = ts.length) && upTo ts.length fun k => decide ((nthX ks k).ty p vars = nth ts k))) ∧ Below w.heap.size w w' := by
  have hrl := r.le
  have hrc : c ≤ 9223372036854775807 := r.cap
  have hd0 := sc.p
  obtain ⟨dd, ff, rfl, hd, hf⟩ := hd0
  obtain ⟨B1, b1, rfl, l1, m1⟩ := hd.open_
  obtain ⟨B2, b2, rfl, l2, m2⟩ := hf.open_
  obtain ⟨A3, c3, rfl, l3, m3⟩ := sc.v.open_
  obtain ⟨W0, hW0⟩ : ∃ W0, W0 = w.alloc (.cells #[.slice B1 p.decls.length b1, .slice B2 p.funcs.length b2] 32) := ⟨_, rfl⟩
  have hB0 : Below w.heap.size w W0 := by rw [hW0]; exact (Below.refl _ w).alloc (Nat.le_refl _) _
  have hz0 : W0.heap.size = w.heap.size + 1 := by rw [hW0]; simp
  have x0 : W0.heap[w.heap.size]? = some (.cells #[.slice B1 p.decls.length b1, .slice B2 p.funcs.length b2] 32 (0, 0)) := by rw [hW0]; exact alloc_last _ _ _ rfl
  have HX := Lib.hid fun W (hB : Below W0.heap.size W0 W) => cells2 ((hB.block w.heap.size (by omega)).trans x0)
  have HSC := Lib.hid fun W (hB : Below W0.heap.size W0 W) => (sc.up hB0).up hB
  have HE := Lib.hid fun W (hB : Below W0.heap.size W0 W) => hB0.trans (hB.mono (show w.heap.size ≤ W0.heap.size by omega))
  have HS0 := Lib.hid fun W (hB : Below W0.heap.size W0 W) => hS.trans (Same.of_below (hB0.trans (hB.mono (show w.heap.size ≤ W0.heap.size by omega))) hU)
  have hw0 : w.heap.size < W0.heap.size := by omega
  have hU0 : U ≤ W0.heap.size := by omega
  obtain ⟨A5, c5, rfl, l5, m5⟩ := hT.open_
  have HT := Lib.hid fun W (hB : Below W0.heap.size W0 W) => hT.keep (Same.of_below (hB0.trans (hB.mono (show w.heap.size ≤ W0.heap.size by omega))) (Nat.le_refl _))
  have hl0 := sumL_length ks
  by_cases hq : ks.length = ts.length
  · have hn2 : ((ks.length : Int) != (ts.length : Int)) = false := by rw [hq]; simp
    have HQ := Lib.hid hq
    have hts : ts.length ≤ 1900000 := by omega
    clear sc hd hf hS x0 hq hT hl0
    rw [decide_eq_true HQ.out, Bool.true_and]
    go_enter Tryz.func52, Tryz.ntmps52
    go_wp2_with fail
    rw [← hW0]
    clear hW0 hz0
    go_loopw [9] (fun i wr => ∃ k : Nat, k ≤ ts.length ∧ i = .int .i64 k ∧ Hid (∀ j, j < k → decide ((nthX ks j).ty p vars = nth ts j) = true) ∧ Below W0.heap.size W0 wr) (fun i _ => ts.length - (intOf i).toNat)
    case atStart => exact ⟨0, by omega, rfl, before_zero, Below.refl _ _⟩
    case round =>
      obtain ⟨k, hk, rfl, HI, hB⟩ := hrel
      have hz := hB.size
      by_cases hlt : k < ts.length
      · have hkl : k < ks.length := by have := HQ.out; omega
        obtain ⟨P0, P1⟩ := HX.out wr hB
        have hS1 := HS0.out wr hB
        obtain ⟨b, o, rfl, _, hbb, e0, e1, e2⟩ := row_at (r.keep hS1) hkl
        obtain ⟨b5, o5, rfl, _, hb5, e5⟩ := (HT.out wr hB).at_ hlt
        obtain ⟨A', c', hV⟩ := HV.out k hkl
        have hke := kid_le hkl
        obtain ⟨t, ht⟩ : ∃ t, (nthX ks k).ty p vars = t := ⟨_, rfl⟩
        have C0 := (HC.out k hkl).at_ (hS1.trans (same_drew _ _ wr)) (show U ≤ wr.drew.heap.size by show U ≤ wr.heap.size; omega) (HSC.out wr hB).drew (by omega) ht
        rw [hV] at e2 C0
        have C0 := Lib.hid C0
        have HB := Lib.hid hB
        have g0 : w.heap.size < wr.heap.size := by omega
        have g1 : b < wr.heap.size := by omega
        have g2 : b5 < wr.heap.size := by omega
        have k0 : (0 : Int) ≤ (k : Int) := by omega
        have k1 : (k : Int) < (ks.length : Int) := by omega
        have k2 : (k : Int) < (ts.length : Int) := by omega
        have hnth := nth_of hlt
        by_cases h0 : t = ts[k]
        · have tb : (t != ts[k]) = false := by rw [h0]; simp
          have HN := before_step HI (show decide ((nthX ks k).ty p vars = nth ts k) = true by rw [ht, h0, hnth]; simp)
          clear hS1 hV hB h0 ht HI hnth
          go_wp2_with fail
          go_region_held3 (fun w' => w'.cell? ⟨w.heap.size, 0, none⟩ = some (.slice B1 p.decls.length b1) ∧ w'.cell? ⟨w.heap.size, 1, none⟩ = some (.slice B2 p.funcs.length b2) ∧ w'.cell? ⟨b, o + k * 3, none⟩ = some (.int .i64 (nthX ks k).op) ∧ w'.cell? ⟨b, o + k * 3 + 1, none⟩ = some (.int .i64 (nthX ks k).num) ∧ w'.cell? ⟨b, o + k * 3 + 2, none⟩ = some (.slice A' (nthX ks k).kids.length c') ∧ w'.cell? ⟨b5, o5 + k, none⟩ = some (.int .i64 ts[k]))
            (first | go_keep | (exact ⟨(hB1.cell (by first | assumption | (simp; assumption))).trans (by first | assumption | (simp; assumption)), (hB1.cell (by first | assumption | (simp; assumption))).trans (by first | assumption | (simp; assumption)), (hB1.cell (by first | assumption | (simp; assumption))).trans (by first | assumption | (simp; assumption)), (hB1.cell (by first | assumption | (simp; assumption))).trans (by first | assumption | (simp; assumption)), (hB1.cell (by first | assumption | (simp; assumption))).trans (by first | assumption | (simp; assumption)), (hB1.cell (by first | assumption | (simp; assumption))).trans (by first | assumption | (simp; assumption))⟩))
            (first | (go_at_call 31; refine C0.out.mono ?_; rintro e w1 ⟨rfl, hB1⟩))
          have HB1 := Lib.hid (HB.out.trans (((Below.refl wr.heap.size wr).drew.trans (hB1.mono (Nat.le_refl _))).mono hz))
          clear hB1 P0 P1 e0 e1 e2 e5
          go_wp2_with fail
          go_roundw
          case rel => exact ⟨k + 1, by omega, by go_num, HN, HB1.out⟩
          case measure => simp [intOf]; omega
        · have tb : (t != ts[k]) = true := by rw [bne_iff_ne]; exact h0
          have HN := Lib.hid (upTo_stop (P := fun k => decide ((nthX ks k).ty p vars = nth ts k)) hlt (show decide ((nthX ks k).ty p vars = nth ts k) = false by rw [ht, hnth]; exact decide_eq_false h0))
          clear hS1 hV hB h0 ht HI hnth
          go_wp2_with fail
          go_region_held3 (fun w' => w'.cell? ⟨w.heap.size, 0, none⟩ = some (.slice B1 p.decls.length b1) ∧ w'.cell? ⟨w.heap.size, 1, none⟩ = some (.slice B2 p.funcs.length b2) ∧ w'.cell? ⟨b, o + k * 3, none⟩ = some (.int .i64 (nthX ks k).op) ∧ w'.cell? ⟨b, o + k * 3 + 1, none⟩ = some (.int .i64 (nthX ks k).num) ∧ w'.cell? ⟨b, o + k * 3 + 2, none⟩ = some (.slice A' (nthX ks k).kids.length c') ∧ w'.cell? ⟨b5, o5 + k, none⟩ = some (.int .i64 ts[k]))
            (first | go_keep | (exact ⟨(hB1.cell (by first | assumption | (simp; assumption))).trans (by first | assumption | (simp; assumption)), (hB1.cell (by first | assumption | (simp; assumption))).trans (by first | assumption | (simp; assumption)), (hB1.cell (by first | assumption | (simp; assumption))).trans (by first | assumption | (simp; assumption)), (hB1.cell (by first | assumption | (simp; assumption))).trans (by first | assumption | (simp; assumption)), (hB1.cell (by first | assumption | (simp; assumption))).trans (by first | assumption | (simp; assumption)), (hB1.cell (by first | assumption | (simp; assumption))).trans (by first | assumption | (simp; assumption))⟩))
            (first | (go_at_call 31; refine C0.out.mono ?_; rintro e w1 ⟨rfl, hB1⟩))
          have HB1 := Lib.hid (HE.out _ (HB.out.trans (((Below.refl wr.heap.size wr).drew.trans (hB1.mono (Nat.le_refl _))).mono hz)))
          clear hB1 P0 P1 e0 e1 e2 e5
          go_wp2_with fail
          go_ret
          exact ⟨ret_bool (by rw [HN.out]), HB1.out⟩
      · go_wp2_with fail
        go_ret
        exact ⟨ret_bool (by rw [upTo_done HI hlt]), HE.out _ hB⟩
  · have hn2 : ((ks.length : Int) != (ts.length : Int)) = true := by rw [bne_iff_ne]; omega
    rw [decide_eq_false hq, Bool.false_and]
    clear sc hd hf hS x0 hq hT
    go_enter Tryz.func52, Tryz.ntmps52
    go_wp2_with fail
    rw [← hW0]
    go_ret
    exact ⟨rfl, hB0⟩
end Go.Proofs.YtihmkaodjpgikaaGreat
