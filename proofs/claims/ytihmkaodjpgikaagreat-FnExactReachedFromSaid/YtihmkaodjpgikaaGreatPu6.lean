/- Contracts of chapter 2, as the model types: integers, variables, sums, prints. -/
import Derived.Test.YtihmkaodjpgikaaGreatPu4
namespace Go.Proofs.YtihmkaodjpgikaaGreat
open Go.RowKit Go.BigFrame
set_option maxRecDepth 100000 in
set_option maxHeartbeats 1600000 in
theorem typeOfInt_of {w0 : World} {L U : Nat} {A : Option Addr} {c : Nat} {V : Nat → Value} {ks : List Ex} (p : Pg) (r : Row w0 L U 3 A ks.length c (fun i j => exCell (nthX ks i) (V i) j)) (HV : Hid (∀ i, i < ks.length → ∃ A' c', V i = .slice A' (nthX ks i).kids.length c')) (HC : Hid (∀ i, i < ks.length → TyS p w0 L U (V i) (nthX ks i))) (pv vv : Value) (vars : List Int) (n : Int) (w : World) (hS : Same L U w0 w) (hU : U ≤ w.heap.size) (sc : ScS w p pv vv vars) (hs : vars.length + 3 + 3 * sumL one_ ks ≤ 1900000) :
    Calls Tryz.prog 31 #[pv, vv, .agg #[.int .i64 0, .int .i64 n, .slice A ks.length c]] w fun x w' => x = .returned (.int .i64 (resV p 0 n (tysL p vars ks))) ∧ Below w.heap.size w w' := by
  have hrl := r.le
  have hrc : c ≤ 9223372036854775807 := r.cap
  have hd0 := sc.p
  obtain ⟨dd, ff, rfl, hd, hf⟩ := hd0
  obtain ⟨B1, b1, rfl, l1, m1⟩ := hd.open_
  obtain ⟨B2, b2, rfl, l2, m2⟩ := hf.open_
  obtain ⟨A3, c3, rfl, l3, m3⟩ := sc.v.open_
  obtain ⟨W0, hW0⟩ : ∃ W0, W0 = (w.alloc (.cells #[.slice B1 p.decls.length b1, .slice B2 p.funcs.length b2] 32)).alloc (.cells #[.int .i64 0, .int .i64 n, .slice A ks.length c] 64) := ⟨_, rfl⟩
  have hB0 : Below w.heap.size w W0 := by rw [hW0]; exact ((Below.refl _ w).alloc (Nat.le_refl _) _).alloc (by simp) _
  have hz0 : W0.heap.size = w.heap.size + 2 := by rw [hW0]; simp
  have x0 : W0.heap[w.heap.size]? = some (.cells #[.slice B1 p.decls.length b1, .slice B2 p.funcs.length b2] 32 (0, 0)) := by rw [hW0]; refine Eq.trans (Below.heap_alloc _ _ _ (by simp only [World.size_alloc]; omega)) ?_; exact alloc_last _ _ _ (by simp)
  have x1 : W0.heap[w.heap.size + 1]? = some (.cells #[.int .i64 0, .int .i64 n, .slice A ks.length c] 64 (0, 0)) := by rw [hW0]; exact alloc_last _ _ _ (by simp)
  have HX := Lib.hid fun W (hB : Below W0.heap.size W0 W) => (show (W.cell? ⟨w.heap.size, 0, none⟩ = some (.slice B1 p.decls.length b1) ∧ W.cell? ⟨w.heap.size, 1, none⟩ = some (.slice B2 p.funcs.length b2)) ∧ (W.cell? ⟨w.heap.size + 1, 0, none⟩ = some (.int .i64 0) ∧ W.cell? ⟨w.heap.size + 1, 1, none⟩ = some (.int .i64 n) ∧ W.cell? ⟨w.heap.size + 1, 2, none⟩ = some (.slice A ks.length c)) from ⟨cells2 ((hB.block w.heap.size (by omega)).trans x0), three ((hB.block (w.heap.size + 1) (by omega)).trans x1)⟩)
  have HSC := Lib.hid fun W (hB : Below W0.heap.size W0 W) => (sc.up hB0).up hB
  have HE := Lib.hid fun W (hB : Below W0.heap.size W0 W) => hB0.trans (hB.mono (show w.heap.size ≤ W0.heap.size by omega))
  have HS0 := Lib.hid fun W (hB : Below W0.heap.size W0 W) => hS.trans (Same.of_below (hB0.trans (hB.mono (show w.heap.size ≤ W0.heap.size by omega))) hU)
  have HZ := Lib.hid hz0
  have HR := Lib.hid r
  clear sc hd hf hS x0 x1 hz0 r
  obtain ⟨⟨P0, P1⟩, ⟨E0, E1, E2⟩⟩ := HX.out W0 (Below.refl _ _)
  by_cases h0 : ks.length = 0
  · have hk0 : ks = [] := List.eq_nil_of_length_eq_zero h0
    subst hk0
    simp only [List.length_nil] at hW0
    obtain ⟨b, hb⟩ : ∃ b, (decide (-999 ≤ n) && decide (n ≤ 999)) = b := ⟨_, rfl⟩
    have CI : Hid (∀ W, Calls Tryz.prog 16 #[.int .i64 n, .int .i64 (-999), .int .i64 999] W fun e w' => e = .returned (.bool b) ∧ W = w') := fun W => by
      have := inRange_any n (-999) 999 W
      rw [hb] at this
      exact this
    rw [show resV p 0 n (tysL p vars []) = cond b 0 (-1) by
      subst hb
      unfold resV
      rw [if_pos rfl]
      by_cases h : -999 ≤ n ∧ n ≤ 999
      · rw [if_pos ⟨h.1, h.2, rfl⟩, decide_eq_true h.1, decide_eq_true h.2]; rfl
      · rw [if_neg (fun e => h ⟨e.1, e.2.1⟩)]
        by_cases h1 : -999 ≤ n
        · rw [decide_eq_true h1, decide_eq_false (fun e => h ⟨h1, e⟩)]; rfl
        · rw [decide_eq_false h1]; rfl]
    clear hb h0
    rcases b with _ | _
    all_goals (
      go_enter Tryz.func31, Tryz.ntmps31
      go_wp2_with (go_at_call 16; refine (CI.out _).mono ?_; rintro e w' ⟨rfl, rfl⟩)
      go_ret
      exact ⟨rfl, by rw [← hW0]; exact HE.out _ (Below.refl _ _)⟩)
  · rw [show resV p 0 n (tysL p vars ks) = -1 by
      unfold resV
      rw [if_pos rfl, if_neg]
      rintro ⟨_, _, e⟩
      exact h0 (by rw [← length_tysL p vars ks, e]; rfl)]
    have h3 : ¬ ks = [] := fun e => h0 (by rw [e]; rfl)
    have h4 : ((ks.length : Int) == 0) = false := by rw [beq_eq_false_iff_ne]; omega
    clear h0
    go_enter Tryz.func31, Tryz.ntmps31
    go_wp2_with fail
    go_ret
    exact ⟨rfl, by rw [← hW0]; exact HE.out _ (Below.refl _ _)⟩
set_option maxRecDepth 100000 in
set_option maxHeartbeats 1600000 in
theorem typeOfVarS_of {w0 : World} {L U : Nat} {A : Option Addr} {c : Nat} {V : Nat → Value} {ks : List Ex} (p : Pg) (r : Row w0 L U 3 A ks.length c (fun i j => exCell (nthX ks i) (V i) j)) (HV : Hid (∀ i, i < ks.length → ∃ A' c', V i = .slice A' (nthX ks i).kids.length c')) (HC : Hid (∀ i, i < ks.length → TyS p w0 L U (V i) (nthX ks i))) (pv vv : Value) (vars : List Int) (n : Int) (w : World) (hS : Same L U w0 w) (hU : U ≤ w.heap.size) (sc : ScS w p pv vv vars) (hs : vars.length + 3 + 3 * sumL one_ ks ≤ 1900000) :
    Calls Tryz.prog 31 #[pv, vv, .agg #[.int .i64 12, .int .i64 n, .slice A ks.length c]] w fun x w' => x = .returned (.int .i64 ((if ks.length = 0 then varTy vars n else -1))) ∧ Below w.heap.size w w' := by
  have hrl := r.le
  have hrc : c ≤ 9223372036854775807 := r.cap
  have hd0 := sc.p
  obtain ⟨dd, ff, rfl, hd, hf⟩ := hd0
  obtain ⟨B1, b1, rfl, l1, m1⟩ := hd.open_
  obtain ⟨B2, b2, rfl, l2, m2⟩ := hf.open_
  obtain ⟨A3, c3, rfl, l3, m3⟩ := sc.v.open_
  obtain ⟨W0, hW0⟩ : ∃ W0, W0 = (w.alloc (.cells #[.slice B1 p.decls.length b1, .slice B2 p.funcs.length b2] 32)).alloc (.cells #[.int .i64 12, .int .i64 n, .slice A ks.length c] 64) := ⟨_, rfl⟩
  have hB0 : Below w.heap.size w W0 := by rw [hW0]; exact ((Below.refl _ w).alloc (Nat.le_refl _) _).alloc (by simp) _
  have hz0 : W0.heap.size = w.heap.size + 2 := by rw [hW0]; simp
  have x0 : W0.heap[w.heap.size]? = some (.cells #[.slice B1 p.decls.length b1, .slice B2 p.funcs.length b2] 32 (0, 0)) := by rw [hW0]; refine Eq.trans (Below.heap_alloc _ _ _ (by simp only [World.size_alloc]; omega)) ?_; exact alloc_last _ _ _ (by simp)
  have x1 : W0.heap[w.heap.size + 1]? = some (.cells #[.int .i64 12, .int .i64 n, .slice A ks.length c] 64 (0, 0)) := by rw [hW0]; exact alloc_last _ _ _ (by simp)
  have HX := Lib.hid fun W (hB : Below W0.heap.size W0 W) => (show (W.cell? ⟨w.heap.size, 0, none⟩ = some (.slice B1 p.decls.length b1) ∧ W.cell? ⟨w.heap.size, 1, none⟩ = some (.slice B2 p.funcs.length b2)) ∧ (W.cell? ⟨w.heap.size + 1, 0, none⟩ = some (.int .i64 12) ∧ W.cell? ⟨w.heap.size + 1, 1, none⟩ = some (.int .i64 n) ∧ W.cell? ⟨w.heap.size + 1, 2, none⟩ = some (.slice A ks.length c)) from ⟨cells2 ((hB.block w.heap.size (by omega)).trans x0), three ((hB.block (w.heap.size + 1) (by omega)).trans x1)⟩)
  have HSC := Lib.hid fun W (hB : Below W0.heap.size W0 W) => (sc.up hB0).up hB
  have HE := Lib.hid fun W (hB : Below W0.heap.size W0 W) => hB0.trans (hB.mono (show w.heap.size ≤ W0.heap.size by omega))
  have HS0 := Lib.hid fun W (hB : Below W0.heap.size W0 W) => hS.trans (Same.of_below (hB0.trans (hB.mono (show w.heap.size ≤ W0.heap.size by omega))) hU)
  have HZ := Lib.hid hz0
  have HR := Lib.hid r
  have hv0 := sc.v
  clear sc hd hf hS x0 x1 hz0 r
  obtain ⟨⟨P0, P1⟩, ⟨E0, E1, E2⟩⟩ := HX.out W0 (Below.refl _ _)
  by_cases h0 : ks.length = 0
  · have hk0 : ks = [] := List.eq_nil_of_length_eq_zero h0
    subst hk0
    simp only [List.length_nil] at hW0
    rw [if_pos (by rfl)]
    have s1 : IntKind.i64.wrap ((vars.length : Int) - 1) = (vars.length : Int) - 1 := IntWalk.i64_in _ (by omega)
    obtain ⟨b, hb⟩ : ∃ b, (decide (0 ≤ n) && decide (n ≤ (vars.length : Int) - 1)) = b := ⟨_, rfl⟩
    have CI : Hid (∀ W, Calls Tryz.prog 16 #[.int .i64 n, .int .i64 0, .int .i64 ((vars.length : Int) - 1)] W fun e w' => e = .returned (.bool b) ∧ W = w') := fun W => by
      have := inRange_any n 0 ((vars.length : Int) - 1) W
      rw [hb] at this
      exact this
    clear h0
    rcases b with _ | _
    · rw [show varTy vars n = -1 by
        unfold varTy
        rw [if_neg]
        rintro ⟨h1, h2⟩
        rw [decide_eq_true h1, decide_eq_true (by omega)] at hb
        cases hb]
      clear hb
      go_enter Tryz.func31, Tryz.ntmps31
      go_wp2_with (go_at_call 16; refine (CI.out _).mono ?_; rintro e w' ⟨rfl, rfl⟩)
      go_ret
      exact ⟨rfl, by rw [← hW0]; exact HE.out _ (Below.refl _ _)⟩
    · obtain ⟨h1, h2⟩ := Bool.and_eq_true_iff.1 hb
      have h1 := of_decide_eq_true h1
      have h2 := of_decide_eq_true h2
      obtain ⟨k, rfl⟩ : ∃ k : Nat, n = (k : Int) := ⟨n.toNat, by omega⟩
      have hk : k < vars.length := by omega
      obtain ⟨b9, o9, rfl, _, l9, y0⟩ := (HSC.out W0 (Below.refl _ _)).v.at_ hk
      rw [show varTy vars (k : Int) = vars[k] by unfold varTy; rw [if_pos ⟨by omega, by omega⟩, Int.toNat_natCast, nth_of hk]]
      have i0 : (0 : Int) ≤ (k : Int) := by omega
      have i1 : (k : Int) < (vars.length : Int) := by omega
      rw [hW0] at y0
      clear hb h1 h2 hv0
      go_enter Tryz.func31, Tryz.ntmps31
      go_wp2_with (go_at_call 16; refine (CI.out _).mono ?_; rintro e w' ⟨rfl, rfl⟩)
      go_ret
      exact ⟨rfl, by rw [← hW0]; exact HE.out _ (Below.refl _ _)⟩
  · rw [if_neg h0]
    have h3 : ¬ ks = [] := fun e => h0 (by rw [e]; rfl)
    have h4 : ((ks.length : Int) == 0) = false := by rw [beq_eq_false_iff_ne]; omega
    clear h0
    go_enter Tryz.func31, Tryz.ntmps31
    go_wp2_with fail
    go_ret
    exact ⟨rfl, by rw [← hW0]; exact HE.out _ (Below.refl _ _)⟩
set_option maxRecDepth 100000 in
set_option maxHeartbeats 1600000 in
theorem typeOfArith1_of {w0 : World} {L U : Nat} {A : Option Addr} {c : Nat} {V : Nat → Value} {ks : List Ex} (p : Pg) (r : Row w0 L U 3 A ks.length c (fun i j => exCell (nthX ks i) (V i) j)) (HV : Hid (∀ i, i < ks.length → ∃ A' c', V i = .slice A' (nthX ks i).kids.length c')) (HC : Hid (∀ i, i < ks.length → TyS p w0 L U (V i) (nthX ks i))) (pv vv : Value) (vars : List Int) (n : Int) (w : World) (hS : Same L U w0 w) (hU : U ≤ w.heap.size) (sc : ScS w p pv vv vars) (hs : vars.length + 3 + 3 * sumL one_ ks ≤ 1900000) :
    Calls Tryz.prog 31 #[pv, vv, .agg #[.int .i64 1, .int .i64 n, .slice A ks.length c]] w fun x w' => x = .returned (.int .i64 (resV p 1 n (tysL p vars ks))) ∧ Below w.heap.size w w' := by
  have hrl := r.le
  have hrc : c ≤ 9223372036854775807 := r.cap
  have hd0 := sc.p
  obtain ⟨dd, ff, rfl, hd, hf⟩ := hd0
  obtain ⟨B1, b1, rfl, l1, m1⟩ := hd.open_
  obtain ⟨B2, b2, rfl, l2, m2⟩ := hf.open_
  obtain ⟨A3, c3, rfl, l3, m3⟩ := sc.v.open_
  obtain ⟨W0, hW0⟩ : ∃ W0, W0 = (w.alloc (.cells #[.slice B1 p.decls.length b1, .slice B2 p.funcs.length b2] 32)).alloc (.cells #[.int .i64 1, .int .i64 n, .slice A ks.length c] 64) := ⟨_, rfl⟩
  have hB0 : Below w.heap.size w W0 := by rw [hW0]; exact ((Below.refl _ w).alloc (Nat.le_refl _) _).alloc (by simp) _
  have hz0 : W0.heap.size = w.heap.size + 2 := by rw [hW0]; simp
  have x0 : W0.heap[w.heap.size]? = some (.cells #[.slice B1 p.decls.length b1, .slice B2 p.funcs.length b2] 32 (0, 0)) := by rw [hW0]; refine Eq.trans (Below.heap_alloc _ _ _ (by simp only [World.size_alloc]; omega)) ?_; exact alloc_last _ _ _ (by simp)
  have x1 : W0.heap[w.heap.size + 1]? = some (.cells #[.int .i64 1, .int .i64 n, .slice A ks.length c] 64 (0, 0)) := by rw [hW0]; exact alloc_last _ _ _ (by simp)
  have HX := Lib.hid fun W (hB : Below W0.heap.size W0 W) => (show (W.cell? ⟨w.heap.size, 0, none⟩ = some (.slice B1 p.decls.length b1) ∧ W.cell? ⟨w.heap.size, 1, none⟩ = some (.slice B2 p.funcs.length b2)) ∧ (W.cell? ⟨w.heap.size + 1, 0, none⟩ = some (.int .i64 1) ∧ W.cell? ⟨w.heap.size + 1, 1, none⟩ = some (.int .i64 n) ∧ W.cell? ⟨w.heap.size + 1, 2, none⟩ = some (.slice A ks.length c)) from ⟨cells2 ((hB.block w.heap.size (by omega)).trans x0), three ((hB.block (w.heap.size + 1) (by omega)).trans x1)⟩)
  have HSC := Lib.hid fun W (hB : Below W0.heap.size W0 W) => (sc.up hB0).up hB
  have HE := Lib.hid fun W (hB : Below W0.heap.size W0 W) => hB0.trans (hB.mono (show w.heap.size ≤ W0.heap.size by omega))
  have HS0 := Lib.hid fun W (hB : Below W0.heap.size W0 W) => hS.trans (Same.of_below (hB0.trans (hB.mono (show w.heap.size ≤ W0.heap.size by omega))) hU)
  have HZ := Lib.hid hz0
  have hlen := sumL_length ks
  have CA := Lib.hid (allInts_of p r HV HC _ _ vars 2 W0 (HS0.out W0 (Below.refl _ _)) (by have := HZ.out; omega) (HSC.out W0 (Below.refl _ _)) (by omega) (by omega))
  rw [allInts_is] at CA
  have HR := Lib.hid r
  clear sc hd hf hS x0 x1 hz0 r
  obtain ⟨⟨P0, P1⟩, ⟨E0, E1, E2⟩⟩ := HX.out W0 (Below.refl _ _)
  by_cases c1 : n = 0
  · subst c1
    obtain ⟨b, hb⟩ : ∃ b, decide (tysL p vars ks = List.replicate 2 0) = b := ⟨_, rfl⟩
    rw [hb] at CA
    rw [show resV p 1 0 (tysL p vars ks) = cond b 0 (-1) by
      subst hb
      unfold resV; rw [if_neg (by omega), if_pos (Or.inl rfl)]
      by_cases h : tysL p vars ks = [0, 0]
      · rw [if_pos ⟨rfl, h⟩, decide_eq_true (by rw [h]; rfl)]; rfl
      · rw [if_neg (fun e => h e.2), decide_eq_false (fun e => h (by rw [e]; rfl))]; rfl]
    clear hb
    rcases b with _ | _
    all_goals (
      go_enter Tryz.func31, Tryz.ntmps31
      go_wp2_with fail
      rw [← hW0]
      clear hW0
      refine CA.out.mono ?_
      rintro e w1 ⟨rfl, hB1⟩
      have HB1 := Lib.hid (HE.out _ hB1)
      clear hB1
      go_wp2_with fail
      go_ret
      exact ⟨rfl, HB1.out⟩)
  · have c3 : (n == 0) = false := by rw [beq_eq_false_iff_ne]; exact c1
    rw [show resV p 1 n (tysL p vars ks) = -1 by
      unfold resV; rw [if_neg (by omega), if_pos (Or.inl rfl)]
      rw [if_neg (fun e => c1 e.1)]]
    clear c1
    go_enter Tryz.func31, Tryz.ntmps31
    go_wp2_with fail
    go_ret
    exact ⟨rfl, by rw [← hW0]; exact HE.out _ (Below.refl _ _)⟩
set_option maxRecDepth 100000 in
set_option maxHeartbeats 1600000 in
theorem typeOfArith2_of {w0 : World} {L U : Nat} {A : Option Addr} {c : Nat} {V : Nat → Value} {ks : List Ex} (p : Pg) (r : Row w0 L U 3 A ks.length c (fun i j => exCell (nthX ks i) (V i) j)) (HV : Hid (∀ i, i < ks.length → ∃ A' c', V i = .slice A' (nthX ks i).kids.length c')) (HC : Hid (∀ i, i < ks.length → TyS p w0 L U (V i) (nthX ks i))) (pv vv : Value) (vars : List Int) (n : Int) (w : World) (hS : Same L U w0 w) (hU : U ≤ w.heap.size) (sc : ScS w p pv vv vars) (hs : vars.length + 3 + 3 * sumL one_ ks ≤ 1900000) :
    Calls Tryz.prog 31 #[pv, vv, .agg #[.int .i64 2, .int .i64 n, .slice A ks.length c]] w fun x w' => x = .returned (.int .i64 (resV p 2 n (tysL p vars ks))) ∧ Below w.heap.size w w' := by
  have hrl := r.le
  have hrc : c ≤ 9223372036854775807 := r.cap
  have hd0 := sc.p
  obtain ⟨dd, ff, rfl, hd, hf⟩ := hd0
  obtain ⟨B1, b1, rfl, l1, m1⟩ := hd.open_
  obtain ⟨B2, b2, rfl, l2, m2⟩ := hf.open_
  obtain ⟨A3, c3, rfl, l3, m3⟩ := sc.v.open_
  obtain ⟨W0, hW0⟩ : ∃ W0, W0 = (w.alloc (.cells #[.slice B1 p.decls.length b1, .slice B2 p.funcs.length b2] 32)).alloc (.cells #[.int .i64 2, .int .i64 n, .slice A ks.length c] 64) := ⟨_, rfl⟩
  have hB0 : Below w.heap.size w W0 := by rw [hW0]; exact ((Below.refl _ w).alloc (Nat.le_refl _) _).alloc (by simp) _
  have hz0 : W0.heap.size = w.heap.size + 2 := by rw [hW0]; simp
  have x0 : W0.heap[w.heap.size]? = some (.cells #[.slice B1 p.decls.length b1, .slice B2 p.funcs.length b2] 32 (0, 0)) := by rw [hW0]; refine Eq.trans (Below.heap_alloc _ _ _ (by simp only [World.size_alloc]; omega)) ?_; exact alloc_last _ _ _ (by simp)
  have x1 : W0.heap[w.heap.size + 1]? = some (.cells #[.int .i64 2, .int .i64 n, .slice A ks.length c] 64 (0, 0)) := by rw [hW0]; exact alloc_last _ _ _ (by simp)
  have HX := Lib.hid fun W (hB : Below W0.heap.size W0 W) => (show (W.cell? ⟨w.heap.size, 0, none⟩ = some (.slice B1 p.decls.length b1) ∧ W.cell? ⟨w.heap.size, 1, none⟩ = some (.slice B2 p.funcs.length b2)) ∧ (W.cell? ⟨w.heap.size + 1, 0, none⟩ = some (.int .i64 2) ∧ W.cell? ⟨w.heap.size + 1, 1, none⟩ = some (.int .i64 n) ∧ W.cell? ⟨w.heap.size + 1, 2, none⟩ = some (.slice A ks.length c)) from ⟨cells2 ((hB.block w.heap.size (by omega)).trans x0), three ((hB.block (w.heap.size + 1) (by omega)).trans x1)⟩)
  have HSC := Lib.hid fun W (hB : Below W0.heap.size W0 W) => (sc.up hB0).up hB
  have HE := Lib.hid fun W (hB : Below W0.heap.size W0 W) => hB0.trans (hB.mono (show w.heap.size ≤ W0.heap.size by omega))
  have HS0 := Lib.hid fun W (hB : Below W0.heap.size W0 W) => hS.trans (Same.of_below (hB0.trans (hB.mono (show w.heap.size ≤ W0.heap.size by omega))) hU)
  have HZ := Lib.hid hz0
  have hlen := sumL_length ks
  have CA := Lib.hid (allInts_of p r HV HC _ _ vars 2 W0 (HS0.out W0 (Below.refl _ _)) (by have := HZ.out; omega) (HSC.out W0 (Below.refl _ _)) (by omega) (by omega))
  rw [allInts_is] at CA
  have HR := Lib.hid r
  clear sc hd hf hS x0 x1 hz0 r
  obtain ⟨⟨P0, P1⟩, ⟨E0, E1, E2⟩⟩ := HX.out W0 (Below.refl _ _)
  by_cases c1 : n = 0
  · subst c1
    obtain ⟨b, hb⟩ : ∃ b, decide (tysL p vars ks = List.replicate 2 0) = b := ⟨_, rfl⟩
    rw [hb] at CA
    rw [show resV p 2 0 (tysL p vars ks) = cond b 0 (-1) by
      subst hb
      unfold resV; rw [if_neg (by omega), if_pos (Or.inr (Or.inl rfl))]
      by_cases h : tysL p vars ks = [0, 0]
      · rw [if_pos ⟨rfl, h⟩, decide_eq_true (by rw [h]; rfl)]; rfl
      · rw [if_neg (fun e => h e.2), decide_eq_false (fun e => h (by rw [e]; rfl))]; rfl]
    clear hb
    rcases b with _ | _
    all_goals (
      go_enter Tryz.func31, Tryz.ntmps31
      go_wp2_with fail
      rw [← hW0]
      clear hW0
      refine CA.out.mono ?_
      rintro e w1 ⟨rfl, hB1⟩
      have HB1 := Lib.hid (HE.out _ hB1)
      clear hB1
      go_wp2_with fail
      go_ret
      exact ⟨rfl, HB1.out⟩)
  · have c3 : (n == 0) = false := by rw [beq_eq_false_iff_ne]; exact c1
    rw [show resV p 2 n (tysL p vars ks) = -1 by
      unfold resV; rw [if_neg (by omega), if_pos (Or.inr (Or.inl rfl))]
      rw [if_neg (fun e => c1 e.1)]]
    clear c1
    go_enter Tryz.func31, Tryz.ntmps31
    go_wp2_with fail
    go_ret
    exact ⟨rfl, by rw [← hW0]; exact HE.out _ (Below.refl _ _)⟩
set_option maxRecDepth 100000 in
set_option maxHeartbeats 1600000 in
theorem typeOfArith3_of {w0 : World} {L U : Nat} {A : Option Addr} {c : Nat} {V : Nat → Value} {ks : List Ex} (p : Pg) (r : Row w0 L U 3 A ks.length c (fun i j => exCell (nthX ks i) (V i) j)) (HV : Hid (∀ i, i < ks.length → ∃ A' c', V i = .slice A' (nthX ks i).kids.length c')) (HC : Hid (∀ i, i < ks.length → TyS p w0 L U (V i) (nthX ks i))) (pv vv : Value) (vars : List Int) (n : Int) (w : World) (hS : Same L U w0 w) (hU : U ≤ w.heap.size) (sc : ScS w p pv vv vars) (hs : vars.length + 3 + 3 * sumL one_ ks ≤ 1900000) :
    Calls Tryz.prog 31 #[pv, vv, .agg #[.int .i64 3, .int .i64 n, .slice A ks.length c]] w fun x w' => x = .returned (.int .i64 (resV p 3 n (tysL p vars ks))) ∧ Below w.heap.size w w' := by
  have hrl := r.le
  have hrc : c ≤ 9223372036854775807 := r.cap
  have hd0 := sc.p
  obtain ⟨dd, ff, rfl, hd, hf⟩ := hd0
  obtain ⟨B1, b1, rfl, l1, m1⟩ := hd.open_
  obtain ⟨B2, b2, rfl, l2, m2⟩ := hf.open_
  obtain ⟨A3, c3, rfl, l3, m3⟩ := sc.v.open_
  obtain ⟨W0, hW0⟩ : ∃ W0, W0 = (w.alloc (.cells #[.slice B1 p.decls.length b1, .slice B2 p.funcs.length b2] 32)).alloc (.cells #[.int .i64 3, .int .i64 n, .slice A ks.length c] 64) := ⟨_, rfl⟩
  have hB0 : Below w.heap.size w W0 := by rw [hW0]; exact ((Below.refl _ w).alloc (Nat.le_refl _) _).alloc (by simp) _
  have hz0 : W0.heap.size = w.heap.size + 2 := by rw [hW0]; simp
  have x0 : W0.heap[w.heap.size]? = some (.cells #[.slice B1 p.decls.length b1, .slice B2 p.funcs.length b2] 32 (0, 0)) := by rw [hW0]; refine Eq.trans (Below.heap_alloc _ _ _ (by simp only [World.size_alloc]; omega)) ?_; exact alloc_last _ _ _ (by simp)
  have x1 : W0.heap[w.heap.size + 1]? = some (.cells #[.int .i64 3, .int .i64 n, .slice A ks.length c] 64 (0, 0)) := by rw [hW0]; exact alloc_last _ _ _ (by simp)
  have HX := Lib.hid fun W (hB : Below W0.heap.size W0 W) => (show (W.cell? ⟨w.heap.size, 0, none⟩ = some (.slice B1 p.decls.length b1) ∧ W.cell? ⟨w.heap.size, 1, none⟩ = some (.slice B2 p.funcs.length b2)) ∧ (W.cell? ⟨w.heap.size + 1, 0, none⟩ = some (.int .i64 3) ∧ W.cell? ⟨w.heap.size + 1, 1, none⟩ = some (.int .i64 n) ∧ W.cell? ⟨w.heap.size + 1, 2, none⟩ = some (.slice A ks.length c)) from ⟨cells2 ((hB.block w.heap.size (by omega)).trans x0), three ((hB.block (w.heap.size + 1) (by omega)).trans x1)⟩)
  have HSC := Lib.hid fun W (hB : Below W0.heap.size W0 W) => (sc.up hB0).up hB
  have HE := Lib.hid fun W (hB : Below W0.heap.size W0 W) => hB0.trans (hB.mono (show w.heap.size ≤ W0.heap.size by omega))
  have HS0 := Lib.hid fun W (hB : Below W0.heap.size W0 W) => hS.trans (Same.of_below (hB0.trans (hB.mono (show w.heap.size ≤ W0.heap.size by omega))) hU)
  have HZ := Lib.hid hz0
  have hlen := sumL_length ks
  have CA := Lib.hid (allInts_of p r HV HC _ _ vars 2 W0 (HS0.out W0 (Below.refl _ _)) (by have := HZ.out; omega) (HSC.out W0 (Below.refl _ _)) (by omega) (by omega))
  rw [allInts_is] at CA
  have HR := Lib.hid r
  clear sc hd hf hS x0 x1 hz0 r
  obtain ⟨⟨P0, P1⟩, ⟨E0, E1, E2⟩⟩ := HX.out W0 (Below.refl _ _)
  by_cases c1 : n = 0
  · subst c1
    obtain ⟨b, hb⟩ : ∃ b, decide (tysL p vars ks = List.replicate 2 0) = b := ⟨_, rfl⟩
    rw [hb] at CA
    rw [show resV p 3 0 (tysL p vars ks) = cond b 0 (-1) by
      subst hb
      unfold resV; rw [if_neg (by omega), if_pos (Or.inr (Or.inr (Or.inl rfl)))]
      by_cases h : tysL p vars ks = [0, 0]
      · rw [if_pos ⟨rfl, h⟩, decide_eq_true (by rw [h]; rfl)]; rfl
      · rw [if_neg (fun e => h e.2), decide_eq_false (fun e => h (by rw [e]; rfl))]; rfl]
    clear hb
    rcases b with _ | _
    all_goals (
      go_enter Tryz.func31, Tryz.ntmps31
      go_wp2_with fail
      rw [← hW0]
      clear hW0
      refine CA.out.mono ?_
      rintro e w1 ⟨rfl, hB1⟩
      have HB1 := Lib.hid (HE.out _ hB1)
      clear hB1
      go_wp2_with fail
      go_ret
      exact ⟨rfl, HB1.out⟩)
  · have c3 : (n == 0) = false := by rw [beq_eq_false_iff_ne]; exact c1
    rw [show resV p 3 n (tysL p vars ks) = -1 by
      unfold resV; rw [if_neg (by omega), if_pos (Or.inr (Or.inr (Or.inl rfl)))]
      rw [if_neg (fun e => c1 e.1)]]
    clear c1
    go_enter Tryz.func31, Tryz.ntmps31
    go_wp2_with fail
    go_ret
    exact ⟨rfl, by rw [← hW0]; exact HE.out _ (Below.refl _ _)⟩
set_option maxRecDepth 100000 in
set_option maxHeartbeats 1600000 in
theorem typeOfArith4_of {w0 : World} {L U : Nat} {A : Option Addr} {c : Nat} {V : Nat → Value} {ks : List Ex} (p : Pg) (r : Row w0 L U 3 A ks.length c (fun i j => exCell (nthX ks i) (V i) j)) (HV : Hid (∀ i, i < ks.length → ∃ A' c', V i = .slice A' (nthX ks i).kids.length c')) (HC : Hid (∀ i, i < ks.length → TyS p w0 L U (V i) (nthX ks i))) (pv vv : Value) (vars : List Int) (n : Int) (w : World) (hS : Same L U w0 w) (hU : U ≤ w.heap.size) (sc : ScS w p pv vv vars) (hs : vars.length + 3 + 3 * sumL one_ ks ≤ 1900000) :
    Calls Tryz.prog 31 #[pv, vv, .agg #[.int .i64 4, .int .i64 n, .slice A ks.length c]] w fun x w' => x = .returned (.int .i64 (resV p 4 n (tysL p vars ks))) ∧ Below w.heap.size w w' := by
  have hrl := r.le
  have hrc : c ≤ 9223372036854775807 := r.cap
  have hd0 := sc.p
  obtain ⟨dd, ff, rfl, hd, hf⟩ := hd0
  obtain ⟨B1, b1, rfl, l1, m1⟩ := hd.open_
  obtain ⟨B2, b2, rfl, l2, m2⟩ := hf.open_
  obtain ⟨A3, c3, rfl, l3, m3⟩ := sc.v.open_
  obtain ⟨W0, hW0⟩ : ∃ W0, W0 = (w.alloc (.cells #[.slice B1 p.decls.length b1, .slice B2 p.funcs.length b2] 32)).alloc (.cells #[.int .i64 4, .int .i64 n, .slice A ks.length c] 64) := ⟨_, rfl⟩
  have hB0 : Below w.heap.size w W0 := by rw [hW0]; exact ((Below.refl _ w).alloc (Nat.le_refl _) _).alloc (by simp) _
  have hz0 : W0.heap.size = w.heap.size + 2 := by rw [hW0]; simp
  have x0 : W0.heap[w.heap.size]? = some (.cells #[.slice B1 p.decls.length b1, .slice B2 p.funcs.length b2] 32 (0, 0)) := by rw [hW0]; refine Eq.trans (Below.heap_alloc _ _ _ (by simp only [World.size_alloc]; omega)) ?_; exact alloc_last _ _ _ (by simp)
  have x1 : W0.heap[w.heap.size + 1]? = some (.cells #[.int .i64 4, .int .i64 n, .slice A ks.length c] 64 (0, 0)) := by rw [hW0]; exact alloc_last _ _ _ (by simp)
  have HX := Lib.hid fun W (hB : Below W0.heap.size W0 W) => (show (W.cell? ⟨w.heap.size, 0, none⟩ = some (.slice B1 p.decls.length b1) ∧ W.cell? ⟨w.heap.size, 1, none⟩ = some (.slice B2 p.funcs.length b2)) ∧ (W.cell? ⟨w.heap.size + 1, 0, none⟩ = some (.int .i64 4) ∧ W.cell? ⟨w.heap.size + 1, 1, none⟩ = some (.int .i64 n) ∧ W.cell? ⟨w.heap.size + 1, 2, none⟩ = some (.slice A ks.length c)) from ⟨cells2 ((hB.block w.heap.size (by omega)).trans x0), three ((hB.block (w.heap.size + 1) (by omega)).trans x1)⟩)
  have HSC := Lib.hid fun W (hB : Below W0.heap.size W0 W) => (sc.up hB0).up hB
  have HE := Lib.hid fun W (hB : Below W0.heap.size W0 W) => hB0.trans (hB.mono (show w.heap.size ≤ W0.heap.size by omega))
  have HS0 := Lib.hid fun W (hB : Below W0.heap.size W0 W) => hS.trans (Same.of_below (hB0.trans (hB.mono (show w.heap.size ≤ W0.heap.size by omega))) hU)
  have HZ := Lib.hid hz0
  have hlen := sumL_length ks
  have CA := Lib.hid (allInts_of p r HV HC _ _ vars 2 W0 (HS0.out W0 (Below.refl _ _)) (by have := HZ.out; omega) (HSC.out W0 (Below.refl _ _)) (by omega) (by omega))
  rw [allInts_is] at CA
  have HR := Lib.hid r
  clear sc hd hf hS x0 x1 hz0 r
  obtain ⟨⟨P0, P1⟩, ⟨E0, E1, E2⟩⟩ := HX.out W0 (Below.refl _ _)
  by_cases c1 : n = 0
  · subst c1
    obtain ⟨b, hb⟩ : ∃ b, decide (tysL p vars ks = List.replicate 2 0) = b := ⟨_, rfl⟩
    rw [hb] at CA
    rw [show resV p 4 0 (tysL p vars ks) = cond b 0 (-1) by
      subst hb
      unfold resV; rw [if_neg (by omega), if_pos (Or.inr (Or.inr (Or.inr rfl)))]
      by_cases h : tysL p vars ks = [0, 0]
      · rw [if_pos ⟨rfl, h⟩, decide_eq_true (by rw [h]; rfl)]; rfl
      · rw [if_neg (fun e => h e.2), decide_eq_false (fun e => h (by rw [e]; rfl))]; rfl]
    clear hb
    rcases b with _ | _
    all_goals (
      go_enter Tryz.func31, Tryz.ntmps31
      go_wp2_with fail
      rw [← hW0]
      clear hW0
      refine CA.out.mono ?_
      rintro e w1 ⟨rfl, hB1⟩
      have HB1 := Lib.hid (HE.out _ hB1)
      clear hB1
      go_wp2_with fail
      go_ret
      exact ⟨rfl, HB1.out⟩)
  · have c3 : (n == 0) = false := by rw [beq_eq_false_iff_ne]; exact c1
    rw [show resV p 4 n (tysL p vars ks) = -1 by
      unfold resV; rw [if_neg (by omega), if_pos (Or.inr (Or.inr (Or.inr rfl)))]
      rw [if_neg (fun e => c1 e.1)]]
    clear c1
    go_enter Tryz.func31, Tryz.ntmps31
    go_wp2_with fail
    go_ret
    exact ⟨rfl, by rw [← hW0]; exact HE.out _ (Below.refl _ _)⟩
set_option maxRecDepth 100000 in
set_option maxHeartbeats 1600000 in
theorem typeOfPrint_of {w0 : World} {L U : Nat} {A : Option Addr} {c : Nat} {V : Nat → Value} {ks : List Ex} (p : Pg) (r : Row w0 L U 3 A ks.length c (fun i j => exCell (nthX ks i) (V i) j)) (HV : Hid (∀ i, i < ks.length → ∃ A' c', V i = .slice A' (nthX ks i).kids.length c')) (HC : Hid (∀ i, i < ks.length → TyS p w0 L U (V i) (nthX ks i))) (pv vv : Value) (vars : List Int) (n : Int) (w : World) (hS : Same L U w0 w) (hU : U ≤ w.heap.size) (sc : ScS w p pv vv vars) (hs : vars.length + 3 + 3 * sumL one_ ks ≤ 1900000) :
    Calls Tryz.prog 31 #[pv, vv, .agg #[.int .i64 5, .int .i64 n, .slice A ks.length c]] w fun x w' => x = .returned (.int .i64 (resV p 5 n (tysL p vars ks))) ∧ Below w.heap.size w w' := by
  have hrl := r.le
  have hrc : c ≤ 9223372036854775807 := r.cap
  have hd0 := sc.p
  obtain ⟨dd, ff, rfl, hd, hf⟩ := hd0
  obtain ⟨B1, b1, rfl, l1, m1⟩ := hd.open_
  obtain ⟨B2, b2, rfl, l2, m2⟩ := hf.open_
  obtain ⟨A3, c3, rfl, l3, m3⟩ := sc.v.open_
  obtain ⟨W0, hW0⟩ : ∃ W0, W0 = (w.alloc (.cells #[.slice B1 p.decls.length b1, .slice B2 p.funcs.length b2] 32)).alloc (.cells #[.int .i64 5, .int .i64 n, .slice A ks.length c] 64) := ⟨_, rfl⟩
  have hB0 : Below w.heap.size w W0 := by rw [hW0]; exact ((Below.refl _ w).alloc (Nat.le_refl _) _).alloc (by simp) _
  have hz0 : W0.heap.size = w.heap.size + 2 := by rw [hW0]; simp
  have x0 : W0.heap[w.heap.size]? = some (.cells #[.slice B1 p.decls.length b1, .slice B2 p.funcs.length b2] 32 (0, 0)) := by rw [hW0]; refine Eq.trans (Below.heap_alloc _ _ _ (by simp only [World.size_alloc]; omega)) ?_; exact alloc_last _ _ _ (by simp)
  have x1 : W0.heap[w.heap.size + 1]? = some (.cells #[.int .i64 5, .int .i64 n, .slice A ks.length c] 64 (0, 0)) := by rw [hW0]; exact alloc_last _ _ _ (by simp)
  have HX := Lib.hid fun W (hB : Below W0.heap.size W0 W) => (show (W.cell? ⟨w.heap.size, 0, none⟩ = some (.slice B1 p.decls.length b1) ∧ W.cell? ⟨w.heap.size, 1, none⟩ = some (.slice B2 p.funcs.length b2)) ∧ (W.cell? ⟨w.heap.size + 1, 0, none⟩ = some (.int .i64 5) ∧ W.cell? ⟨w.heap.size + 1, 1, none⟩ = some (.int .i64 n) ∧ W.cell? ⟨w.heap.size + 1, 2, none⟩ = some (.slice A ks.length c)) from ⟨cells2 ((hB.block w.heap.size (by omega)).trans x0), three ((hB.block (w.heap.size + 1) (by omega)).trans x1)⟩)
  have HSC := Lib.hid fun W (hB : Below W0.heap.size W0 W) => (sc.up hB0).up hB
  have HE := Lib.hid fun W (hB : Below W0.heap.size W0 W) => hB0.trans (hB.mono (show w.heap.size ≤ W0.heap.size by omega))
  have HS0 := Lib.hid fun W (hB : Below W0.heap.size W0 W) => hS.trans (Same.of_below (hB0.trans (hB.mono (show w.heap.size ≤ W0.heap.size by omega))) hU)
  have HZ := Lib.hid hz0
  have hlen := sumL_length ks
  have CA := Lib.hid (allInts_of p r HV HC _ _ vars 1 W0 (HS0.out W0 (Below.refl _ _)) (by have := HZ.out; omega) (HSC.out W0 (Below.refl _ _)) (by omega) (by omega))
  rw [allInts_is] at CA
  have HR := Lib.hid r
  clear sc hd hf hS x0 x1 hz0 r
  obtain ⟨⟨P0, P1⟩, ⟨E0, E1, E2⟩⟩ := HX.out W0 (Below.refl _ _)
  by_cases c1 : n = 0
  · subst c1
    obtain ⟨b, hb⟩ : ∃ b, decide (tysL p vars ks = List.replicate 1 0) = b := ⟨_, rfl⟩
    rw [hb] at CA
    rw [show resV p 5 0 (tysL p vars ks) = cond b 0 (-1) by
      subst hb
      unfold resV; rw [if_neg (by omega), if_neg (by omega), if_pos rfl]
      by_cases h : tysL p vars ks = [0]
      · rw [if_pos ⟨rfl, h⟩, decide_eq_true (by rw [h]; rfl)]; rfl
      · rw [if_neg (fun e => h e.2), decide_eq_false (fun e => h (by rw [e]; rfl))]; rfl]
    clear hb
    rcases b with _ | _
    all_goals (
      go_enter Tryz.func31, Tryz.ntmps31
      go_wp2_with fail
      rw [← hW0]
      clear hW0
      refine CA.out.mono ?_
      rintro e w1 ⟨rfl, hB1⟩
      have HB1 := Lib.hid (HE.out _ hB1)
      clear hB1
      go_wp2_with fail
      go_ret
      exact ⟨rfl, HB1.out⟩)
  · have c3 : (n == 0) = false := by rw [beq_eq_false_iff_ne]; exact c1
    rw [show resV p 5 n (tysL p vars ks) = -1 by
      unfold resV; rw [if_neg (by omega), if_neg (by omega), if_pos rfl]
      rw [if_neg (fun e => c1 e.1)]]
    clear c1
    go_enter Tryz.func31, Tryz.ntmps31
    go_wp2_with fail
    go_ret
    exact ⟨rfl, by rw [← hW0]; exact HE.out _ (Below.refl _ _)⟩
set_option maxRecDepth 100000 in
set_option maxHeartbeats 1600000 in
theorem typeOfNone_of {A : Option Addr} {c : Nat} {ks : List Ex} (p : Pg) (pv vv : Value) (vars : List Int) (n : Int) (o : Int) (ho : ¬ (0 ≤ o ∧ o ≤ 13)) (w : World) (sc : ScS w p pv vv vars) :
    Calls Tryz.prog 31 #[pv, vv, .agg #[.int .i64 o, .int .i64 n, .slice A ks.length c]] w fun x w' => x = .returned (.int .i64 (-1)) ∧ Below w.heap.size w w' := by
  have hd0 := sc.p
  obtain ⟨dd, ff, rfl, hd, hf⟩ := hd0
  obtain ⟨B1, b1, rfl, l1, m1⟩ := hd.open_
  obtain ⟨B2, b2, rfl, l2, m2⟩ := hf.open_
  obtain ⟨A3, c3, rfl, l3, m3⟩ := sc.v.open_
  obtain ⟨W0, hW0⟩ : ∃ W0, W0 = (w.alloc (.cells #[.slice B1 p.decls.length b1, .slice B2 p.funcs.length b2] 32)).alloc (.cells #[.int .i64 o, .int .i64 n, .slice A ks.length c] 64) := ⟨_, rfl⟩
  have hB0 : Below w.heap.size w W0 := by rw [hW0]; exact ((Below.refl _ w).alloc (Nat.le_refl _) _).alloc (by simp) _
  have hz0 : W0.heap.size = w.heap.size + 2 := by rw [hW0]; simp
  have x0 : W0.heap[w.heap.size]? = some (.cells #[.slice B1 p.decls.length b1, .slice B2 p.funcs.length b2] 32 (0, 0)) := by rw [hW0]; refine Eq.trans (Below.heap_alloc _ _ _ (by simp only [World.size_alloc]; omega)) ?_; exact alloc_last _ _ _ (by simp)
  have x1 : W0.heap[w.heap.size + 1]? = some (.cells #[.int .i64 o, .int .i64 n, .slice A ks.length c] 64 (0, 0)) := by rw [hW0]; exact alloc_last _ _ _ (by simp)
  have HX := Lib.hid fun W (hB : Below W0.heap.size W0 W) => (show (W.cell? ⟨w.heap.size, 0, none⟩ = some (.slice B1 p.decls.length b1) ∧ W.cell? ⟨w.heap.size, 1, none⟩ = some (.slice B2 p.funcs.length b2)) ∧ (W.cell? ⟨w.heap.size + 1, 0, none⟩ = some (.int .i64 o) ∧ W.cell? ⟨w.heap.size + 1, 1, none⟩ = some (.int .i64 n) ∧ W.cell? ⟨w.heap.size + 1, 2, none⟩ = some (.slice A ks.length c)) from ⟨cells2 ((hB.block w.heap.size (by omega)).trans x0), three ((hB.block (w.heap.size + 1) (by omega)).trans x1)⟩)
  have HSC := Lib.hid fun W (hB : Below W0.heap.size W0 W) => (sc.up hB0).up hB
  have HE := Lib.hid fun W (hB : Below W0.heap.size W0 W) => hB0.trans (hB.mono (show w.heap.size ≤ W0.heap.size by omega))
  have HZ := Lib.hid hz0
  clear sc hd hf x0 x1 hz0
  obtain ⟨⟨P0, P1⟩, ⟨E0, E1, E2⟩⟩ := HX.out W0 (Below.refl _ _)
  have q0 : (o == 0) = false := by rw [beq_eq_false_iff_ne]; omega
  have q1 : (o == 1) = false := by rw [beq_eq_false_iff_ne]; omega
  have q2 : (o == 2) = false := by rw [beq_eq_false_iff_ne]; omega
  have q3 : (o == 3) = false := by rw [beq_eq_false_iff_ne]; omega
  have q4 : (o == 4) = false := by rw [beq_eq_false_iff_ne]; omega
  have q5 : (o == 5) = false := by rw [beq_eq_false_iff_ne]; omega
  have q6 : (o == 6) = false := by rw [beq_eq_false_iff_ne]; omega
  have q7 : (o == 7) = false := by rw [beq_eq_false_iff_ne]; omega
  have q8 : (o == 8) = false := by rw [beq_eq_false_iff_ne]; omega
  have q9 : (o == 9) = false := by rw [beq_eq_false_iff_ne]; omega
  have q10 : (o == 10) = false := by rw [beq_eq_false_iff_ne]; omega
  have q11 : (o == 11) = false := by rw [beq_eq_false_iff_ne]; omega
  have q12 : (o == 12) = false := by rw [beq_eq_false_iff_ne]; omega
  have q13 : (o == 13) = false := by rw [beq_eq_false_iff_ne]; omega
  clear ho
  go_enter Tryz.func31, Tryz.ntmps31
  go_wp2_with fail
  go_ret
  exact ⟨rfl, by rw [← hW0]; exact HE.out _ (Below.refl _ _)⟩
end Go.Proofs.YtihmkaodjpgikaaGreat
