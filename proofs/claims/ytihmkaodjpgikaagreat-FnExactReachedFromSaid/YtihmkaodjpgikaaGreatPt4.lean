/- Contracts of chapter 2: what operations give, all of them. -/
import Derived.Test.YtihmkaodjpgikaaGreatPt3
namespace Go.Proofs.YtihmkaodjpgikaaGreat
open Go.RowKit Go.BigFrame
set_option maxHeartbeats 800000 in
theorem resultOfApply_any (ts : List Int) (L U L' U' : Nat) (ds : List Dec) (v u : Value) (w : World) (hv : Decs w L U v ds) (hU : U ≤ w.heap.size) (hu : Ints w L' U' u ts) (hU' : U' ≤ w.heap.size) :
    Calls Tryz.prog 98 #[v, u] w fun e w' => e = .returned (.int .i64 (applyRes ds ts)) ∧ Below w.heap.size w w' := by
  have hv0 := hv
  obtain ⟨B, d, rfl, hl, hd⟩ := hv0.open_
  obtain ⟨B', d', rfl, hl', hd'⟩ := hu.open_
  by_cases h2 : ts.length = 2
  · obtain ⟨t, y, rfl⟩ : ∃ t y, ts = [t, y] := by
      match ts, h2 with
      | [t, y], _ => exact ⟨t, y, rfl⟩
    obtain ⟨b, o, rfl, _, hb, e0⟩ := hu.at_ (k := 0) (by simp)
    obtain ⟨b', o', e', _, _, e1⟩ := hu.at_ (k := 1) (by simp)
    cases e'
    simp only [List.getElem_cons_zero, List.getElem_cons_succ, Nat.add_zero] at e0 e1
    have hA : applyRes ds [t, y] = if isAr ds t = true ∧ y = (nthD ds (t - 1).toNat).frm then (nthD ds (t - 1).toNat).to else -1 := by
      unfold applyRes
      simp [nth]
    rcases hr : isAr ds t with _ | _
    · rw [hA, if_neg (by rw [hr]; simp)]
      clear hA
      go_enter Tryz.func98, Tryz.ntmps98
      go_wp2_with fail
      refine (isArrow_is _ _ _ _ _ _ w hv hr).mono ?_
      rintro e w1 ⟨rfl, rfl⟩
      go_wp2_with fail
      go_ret
      exact ⟨rfl, Below.refl _ _⟩
    · rcases isAr_cases ds t with ⟨_, e⟩ | ⟨_, _, e⟩ | ⟨k, rfl, hk, e⟩
      · rw [hr] at e; cases e
      · rw [hr] at e; cases e
      · clear e
        rw [hr, show ((k : Int) + 1 - 1).toNat = k by omega] at hA
        obtain ⟨g, og, A1, c1, rfl, _, hg, f0, f1, f2, _⟩ := hv.at_ hk
        have HV := Lib.hid hv
        have HA : Hid (applyRes ds [(k : Int) + 1, y] = cond (y == (nthD ds k).frm) (nthD ds k).to (-1)) := by
          show _ = _
          rw [hA]
          by_cases h : y = (nthD ds k).frm
          · rw [if_pos ⟨rfl, h⟩]; simp [h]
          · rw [if_neg (fun e => h e.2), show (y == (nthD ds k).frm) = false by rw [beq_eq_false_iff_ne]; exact h]; rfl
        rw [HA.out]
        have HR := Lib.hid hr
        have k0 : (0 : Int) ≤ (k : Int) := by omega
        have k1 : (k : Int) < (ds.length : Int) := by omega
        have s1 : IntKind.i64.wrap ((k : Int) + 1 - 1) = (k : Int) := by rw [IntWalk.i64_in _ (by omega)]; omega
        have gb : b < w.heap.size := by omega
        have gb2 : g < w.heap.size := by omega
        have HB := Lib.hid fun O => (Below.refl w.heap.size w).alloc (Nat.le_refl _) O
        clear hA hv hr HA h2 hu
        go_enter Tryz.func98, Tryz.ntmps98
        go_wp2_with fail
        refine (isArrow_is _ _ _ _ _ _ w HV.out HR.out).mono ?_
        rintro e w1 ⟨rfl, rfl⟩
        go_wp2_with fail
        go_quiet (((go_at_call 93; exact quiet_eq (typeWhen_is _ _ _))))
        go_wp2_with fail
        go_ret
        exact ⟨rfl, below_drewN (HB.out _) _⟩
  · have h3 : ¬ (ts.length : Int) = 2 := by omega
    have h4 : ((ts.length : Int) == 2) = false := by rw [beq_eq_false_iff_ne]; exact h3
    rw [show applyRes ds ts = -1 by unfold applyRes; rw [if_neg (fun e => h2 e.1)]]
    clear h2
    go_enter Tryz.func98, Tryz.ntmps98
    go_wp2_with fail
    go_ret
    exact ⟨rfl, Below.refl _ _⟩
/-- A literal row of ints. -/
theorem ints_row {w : World} {b : Nat} {T : TypeId} {xs : List Int} {a : Array Value} (h : w.heap[b]? = some (.cells a T (0, 0))) (ha : a = (xs.map (Value.int .i64)).toArray) (hn : xs.length ≤ maxLen) : Ints w b (b + 1) (.slice (some ⟨b, 0, none⟩) xs.length xs.length) xs := by
  refine ⟨_, _, rfl, Nat.le_refl _, hn, (fun e => by cases e), fun _ => ⟨b, 0, rfl, Nat.le_refl _, by omega, fun i j hi hj => ?_⟩⟩
  obtain rfl : j = 0 := by omega
  rw [Nat.mul_one, Nat.add_zero, Nat.zero_add, cell_of_row w b i a T (0, 0) h, ha, nth_of hi]
  simp [hi]
theorem res_cases (o : Int) : o = 0 ∨ o = 1 ∨ o = 2 ∨ o = 3 ∨ o = 4 ∨ o = 5 ∨ o = 6 ∨ o = 9 ∨ o = 10 ∨ o = 11 ∨ (¬ o = 0 ∧ ¬ o = 1 ∧ ¬ o = 2 ∧ ¬ o = 3 ∧ ¬ o = 4 ∧ ¬ o = 5 ∧ ¬ o = 6 ∧ ¬ o = 9 ∧ ¬ o = 10 ∧ ¬ o = 11) := by omega
set_option maxHeartbeats 1600000 in
theorem resultOf_any (o n : Int) (ts : List Int) (L U L' U' : Nat) (p : Pg) (v u : Value) (w : World) (hv : Pgm w L U v p) (hU : U ≤ w.heap.size) (hb : typesOk p.decls = true) (hu : Ints w L' U' u ts) (hU' : U' ≤ w.heap.size) :
    Calls Tryz.prog 85 #[v, .int .i64 o, .int .i64 n, u] w fun e w' => e = .returned (.int .i64 (resV p o n ts)) ∧ Below w.heap.size w w' := by
  have hv0 := hv
  obtain ⟨dd, ff, rfl, hd, hf⟩ := hv0
  obtain ⟨B1, b1, rfl, l1, m1⟩ := hd.open_
  obtain ⟨B2, b2, rfl, l2, m2⟩ := hf.open_
  obtain ⟨B', d', rfl, hl', hd'⟩ := hu.open_
  obtain ⟨W0, hW0⟩ : ∃ W0, W0 = w.alloc (.cells #[.slice B1 p.decls.length b1, .slice B2 p.funcs.length b2] 32) := ⟨_, rfl⟩
  have hB0 : Below w.heap.size w W0 := by rw [hW0]; exact (Below.refl _ w).alloc (Nat.le_refl _) _
  have hz0 : W0.heap.size = w.heap.size + 1 := by rw [hW0]; simp
  have hbox : W0.heap[w.heap.size]? = some (.cells #[.slice B1 p.decls.length b1, .slice B2 p.funcs.length b2] 32 (0, 0)) := by rw [hW0]; exact alloc_last _ _ _ rfl
  obtain ⟨q0, q1⟩ := cells2 hbox
  have HV := Lib.hid (hv.keep (Same.of_below hB0 hU))
  have HD := Lib.hid (hd.keep (Same.of_below hB0 hU))
  have HI := Lib.hid fun W (hB : Below W0.heap.size W0 W) => hu.keep (Same.of_below (hB0.trans (hB.mono (show w.heap.size ≤ W0.heap.size by omega))) hU')
  have HB0 := Lib.hid hB0
  have HTB := Lib.hid hb
  have z1 : U ≤ W0.heap.size := by omega
  have z2 : U' ≤ W0.heap.size := by omega
  clear hv hd hf hu hbox hB0 hb
  rcases res_cases o with rfl | rfl | rfl | rfl | rfl | rfl | rfl | rfl | rfl | rfl | ⟨n0, n1, n2, n3, n4, n5, n6, n9, n10, n11⟩
  · by_cases c1 : -999 ≤ n
    · by_cases c2 : n ≤ 999
      · by_cases c3 : ts.length = 0
        · have e3 : ts = [] := List.eq_nil_of_length_eq_zero c3
          rw [show resV p 0 n ts = 0 by unfold resV; rw [if_pos rfl, if_pos ⟨c1, c2, e3⟩]]
          subst e3
          clear c3
          go_enter Tryz.func85, Tryz.ntmps85
          go_wp2_with fail
          rw [← hW0]
          clear hW0
          refine (typeWhen_is _ _ _).mono ?_
          rintro e w9 ⟨rfl, rfl⟩
          go_wp2_with fail
          go_ret
          exact ⟨rfl, HB0.out⟩
        · have c4 : ((ts.length : Int) == 0) = false := by rw [beq_eq_false_iff_ne]; omega
          rw [show resV p 0 n ts = -1 by unfold resV; rw [if_pos rfl, if_neg (fun e => c3 (by rw [e.2.2]; rfl))]]
          clear c3
          go_enter Tryz.func85, Tryz.ntmps85
          go_wp2_with fail
          rw [← hW0]
          clear hW0
          refine (typeWhen_is _ _ _).mono ?_
          rintro e w9 ⟨rfl, rfl⟩
          go_wp2_with fail
          go_ret
          exact ⟨rfl, HB0.out⟩
      · rw [show resV p 0 n ts = -1 by unfold resV; rw [if_pos rfl, if_neg (fun e => c2 e.2.1)]]
        go_enter Tryz.func85, Tryz.ntmps85
        go_wp2_with fail
        rw [← hW0]
        clear hW0
        refine (typeWhen_is _ _ _).mono ?_
        rintro e w9 ⟨rfl, rfl⟩
        go_wp2_with fail
        go_ret
        exact ⟨rfl, HB0.out⟩
    · rw [show resV p 0 n ts = -1 by unfold resV; rw [if_pos rfl, if_neg (fun e => c1 e.1)]]
      go_enter Tryz.func85, Tryz.ntmps85
      go_wp2_with fail
      rw [← hW0]
      clear hW0
      refine (typeWhen_is _ _ _).mono ?_
      rintro e w9 ⟨rfl, rfl⟩
      go_wp2_with fail
      go_ret
      exact ⟨rfl, HB0.out⟩
  · by_cases c1 : n = 0
    · subst c1
      obtain ⟨r, hr⟩ : ∃ r, decide (ts = [0, 0]) = r := ⟨_, rfl⟩
      rw [show resV p 1 0 ts = cond r 0 (-1) by
        rw [← hr]
        unfold resV
        rw [if_neg (by omega), if_pos (by omega)]
        by_cases h : ts = [0, 0]
        · rw [if_pos ⟨rfl, h⟩, decide_eq_true h]; rfl
        · rw [if_neg (fun e => h e.2), decide_eq_false h]; rfl]
      have C1 := (Below.refl W0.heap.size W0).alloc (Nat.le_refl _) (.cells #[.int .i64 0, .int .i64 0] 3)
      have C2 := ints_row (alloc_last W0 (.cells #[.int .i64 0, .int .i64 0] 3) (w.heap.size + 1) hz0.symm) (xs := [0, 0]) rfl (by simp [maxLen])
      have HS := Lib.hid (show Calls Tryz.prog 94 #[.slice B' ts.length d', .slice (some ⟨w.heap.size + 1, 0, none⟩) 2 2] (W0.alloc (.cells #[.int .i64 0, .int .i64 0] 3)) fun e w'' => e = .returned (.bool r) ∧ Below (W0.alloc (.cells #[.int .i64 0, .int .i64 0] 3)).heap.size (W0.alloc (.cells #[.int .i64 0, .int .i64 0] 3)) w'' from sameInts_b r _ _ _ _ _ _ _ _ _ (HI.out _ C1) C2 hr)
      have HB1 := Lib.hid (HB0.out.alloc HB0.out.size (.cells #[.int .i64 0, .int .i64 0] 3))
      clear C1 C2 hr
      go_enter Tryz.func85, Tryz.ntmps85
      go_wp2_with fail
      rw [← hW0]
      clear hW0
      refine HS.out.mono ?_
      rintro e w5 ⟨rfl, hB5⟩
      have HB5 := Lib.hid (HB1.out.trans (hB5.mono HB1.out.size))
      clear hB5
      go_wp2_with fail
      refine (typeWhen_is _ _ _).mono ?_
      rintro e w9 ⟨rfl, rfl⟩
      go_wp2_with fail
      go_ret
      exact ⟨rfl, HB5.out⟩
    · have c2 : (n == 0) = false := by rw [beq_eq_false_iff_ne]; exact c1
      rw [show resV p 1 n ts = -1 by unfold resV; rw [if_neg (by omega), if_pos (by omega), if_neg (fun e => c1 e.1)]]
      clear c1
      go_enter Tryz.func85, Tryz.ntmps85
      go_wp2_with fail
      rw [← hW0]
      clear hW0
      refine (typeWhen_is _ _ _).mono ?_
      rintro e w9 ⟨rfl, rfl⟩
      go_wp2_with fail
      go_ret
      exact ⟨rfl, HB0.out⟩
  · by_cases c1 : n = 0
    · subst c1
      obtain ⟨r, hr⟩ : ∃ r, decide (ts = [0, 0]) = r := ⟨_, rfl⟩
      rw [show resV p 2 0 ts = cond r 0 (-1) by
        rw [← hr]
        unfold resV
        rw [if_neg (by omega), if_pos (by omega)]
        by_cases h : ts = [0, 0]
        · rw [if_pos ⟨rfl, h⟩, decide_eq_true h]; rfl
        · rw [if_neg (fun e => h e.2), decide_eq_false h]; rfl]
      have C1 := (Below.refl W0.heap.size W0).alloc (Nat.le_refl _) (.cells #[.int .i64 0, .int .i64 0] 3)
      have C2 := ints_row (alloc_last W0 (.cells #[.int .i64 0, .int .i64 0] 3) (w.heap.size + 1) hz0.symm) (xs := [0, 0]) rfl (by simp [maxLen])
      have HS := Lib.hid (show Calls Tryz.prog 94 #[.slice B' ts.length d', .slice (some ⟨w.heap.size + 1, 0, none⟩) 2 2] (W0.alloc (.cells #[.int .i64 0, .int .i64 0] 3)) fun e w'' => e = .returned (.bool r) ∧ Below (W0.alloc (.cells #[.int .i64 0, .int .i64 0] 3)).heap.size (W0.alloc (.cells #[.int .i64 0, .int .i64 0] 3)) w'' from sameInts_b r _ _ _ _ _ _ _ _ _ (HI.out _ C1) C2 hr)
      have HB1 := Lib.hid (HB0.out.alloc HB0.out.size (.cells #[.int .i64 0, .int .i64 0] 3))
      clear C1 C2 hr
      go_enter Tryz.func85, Tryz.ntmps85
      go_wp2_with fail
      rw [← hW0]
      clear hW0
      refine HS.out.mono ?_
      rintro e w5 ⟨rfl, hB5⟩
      have HB5 := Lib.hid (HB1.out.trans (hB5.mono HB1.out.size))
      clear hB5
      go_wp2_with fail
      refine (typeWhen_is _ _ _).mono ?_
      rintro e w9 ⟨rfl, rfl⟩
      go_wp2_with fail
      go_ret
      exact ⟨rfl, HB5.out⟩
    · have c2 : (n == 0) = false := by rw [beq_eq_false_iff_ne]; exact c1
      rw [show resV p 2 n ts = -1 by unfold resV; rw [if_neg (by omega), if_pos (by omega), if_neg (fun e => c1 e.1)]]
      clear c1
      go_enter Tryz.func85, Tryz.ntmps85
      go_wp2_with fail
      rw [← hW0]
      clear hW0
      refine (typeWhen_is _ _ _).mono ?_
      rintro e w9 ⟨rfl, rfl⟩
      go_wp2_with fail
      go_ret
      exact ⟨rfl, HB0.out⟩
  · by_cases c1 : n = 0
    · subst c1
      obtain ⟨r, hr⟩ : ∃ r, decide (ts = [0, 0]) = r := ⟨_, rfl⟩
      rw [show resV p 3 0 ts = cond r 0 (-1) by
        rw [← hr]
        unfold resV
        rw [if_neg (by omega), if_pos (by omega)]
        by_cases h : ts = [0, 0]
        · rw [if_pos ⟨rfl, h⟩, decide_eq_true h]; rfl
        · rw [if_neg (fun e => h e.2), decide_eq_false h]; rfl]
      have C1 := (Below.refl W0.heap.size W0).alloc (Nat.le_refl _) (.cells #[.int .i64 0, .int .i64 0] 3)
      have C2 := ints_row (alloc_last W0 (.cells #[.int .i64 0, .int .i64 0] 3) (w.heap.size + 1) hz0.symm) (xs := [0, 0]) rfl (by simp [maxLen])
      have HS := Lib.hid (show Calls Tryz.prog 94 #[.slice B' ts.length d', .slice (some ⟨w.heap.size + 1, 0, none⟩) 2 2] (W0.alloc (.cells #[.int .i64 0, .int .i64 0] 3)) fun e w'' => e = .returned (.bool r) ∧ Below (W0.alloc (.cells #[.int .i64 0, .int .i64 0] 3)).heap.size (W0.alloc (.cells #[.int .i64 0, .int .i64 0] 3)) w'' from sameInts_b r _ _ _ _ _ _ _ _ _ (HI.out _ C1) C2 hr)
      have HB1 := Lib.hid (HB0.out.alloc HB0.out.size (.cells #[.int .i64 0, .int .i64 0] 3))
      clear C1 C2 hr
      go_enter Tryz.func85, Tryz.ntmps85
      go_wp2_with fail
      rw [← hW0]
      clear hW0
      refine HS.out.mono ?_
      rintro e w5 ⟨rfl, hB5⟩
      have HB5 := Lib.hid (HB1.out.trans (hB5.mono HB1.out.size))
      clear hB5
      go_wp2_with fail
      refine (typeWhen_is _ _ _).mono ?_
      rintro e w9 ⟨rfl, rfl⟩
      go_wp2_with fail
      go_ret
      exact ⟨rfl, HB5.out⟩
    · have c2 : (n == 0) = false := by rw [beq_eq_false_iff_ne]; exact c1
      rw [show resV p 3 n ts = -1 by unfold resV; rw [if_neg (by omega), if_pos (by omega), if_neg (fun e => c1 e.1)]]
      clear c1
      go_enter Tryz.func85, Tryz.ntmps85
      go_wp2_with fail
      rw [← hW0]
      clear hW0
      refine (typeWhen_is _ _ _).mono ?_
      rintro e w9 ⟨rfl, rfl⟩
      go_wp2_with fail
      go_ret
      exact ⟨rfl, HB0.out⟩
  · by_cases c1 : n = 0
    · subst c1
      obtain ⟨r, hr⟩ : ∃ r, decide (ts = [0, 0]) = r := ⟨_, rfl⟩
      rw [show resV p 4 0 ts = cond r 0 (-1) by
        rw [← hr]
        unfold resV
        rw [if_neg (by omega), if_pos (by omega)]
        by_cases h : ts = [0, 0]
        · rw [if_pos ⟨rfl, h⟩, decide_eq_true h]; rfl
        · rw [if_neg (fun e => h e.2), decide_eq_false h]; rfl]
      have C1 := (Below.refl W0.heap.size W0).alloc (Nat.le_refl _) (.cells #[.int .i64 0, .int .i64 0] 3)
      have C2 := ints_row (alloc_last W0 (.cells #[.int .i64 0, .int .i64 0] 3) (w.heap.size + 1) hz0.symm) (xs := [0, 0]) rfl (by simp [maxLen])
      have HS := Lib.hid (show Calls Tryz.prog 94 #[.slice B' ts.length d', .slice (some ⟨w.heap.size + 1, 0, none⟩) 2 2] (W0.alloc (.cells #[.int .i64 0, .int .i64 0] 3)) fun e w'' => e = .returned (.bool r) ∧ Below (W0.alloc (.cells #[.int .i64 0, .int .i64 0] 3)).heap.size (W0.alloc (.cells #[.int .i64 0, .int .i64 0] 3)) w'' from sameInts_b r _ _ _ _ _ _ _ _ _ (HI.out _ C1) C2 hr)
      have HB1 := Lib.hid (HB0.out.alloc HB0.out.size (.cells #[.int .i64 0, .int .i64 0] 3))
      clear C1 C2 hr
      go_enter Tryz.func85, Tryz.ntmps85
      go_wp2_with fail
      rw [← hW0]
      clear hW0
      refine HS.out.mono ?_
      rintro e w5 ⟨rfl, hB5⟩
      have HB5 := Lib.hid (HB1.out.trans (hB5.mono HB1.out.size))
      clear hB5
      go_wp2_with fail
      refine (typeWhen_is _ _ _).mono ?_
      rintro e w9 ⟨rfl, rfl⟩
      go_wp2_with fail
      go_ret
      exact ⟨rfl, HB5.out⟩
    · have c2 : (n == 0) = false := by rw [beq_eq_false_iff_ne]; exact c1
      rw [show resV p 4 n ts = -1 by unfold resV; rw [if_neg (by omega), if_pos (by omega), if_neg (fun e => c1 e.1)]]
      clear c1
      go_enter Tryz.func85, Tryz.ntmps85
      go_wp2_with fail
      rw [← hW0]
      clear hW0
      refine (typeWhen_is _ _ _).mono ?_
      rintro e w9 ⟨rfl, rfl⟩
      go_wp2_with fail
      go_ret
      exact ⟨rfl, HB0.out⟩
  · by_cases c1 : n = 0
    · subst c1
      obtain ⟨r, hr⟩ : ∃ r, decide (ts = [0]) = r := ⟨_, rfl⟩
      rw [show resV p 5 0 ts = cond r 0 (-1) by
        rw [← hr]
        unfold resV
        rw [if_neg (by omega), if_neg (by omega), if_pos rfl]
        by_cases h : ts = [0]
        · rw [if_pos ⟨rfl, h⟩, decide_eq_true h]; rfl
        · rw [if_neg (fun e => h e.2), decide_eq_false h]; rfl]
      have C1 := (Below.refl W0.heap.size W0).alloc (Nat.le_refl _) (.cells #[.int .i64 0] 3)
      have C2 := ints_row (alloc_last W0 (.cells #[.int .i64 0] 3) (w.heap.size + 1) hz0.symm) (xs := [0]) rfl (by simp [maxLen])
      have HS := Lib.hid (show Calls Tryz.prog 94 #[.slice B' ts.length d', .slice (some ⟨w.heap.size + 1, 0, none⟩) 1 1] (W0.alloc (.cells #[.int .i64 0] 3)) fun e w'' => e = .returned (.bool r) ∧ Below (W0.alloc (.cells #[.int .i64 0] 3)).heap.size (W0.alloc (.cells #[.int .i64 0] 3)) w'' from sameInts_b r _ _ _ _ _ _ _ _ _ (HI.out _ C1) C2 hr)
      have HB1 := Lib.hid (HB0.out.alloc HB0.out.size (.cells #[.int .i64 0] 3))
      clear C1 C2 hr
      go_enter Tryz.func85, Tryz.ntmps85
      go_wp2_with fail
      rw [← hW0]
      clear hW0
      refine HS.out.mono ?_
      rintro e w5 ⟨rfl, hB5⟩
      have HB5 := Lib.hid (HB1.out.trans (hB5.mono HB1.out.size))
      clear hB5
      go_wp2_with fail
      refine (typeWhen_is _ _ _).mono ?_
      rintro e w9 ⟨rfl, rfl⟩
      go_wp2_with fail
      go_ret
      exact ⟨rfl, HB5.out⟩
    · have c2 : (n == 0) = false := by rw [beq_eq_false_iff_ne]; exact c1
      rw [show resV p 5 n ts = -1 by unfold resV; rw [if_neg (by omega), if_neg (by omega), if_pos rfl, if_neg (fun e => c1 e.1)]]
      clear c1
      go_enter Tryz.func85, Tryz.ntmps85
      go_wp2_with fail
      rw [← hW0]
      clear hW0
      refine (typeWhen_is _ _ _).mono ?_
      rintro e w9 ⟨rfl, rfl⟩
      go_wp2_with fail
      go_ret
      exact ⟨rfl, HB0.out⟩
  · rw [show resV p 6 n ts = conRes p.decls n ts by unfold resV; rw [if_neg (by omega), if_neg (by omega), if_neg (by omega), if_pos rfl]]
    go_enter Tryz.func85, Tryz.ntmps85
    go_wp2_with fail
    rw [← hW0]
    clear hW0
    refine (resultOfCon_any n ts L U L' U' p.decls _ _ W0 HD.out z1 HTB.out (HI.out W0 (Below.refl _ _)) z2).mono ?_
    rintro e w5 ⟨rfl, hB5⟩
    have HB5 := Lib.hid (HB0.out.trans (hB5.mono HB0.out.size))
    clear hB5
    go_wp2_with fail
    go_ret
    exact ⟨rfl, HB5.out⟩
  · rw [show resV p 9 n ts = callRes p n ts by unfold resV; rw [if_neg (by omega), if_neg (by omega), if_neg (by omega), if_neg (by omega), if_pos rfl]]
    go_enter Tryz.func85, Tryz.ntmps85
    go_wp2_with fail
    rw [← hW0]
    clear hW0
    refine (resultOfCall_any n ts L U L' U' p _ _ W0 HV.out z1 (HI.out W0 (Below.refl _ _)) z2).mono ?_
    rintro e w5 ⟨rfl, hB5⟩
    have HB5 := Lib.hid (HB0.out.trans (hB5.mono HB0.out.size))
    clear hB5
    go_wp2_with fail
    go_ret
    exact ⟨rfl, HB5.out⟩
  · rw [show resV p 10 n ts = closeRes p n ts by unfold resV; rw [if_neg (by omega), if_neg (by omega), if_neg (by omega), if_neg (by omega), if_neg (by omega), if_pos rfl]]
    go_enter Tryz.func85, Tryz.ntmps85
    go_wp2_with fail
    rw [← hW0]
    clear hW0
    refine (resultOfClose_any n ts L U L' U' p _ _ W0 HV.out z1 (HI.out W0 (Below.refl _ _)) z2).mono ?_
    rintro e w5 ⟨rfl, hB5⟩
    have HB5 := Lib.hid (HB0.out.trans (hB5.mono HB0.out.size))
    clear hB5
    go_wp2_with fail
    go_ret
    exact ⟨rfl, HB5.out⟩
  · by_cases c1 : n = 0
    · subst c1
      rw [show resV p 11 0 ts = applyRes p.decls ts by unfold resV; rw [if_neg (by omega), if_neg (by omega), if_neg (by omega), if_neg (by omega), if_neg (by omega), if_neg (by omega), if_pos rfl, if_pos rfl]]
      go_enter Tryz.func85, Tryz.ntmps85
      go_wp2_with fail
      rw [← hW0]
      clear hW0
      refine (resultOfApply_any ts L U L' U' p.decls _ _ W0 HD.out z1 (HI.out W0 (Below.refl _ _)) z2).mono ?_
      rintro e w5 ⟨rfl, hB5⟩
      have HB5 := Lib.hid (HB0.out.trans (hB5.mono HB0.out.size))
      clear hB5
      go_wp2_with fail
      go_ret
      exact ⟨rfl, HB5.out⟩
    · have c2 : (n == 0) = false := by rw [beq_eq_false_iff_ne]; exact c1
      rw [show resV p 11 n ts = -1 by unfold resV; rw [if_neg (by omega), if_neg (by omega), if_neg (by omega), if_neg (by omega), if_neg (by omega), if_neg (by omega), if_pos rfl, if_neg c1]]
      clear c1
      go_enter Tryz.func85, Tryz.ntmps85
      go_wp2_with fail
      rw [← hW0]
      clear hW0
      go_ret
      exact ⟨rfl, HB0.out⟩
  · rw [show resV p o n ts = -1 by unfold resV; rw [if_neg (by omega), if_neg (by omega), if_neg (by omega), if_neg (by omega), if_neg (by omega), if_neg (by omega), if_neg (by omega)]]
    have b0 : (o == 0) = false := by rw [beq_eq_false_iff_ne]; exact n0
    have b1' : (o == 1) = false := by rw [beq_eq_false_iff_ne]; exact n1
    have b2' : (o == 2) = false := by rw [beq_eq_false_iff_ne]; exact n2
    have b3 : (o == 3) = false := by rw [beq_eq_false_iff_ne]; exact n3
    have b4 : (o == 4) = false := by rw [beq_eq_false_iff_ne]; exact n4
    have b5 : (o == 5) = false := by rw [beq_eq_false_iff_ne]; exact n5
    have b6 : (o == 6) = false := by rw [beq_eq_false_iff_ne]; exact n6
    have b9 : (o == 9) = false := by rw [beq_eq_false_iff_ne]; exact n9
    have b10 : (o == 10) = false := by rw [beq_eq_false_iff_ne]; exact n10
    have b11 : (o == 11) = false := by rw [beq_eq_false_iff_ne]; exact n11
    clear n0 n1 n2 n3 n4 n5 n6 n9 n10 n11
    go_enter Tryz.func85, Tryz.ntmps85
    go_wp2_with fail
    rw [← hW0]
    clear hW0
    go_ret
    exact ⟨rfl, HB0.out⟩
end Go.Proofs.YtihmkaodjpgikaaGreat
