/- Contracts of chapter 2: the parameters that a function does not mention, from outside. -/
import Derived.Test.YthbingbbimikhaaPc1
import Derived.Test.YthbingbbimikhaaT7
namespace Go.Proofs.Ythbingbbimikhaa
open Go.RowKit Go.BigFrame
/-- How often an expression mentions a variable. -/
def mentE (e : Ex) (v : Nat) : Nat := ment (v : Int) e.op e.num + sumL (ment (v : Int)) e.kids
/-- The parameters below a bound that an expression does not mention. -/
def unusTo (e : Ex) : Nat → List Int
  | 0 => []
  | k + 1 => if mentE e k = 0 then unusTo e k ++ [(k : Int)] else unusTo e k
theorem unus_yes {e : Ex} {k : Nat} (h : mentE e k = 0) : unusTo e (k + 1) = unusTo e k ++ [(k : Int)] := by rw [unusTo, if_pos h]
theorem unus_no {e : Ex} {k : Nat} (h : ¬ mentE e k = 0) : unusTo e (k + 1) = unusTo e k := by rw [unusTo, if_neg h]
theorem unus_len (e : Ex) (k : Nat) : (unusTo e k).length ≤ k := by
  induction k with
  | zero => simp [unusTo]
  | succ k ih =>
    by_cases h : mentE e k = 0
    · rw [unus_yes h]; simp; omega
    · rw [unus_no h]; omega
/-- The parameters that a function does not mention. -/
def unV (p : Pg) (f : Int) : List Int := if progOk p = true ∧ hasF p f = true then unusTo (fnAt p f).body (fnAt p f).params.length else []
theorem unV_no {p : Pg} {f : Int} (h : progOk p = false ∨ hasF p f = false) : unV p f = [] := by
  unfold unV
  rw [if_neg]
  rintro ⟨h1, h2⟩
  rcases h with h | h
  · rw [h] at h1; cases h1
  · rw [h] at h2; cases h2
theorem unV_yes {p : Pg} {k : Nat} (h1 : progOk p = true) (h2 : hasF p (k : Int) = true) : unV p (k : Int) = unusTo (nthF p.funcs k).body (nthF p.funcs k).params.length := by
  unfold unV fnAt; rw [if_pos ⟨h1, h2⟩, Int.toNat_natCast]
theorem unV_len (p : Pg) (f : Int) : (unV p f).length ≤ 1048576 := by
  rcases hs : progOk p with _ | _
  · rw [unV_no (.inl hs)]; simp
  · rcases hb : hasF p f with _ | _
    · rw [unV_no (.inr hb)]; simp
    · obtain ⟨k, rfl, hk⟩ : ∃ k : Nat, f = (k : Int) ∧ k < p.funcs.length := by
        unfold hasF at hb
        obtain ⟨h1, h2⟩ := Bool.and_eq_true_iff.1 hb
        have h1 := of_decide_eq_true h1
        have h2 := of_decide_eq_true h2
        exact ⟨f.toNat, by omega, by omega⟩
      rw [unV_yes hs hb]
      have := unus_len (nthF p.funcs k).body (nthF p.funcs k).params.length
      have := sig_three (sigs_at (prog_sigs hs) hk)
      omega
set_option maxHeartbeats 1600000 in
theorem unusedTop_any {w : World} {p : Pg} {pv : Value} (f : Int) (hp : Pgm w 0 w.heap.size pv p) (hr : progR p) :
    Calls Try.prog 26 #[pv, .int .i64 f] w fun e w' => ∃ u, e = .returned u ∧ Below w.heap.size w w' ∧ Own w' w.heap.size u (unV p f) := by
  obtain ⟨dd, ff, rfl, hd, hf⟩ := hp
  have hp : Pgm w 0 w.heap.size (.agg #[dd, ff]) p := ⟨dd, ff, rfl, hd, hf⟩
  obtain ⟨B1, b1, rfl, l1, m1⟩ := hd.open_
  obtain ⟨B2, b2, rfl, l2, m2⟩ := hf.open_
  obtain ⟨W0, hW0⟩ : ∃ W0, W0 = w.alloc (.cells #[.slice B1 p.decls.length b1, .slice B2 p.funcs.length b2] 36) := ⟨_, rfl⟩
  have hB0 : Below w.heap.size w W0 := by rw [hW0]; exact (Below.refl _ w).alloc (Nat.le_refl _) _
  have hz0 : W0.heap.size = w.heap.size + 1 := by rw [hW0]; simp
  have x0 : W0.heap[w.heap.size]? = some (.cells #[.slice B1 p.decls.length b1, .slice B2 p.funcs.length b2] 36 (0, 0)) := by rw [hW0]; exact alloc_last _ _ _ rfl
  have HX := Lib.hid fun W (hB : Below W0.heap.size W0 W) => cells2 ((hB.block w.heap.size (by omega)).trans x0)
  have HE := Lib.hid fun W (hB : Below W0.heap.size W0 W) => hB0.trans (hB.mono (show w.heap.size ≤ W0.heap.size by omega))
  have HPG := Lib.hid fun W (hB : Below W0.heap.size W0 W) => (hp.keep (Same.of_below (HE.out W hB) (Nat.le_refl _))).wide (Nat.le_refl _) (HE.out W hB).size
  have HF := Lib.hid fun W (hB : Below W0.heap.size W0 W) => (HPG.out W hB).two.2
  have HZ := Lib.hid hz0
  have CS := Lib.hid (validProgram_any (HPG.out W0 (Below.refl _ _)) hr)
  have hz1 : w.heap.size ≤ W0.heap.size := by omega
  clear hp hd hf x0 hz0
  obtain ⟨q0, q1⟩ := HX.out W0 (Below.refl _ _)
  rcases hs : progOk p with _ | _
  · rw [unV_no (.inl hs)]
    rw [hs] at CS
    clear hs
    go_enter Try.func26, Try.ntmps26
    go_wp2_with fail
    rw [← hW0]
    clear hW0
    refine CS.out.mono ?_
    rintro e w1 ⟨rfl, hB1⟩
    have HB1 := Lib.hid (HE.out _ hB1)
    clear hB1
    go_wp2_with fail
    go_ret
    exact ⟨_, rfl, HB1.out, Own.nil _ _⟩
  · have hfl := (sigs_len (prog_sigs hs)).2
    rw [hs] at CS
    rcases hb : hasF p f with _ | _
    · rw [unV_no (.inr hb)]
      have CH := Lib.hid fun (W : World) (hB : Below W0.heap.size W0 W) => hasFunc_is _ f _ _ p _ W (HPG.out W hB) hb
      clear hb hs
      go_enter Try.func26, Try.ntmps26
      go_wp2_with fail
      rw [← hW0]
      clear hW0
      refine CS.out.mono ?_
      rintro e w1 ⟨rfl, hB1⟩
      obtain ⟨Q0, Q1⟩ := HX.out w1 hB1
      have z1 := hB1.size
      have HB1 := Lib.hid hB1
      clear hB1 CS q0 q1
      go_wp2_with fail
      refine (CH.out w1 HB1.out).mono ?_
      rintro e w2 ⟨rfl, hB2⟩
      have HB2 := Lib.hid (HE.out _ (HB1.out.trans (hB2.mono z1)))
      clear hB2 Q0 Q1
      go_wp2_with fail
      go_ret
      exact ⟨_, rfl, HB2.out, Own.nil _ _⟩
    · have CH := Lib.hid fun (W : World) (hB : Below W0.heap.size W0 W) => hasFunc_is _ f _ _ p _ W (HPG.out W hB) hb
      obtain ⟨k, rfl, hk⟩ : ∃ k : Nat, f = (k : Int) ∧ k < p.funcs.length := by
        unfold hasF at hb
        obtain ⟨h1, h2⟩ := Bool.and_eq_true_iff.1 hb
        have h1 := of_decide_eq_true h1
        have h2 := of_decide_eq_true h2
        exact ⟨f.toNat, by omega, by omega⟩
      rw [unV_yes hs hb]
      have h30 := body_small hs hk
      have h3 := sig_three (sigs_at (prog_sigs hs) hk)
      have k0 : (0 : Int) ≤ (k : Int) := by omega
      have k1 : (k : Int) < (p.funcs.length : Int) := by omega
      obtain ⟨m, hm⟩ : ∃ m, (nthF p.funcs k).params.length = m := ⟨_, rfl⟩
      rw [hm] at h3 ⊢
      clear hb hs
      go_enter Try.func26, Try.ntmps26
      go_wp2_with fail
      rw [← hW0]
      clear hW0
      refine CS.out.mono ?_
      rintro e w1 ⟨rfl, hB1⟩
      obtain ⟨Q0, Q1⟩ := HX.out w1 hB1
      have z1 := hB1.size
      have HB1 := Lib.hid hB1
      clear hB1 CS q0 q1
      go_wp2_with fail
      refine (CH.out w1 HB1.out).mono ?_
      rintro e w2 ⟨rfl, hB2⟩
      have hB3 := HB1.out.trans (hB2.mono z1)
      have z3 := hB3.size
      obtain ⟨R0, R1⟩ := HX.out w2 hB3
      obtain ⟨b, o, A1, c1, A2, c2, rfl, _, hb, e0, e1, e2, e3, e4, _, _⟩ := (HF.out w2 hB3).at_ hk
      rw [hm] at e0
      have HB3 := Lib.hid hB3
      clear hB2 hB3 Q0 Q1 CH HB1
      go_wp2_with fail
      clear R0 R1 e0 e1 e2 e3 e4
      go_loopw [5, 23] (fun u i wr => ∃ (q : Nat), q ≤ m ∧ i = .int .i64 q ∧ Own wr W0.heap.size u (unusTo (nthF p.funcs k).body q) ∧ Below W0.heap.size W0 wr) (fun _ i _ => m - (intOf i).toNat)
      case atStart => exact ⟨0, by omega, rfl, Own.nil _ _, HB3.out⟩
      case round =>
        obtain ⟨q, hq, rfl, hown, hB⟩ := hrel
        have hz := hB.size
        obtain ⟨S0, S1⟩ := HX.out wr hB
        obtain ⟨b', o', A1', c1', A2', c2', e', _, hb', f0, f1, f2, f3, f4, _, hE'⟩ := (HF.out wr hB).at_ hk
        cases e'
        rw [hm] at f0
        by_cases hlt : q < m
        · obtain ⟨t, ht⟩ : ∃ t, mentE (nthF p.funcs k).body q = t := ⟨_, rfl⟩
          have CK := mentionsIn_any hE' (q : Int) (nthF p.funcs k).body.op (nthF p.funcs k).body.num wr (Same.refl _ _ _) (Nat.le_refl _) (by omega)
          rw [show ment (q : Int) (nthF p.funcs k).body.op (nthF p.funcs k).body.num + sumL (ment (q : Int)) (nthF p.funcs k).body.kids = t from ht] at CK
          have hyl := unus_len (nthF p.funcs k).body q
          have CK := Lib.hid CK
          have HO := Lib.hid (And.intro hown hB)
          have hq3 : q ≤ 3 := by omega
          clear hE' hown hB
          by_cases h0 : t = 0
          · subst h0
            have HN := Lib.hid (unus_yes ht)
            clear ht
            go_wp2_with fail
            refine CK.out.mono ?_
            rintro e w4 ⟨rfl, hB4⟩
            have hown4 := HO.out.1.keep (Same.of_below hB4 (Nat.le_refl _))
            have hB5 := HO.out.2.trans (hB4.mono hz)
            have hz5 := hB5.size
            have HB5 := Lib.hid hB5
            clear hB4 hB5 CK HO S0 S1 f0 f1 f2 f3 f4
            go_wp2_with (at_builtin; refine wp_push rfl (.tmp 35) (.tmp 37) rfl rfl hown4 rfl (by omega) hz5 ?_)
            intro u1 w6 ho6 hB6 _
            rw [← HN.out] at ho6
            have HH := Lib.hid (And.intro ho6 (HB5.out.trans hB6))
            clear ho6 hB6 hown4 HB5
            go_wp2_with fail
            go_roundw
            case rel => exact ⟨q + 1, by omega, by go_num, HH.out.1, HH.out.2⟩
            case measure => simp [intOf]; omega
          · have HN := Lib.hid (unus_no (by rw [ht]; exact h0 : ¬ mentE (nthF p.funcs k).body q = 0))
            have hne : ¬ ((t : Nat) : Int) = 0 := by omega
            clear ht
            go_wp2_with fail
            refine CK.out.mono ?_
            rintro e w4 ⟨rfl, hB4⟩
            have hown4 := HO.out.1.keep (Same.of_below hB4 (Nat.le_refl _))
            rw [← HN.out] at hown4
            have HH := Lib.hid (And.intro hown4 (HO.out.2.trans (hB4.mono hz)))
            clear hB4 hown4 CK HO S0 S1 f0 f1 f2 f3 f4
            go_wp2_with fail
            go_roundw
            case rel => exact ⟨q + 1, by omega, by go_num, HH.out.1, HH.out.2⟩
            case measure => simp [intOf]; omega
        · have hqm : q = m := by omega
          subst hqm
          have HH := Lib.hid (And.intro (hown.wide hz1) (HE.out wr hB))
          clear hown hB hE'
          go_wp2_with fail
          go_ret
          exact ⟨_, rfl, HH.out.2, HH.out.1⟩
set_option maxHeartbeats 1600000 in
theorem sUnusedTop_any {w : World} {p : Pg} {pv : Value} (f : Int) (hp : Pgm w 0 w.heap.size pv p) :
    Calls Try.prog 25 #[pv, .int .i64 f] w fun e w' => ∃ u, e = .returned u ∧ Below w.heap.size w w' ∧ Ints w' w.heap.size w'.heap.size u (unV p f) := by
  obtain ⟨dd, ff, rfl, hd, hf⟩ := hp
  have hp : Pgm w 0 w.heap.size (.agg #[dd, ff]) p := ⟨dd, ff, rfl, hd, hf⟩
  obtain ⟨B1, b1, rfl, l1, m1⟩ := hd.open_
  obtain ⟨B2, b2, rfl, l2, m2⟩ := hf.open_
  obtain ⟨W0, hW0⟩ : ∃ W0, W0 = w.alloc (.cells #[.slice B1 p.decls.length b1, .slice B2 p.funcs.length b2] 36) := ⟨_, rfl⟩
  have hB0 : Below w.heap.size w W0 := by rw [hW0]; exact (Below.refl _ w).alloc (Nat.le_refl _) _
  have hz0 : W0.heap.size = w.heap.size + 1 := by rw [hW0]; simp
  have x0 : W0.heap[w.heap.size]? = some (.cells #[.slice B1 p.decls.length b1, .slice B2 p.funcs.length b2] 36 (0, 0)) := by rw [hW0]; exact alloc_last _ _ _ rfl
  have HX := Lib.hid fun W (hB : Below W0.heap.size W0 W) => cells2 ((hB.block w.heap.size (by omega)).trans x0)
  have HE := Lib.hid fun W (hB : Below W0.heap.size W0 W) => hB0.trans (hB.mono (show w.heap.size ≤ W0.heap.size by omega))
  have HPG := Lib.hid fun W (hB : Below W0.heap.size W0 W) => (hp.keep (Same.of_below (HE.out W hB) (Nat.le_refl _))).wide (Nat.le_refl _) (HE.out W hB).size
  have HF := Lib.hid fun W (hB : Below W0.heap.size W0 W) => (HPG.out W hB).two.2
  have HZ := Lib.hid hz0
  have CS := Lib.hid (sValidProgram_any (HPG.out W0 (Below.refl _ _)))
  have hz1 : w.heap.size ≤ W0.heap.size := by omega
  clear hp hd hf x0 hz0
  obtain ⟨q0, q1⟩ := HX.out W0 (Below.refl _ _)
  rcases hs : progOk p with _ | _
  · rw [unV_no (.inl hs)]
    rw [hs] at CS
    clear hs
    go_enter Try.func25, Try.ntmps25
    go_wp2_with fail
    rw [← hW0]
    clear hW0
    refine CS.out.mono ?_
    rintro e w1 ⟨rfl, hB1⟩
    have HB1 := Lib.hid (HE.out _ hB1)
    clear hB1
    go_wp2_with fail
    go_ret
    exact ⟨_, rfl, HB1.out, (Own.nil _ _).ints⟩
  · have hfl := (sigs_len (prog_sigs hs)).2
    rw [hs] at CS
    have s1 : IntKind.i64.wrap ((p.funcs.length : Int) - 1) = (p.funcs.length : Int) - 1 := IntWalk.i64_in _ (by omega)
    rcases hb : hasF p f with _ | _
    · rw [unV_no (.inr hb)]
      have CH := Lib.hid fun (W : World) => sInR_is hb W
      clear hb hs
      go_enter Try.func25, Try.ntmps25
      go_wp2_with fail
      rw [← hW0]
      clear hW0
      refine CS.out.mono ?_
      rintro e w1 ⟨rfl, hB1⟩
      obtain ⟨Q0, Q1⟩ := HX.out w1 hB1
      have z1 := hB1.size
      have HB1 := Lib.hid (HE.out _ hB1)
      clear hB1 CS q0 q1
      go_wp2_with ((go_at_call 49; refine (CH.out _).mono ?_; rintro e w2 ⟨rfl, rfl⟩))
      go_ret
      exact ⟨_, rfl, HB1.out, (Own.nil _ _).ints⟩
    · have CH := Lib.hid fun (W : World) => sInR_is hb W
      obtain ⟨k, rfl, hk⟩ : ∃ k : Nat, f = (k : Int) ∧ k < p.funcs.length := by
        unfold hasF at hb
        obtain ⟨h1, h2⟩ := Bool.and_eq_true_iff.1 hb
        have h1 := of_decide_eq_true h1
        have h2 := of_decide_eq_true h2
        exact ⟨f.toNat, by omega, by omega⟩
      rw [unV_yes hs hb]
      have h30 := body_small hs hk
      have h3 := sig_three (sigs_at (prog_sigs hs) hk)
      have k0 : (0 : Int) ≤ (k : Int) := by omega
      have k1 : (k : Int) < (p.funcs.length : Int) := by omega
      obtain ⟨m, hm⟩ : ∃ m, (nthF p.funcs k).params.length = m := ⟨_, rfl⟩
      rw [hm] at h3 ⊢
      clear hb hs
      go_enter Try.func25, Try.ntmps25
      go_wp2_with fail
      rw [← hW0]
      clear hW0
      refine CS.out.mono ?_
      rintro e w1 ⟨rfl, hB1⟩
      obtain ⟨Q0, Q1⟩ := HX.out w1 hB1
      have z1 := hB1.size
      obtain ⟨b, o, A1, c1, A2, c2, rfl, _, hb, e0, e1, e2, e3, e4, _, _⟩ := (HF.out w1 hB1).at_ hk
      obtain ⟨W2, hW2⟩ : ∃ W2, W2 = w1.alloc (.cells #[] 3) := ⟨_, rfl⟩
      have hBa : Below w1.heap.size w1 W2 := by rw [hW2]; exact (Below.refl _ w1).alloc (Nat.le_refl _) _
      have hown : Own W2 w1.heap.size (.slice (some ⟨w1.heap.size, 0, none⟩) 0 0) [] := by
        rw [hW2]; exact World.ownsRow_lit (base := w1.heap.size) (e := 3) (size := 1) w1 #[] 0 (Nat.le_refl _) (by simp [maxLen]) rfl
      have HO0 := Lib.hid (And.intro (hown.wide z1) (hB1.trans (hBa.mono z1)))
      clear hB1 CS q0 q1 hown hBa e0 e1 e2 e3 e4
      go_wp2_with ((go_at_call 49; refine (CH.out _).mono ?_; rintro e w2 ⟨rfl, rfl⟩))
      rw [← hW2]
      clear hW2 Q0 Q1
      go_loopw [5, 6] (fun u i wr => ∃ (q : Nat), q ≤ m ∧ i = .int .i64 q ∧ Own wr W0.heap.size u (unusTo (nthF p.funcs k).body q) ∧ Below W0.heap.size W0 wr) (fun _ i _ => m - (intOf i).toNat)
      case atStart => exact ⟨0, by omega, rfl, HO0.out.1, HO0.out.2⟩
      case round =>
        obtain ⟨q, hq, rfl, hown, hB⟩ := hrel
        have hz := hB.size
        obtain ⟨S0, S1⟩ := HX.out wr hB
        obtain ⟨b', o', A1', c1', A2', c2', e', _, hb', f0, f1, f2, f3, f4, _, hE'⟩ := (HF.out wr hB).at_ hk
        cases e'
        rw [hm] at f0
        by_cases hlt : q < m
        · obtain ⟨t, ht⟩ : ∃ t, mentE (nthF p.funcs k).body q = t := ⟨_, rfl⟩
          have CK := sMentions_any hE' (q : Int) (nthF p.funcs k).body.op (nthF p.funcs k).body.num wr (Same.refl _ _ _) (Nat.le_refl _) (by omega)
          rw [show ment (q : Int) (nthF p.funcs k).body.op (nthF p.funcs k).body.num + sumL (ment (q : Int)) (nthF p.funcs k).body.kids = t from ht] at CK
          have hyl := unus_len (nthF p.funcs k).body q
          have CK := Lib.hid CK
          have HO := Lib.hid (And.intro hown hB)
          have hq3 : q ≤ 3 := by omega
          clear hE' hown hB
          by_cases h0 : t = 0
          · subst h0
            have HN := Lib.hid (unus_yes ht)
            clear ht
            go_wp2_with fail
            refine CK.out.mono ?_
            rintro e w4 ⟨rfl, hB4⟩
            have hown4 := HO.out.1.keep (Same.of_below hB4 (Nat.le_refl _))
            have hB5 := HO.out.2.trans (hB4.mono hz)
            have hz5 := hB5.size
            have HB5 := Lib.hid hB5
            clear hB4 hB5 CK HO S0 S1 f0 f1 f2 f3 f4
            go_wp2_with (at_builtin; refine wp_push rfl (.tmp 40) (.tmp 42) rfl rfl hown4 rfl (by omega) hz5 ?_)
            intro u1 w6 ho6 hB6 _
            rw [← HN.out] at ho6
            have HH := Lib.hid (And.intro ho6 (HB5.out.trans hB6))
            clear ho6 hB6 hown4 HB5
            go_wp2_with fail
            go_roundw
            case rel => exact ⟨q + 1, by omega, by go_num, HH.out.1, HH.out.2⟩
            case measure => simp [intOf]; omega
          · have HN := Lib.hid (unus_no (by rw [ht]; exact h0 : ¬ mentE (nthF p.funcs k).body q = 0))
            have hne : ¬ ((t : Nat) : Int) = 0 := by omega
            clear ht
            go_wp2_with fail
            refine CK.out.mono ?_
            rintro e w4 ⟨rfl, hB4⟩
            have hown4 := HO.out.1.keep (Same.of_below hB4 (Nat.le_refl _))
            rw [← HN.out] at hown4
            have HH := Lib.hid (And.intro hown4 (HO.out.2.trans (hB4.mono hz)))
            clear hB4 hown4 CK HO S0 S1 f0 f1 f2 f3 f4
            go_wp2_with fail
            go_roundw
            case rel => exact ⟨q + 1, by omega, by go_num, HH.out.1, HH.out.2⟩
            case measure => simp [intOf]; omega
        · have hqm : q = m := by omega
          subst hqm
          have HH := Lib.hid (And.intro (hown.wide hz1) (HE.out wr hB))
          clear hown hB hE'
          go_wp2_with fail
          go_ret
          exact ⟨_, rfl, HH.out.2, HH.out.1.ints⟩
end Go.Proofs.Ythbingbbimikhaa
