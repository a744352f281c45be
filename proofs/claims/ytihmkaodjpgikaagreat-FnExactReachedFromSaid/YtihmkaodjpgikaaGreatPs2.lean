/- Contracts of chapter 2: valid signatures, as the model tests them. -/
import Derived.Test.YtihmkaodjpgikaaGreatPs1
namespace Go.Proofs.YtihmkaodjpgikaaGreat
open Go.RowKit Go.BigFrame
theorem sigOk_no {n : Nat} {f : Fn} (h : 3 < (f.params.length : Int) ∨ f.params.all (isTy n) = false ∨ isTy n f.result = false) : sigOk n f = false := by
  unfold sigOk
  rcases h with h | h | h
  · rw [decide_eq_false (by omega)]; rfl
  · rw [h]; simp
  · rw [h]; simp
theorem sigOk_yes {n : Nat} {f : Fn} (h1 : ¬ 3 < (f.params.length : Int)) (h2 : f.params.all (isTy n) = true) (h3 : isTy n f.result = true) : sigOk n f = true := by
  unfold sigOk
  rw [decide_eq_true (by omega), h2, h3]; rfl
set_option maxHeartbeats 1600000 in
theorem sSigs_any (L U : Nat) (p : Pg) (v : Value) (w : World) (hv : Pgm w L U v p) (hU : U ≤ w.heap.size) :
    Calls Tryz.prog 29 #[v] w fun e w' => e = .returned (.bool (sigsOk p)) ∧ Below w.heap.size w w' := by
  obtain ⟨dd, ff, rfl, hd, hf⟩ := hv
  obtain ⟨B1, b1, rfl, l1, m1⟩ := hd.open_
  obtain ⟨B2, b2, rfl, l2, m2⟩ := hf.open_
  obtain ⟨W0, hW0⟩ : ∃ W0, W0 = w.alloc (.cells #[.slice B1 p.decls.length b1, .slice B2 p.funcs.length b2] 32) := ⟨_, rfl⟩
  have hB0 : Below w.heap.size w W0 := by rw [hW0]; exact (Below.refl _ w).alloc (Nat.le_refl _) _
  have hz0 : W0.heap.size = w.heap.size + 1 := by rw [hW0]; simp
  have hbox : W0.heap[w.heap.size]? = some (.cells #[.slice B1 p.decls.length b1, .slice B2 p.funcs.length b2] 32 (0, 0)) := by rw [hW0]; exact alloc_last _ _ _ rfl
  have HX := Lib.hid fun W (hB : Below W0.heap.size W0 W) => cells2 ((hB.block w.heap.size (by omega)).trans hbox)
  have HD := Lib.hid fun W (hB : Below W0.heap.size W0 W) => hd.keep (Same.of_below (hB0.trans (hB.mono (show w.heap.size ≤ W0.heap.size by omega))) hU)
  have HF := Lib.hid fun W (hB : Below W0.heap.size W0 W) => hf.keep (Same.of_below (hB0.trans (hB.mono (show w.heap.size ≤ W0.heap.size by omega))) hU)
  have HE := Lib.hid fun W (hB : Below W0.heap.size W0 W) => hB0.trans (hB.mono (show w.heap.size ≤ W0.heap.size by omega))
  have hU0 : U ≤ W0.heap.size := by omega
  obtain ⟨q0, q1⟩ := HX.out W0 (Below.refl _ _)
  clear hd hf hbox
  rcases hT : typesOk p.decls with _ | _
  · have e0 := sigsOk_no (.inl hT)
    rw [e0]
    clear e0
    go_enter Tryz.func29, Tryz.ntmps29
    go_wp2_with fail
    rw [← hW0]
    clear hW0
    refine (sValidTypes_is _ _ _ _ _ W0 (HD.out W0 (Below.refl _ _)) hU0 hT).mono ?_
    rintro e w1 ⟨rfl, hB1⟩
    go_wp2_with fail
    go_ret
    exact ⟨rfl, HE.out _ hB1⟩
  · rcases hr : (decide ((1 : Int) ≤ (p.funcs.length : Int)) && decide ((p.funcs.length : Int) ≤ 4)) with _ | _
    · have e0 : sigsOk p = false := by
        by_cases h1 : p.funcs.length < 1
        · exact sigsOk_no (.inr (.inl h1))
        · refine sigsOk_no (.inr (.inr (.inl ?_)))
          rw [decide_eq_true (by omega), Bool.true_and, decide_eq_false_iff_not] at hr
          omega
      rw [e0]
      clear e0
      go_enter Tryz.func29, Tryz.ntmps29
      go_wp2_with fail
      rw [← hW0]
      clear hW0
      refine (sValidTypes_is _ _ _ _ _ W0 (HD.out W0 (Below.refl _ _)) hU0 hT).mono ?_
      rintro e w1 ⟨rfl, hB1⟩
      obtain ⟨q0, q1⟩ := HX.out w1 hB1
      go_wp2_with fail
      refine (inRange_is _ _ _ _ w1 hr).mono ?_
      rintro e w2 ⟨rfl, rfl⟩
      go_wp2_with fail
      go_ret
      exact ⟨rfl, HE.out _ hB1⟩
    · have hn : 1 ≤ p.funcs.length ∧ p.funcs.length ≤ 4 := by
        rw [Bool.and_eq_true, decide_eq_true_eq, decide_eq_true_eq] at hr
        omega
      go_enter Tryz.func29, Tryz.ntmps29
      go_wp2_with fail
      rw [← hW0]
      clear hW0
      refine (sValidTypes_is _ _ _ _ _ W0 (HD.out W0 (Below.refl _ _)) hU0 hT).mono ?_
      rintro e w1 ⟨rfl, hB1⟩
      clear q0 q1
      obtain ⟨q0, q1⟩ := HX.out w1 hB1
      have HB1 := Lib.hid hB1
      have HT := Lib.hid hT
      clear hB1 hT
      go_wp2_with fail
      refine (inRange_is _ _ _ _ w1 hr).mono ?_
      rintro e w2 ⟨rfl, rfl⟩
      clear hr
      go_wp2_with fail
      go_loopw [3] (fun i wr => ∃ k : Nat, k ≤ p.funcs.length ∧ i = .int .i64 k ∧ Hid (∀ j, j < k → sigOk p.decls.length (nthF p.funcs j) = true) ∧ Below W0.heap.size W0 wr) (fun i _ => p.funcs.length - (intOf i).toNat)
      case atStart => exact ⟨0, by omega, rfl, before_zero, HB1.out⟩
      case round =>
        obtain ⟨k, hk, rfl, H, hB⟩ := hrel
        have hz := hB.size
        clear q0 q1
        obtain ⟨q0, q1⟩ := HX.out wr hB
        by_cases hlt : k < p.funcs.length
        · obtain ⟨b, o, A1, c1, A2, c2, rfl, _, hb, e0, e1, e2, e3, e4, hI, _⟩ := (HF.out wr hB).at_ hlt
          obtain ⟨O, hO⟩ : ∃ O, O = wr.alloc (.cells #[.slice A1 (nthF p.funcs k).params.length c1, .int .i64 (nthF p.funcs k).result, .int .i64 (nthF p.funcs k).body.op, .int .i64 (nthF p.funcs k).body.num, .slice A2 (nthF p.funcs k).body.kids.length c2] 66) := ⟨_, rfl⟩
          have hBa : Below W0.heap.size W0 O := by rw [hO]; exact hB.alloc hz _
          have hIO : Ints O L U (.slice A1 (nthF p.funcs k).params.length c1) (nthF p.funcs k).params := by rw [hO]; exact hI.keep (Same.of_below ((Below.refl wr.heap.size wr).alloc (Nat.le_refl _) _) (by omega))
          have hfb : O.heap[wr.heap.size]? = some (.cells #[.slice A1 (nthF p.funcs k).params.length c1, .int .i64 (nthF p.funcs k).result, .int .i64 (nthF p.funcs k).body.op, .int .i64 (nthF p.funcs k).body.num, .slice A2 (nthF p.funcs k).body.kids.length c2] 66 (0, 0)) := by rw [hO]; exact alloc_last _ _ _ rfl
          obtain ⟨g0, g1, _, _, _⟩ := cells5 hfb
          obtain ⟨Q0, Q1⟩ := HX.out O hBa
          have HBa := Lib.hid hBa
          have HI := Lib.hid hIO
          have HH := Lib.hid H
          clear hBa hB hI hIO H hfb
          subst hO
          by_cases h3 : 3 < ((nthF p.funcs k).params.length : Int)
          · have HR := Lib.hid (sigOk_no (n := p.decls.length) (.inl h3))
            go_wp2_with fail
            go_ret
            exact ⟨ret_bool (sigsOk_no (.inr (.inr (.inr ⟨k, hlt, HR.out⟩)))).symm, HE.out _ HBa.out⟩
          · rcases ha : (nthF p.funcs k).params.all (isTy p.decls.length) with _ | _
            · have HR := Lib.hid (sigOk_no (n := p.decls.length) (.inr (.inl ha)))
              go_wp2_with fail
              refine (allTypes_is _ _ _ _ _ _ _ _ _ HI.out ha).mono ?_
              rintro e w2 ⟨rfl, rfl⟩
              go_wp2_with fail
              go_ret
              exact ⟨ret_bool (sigsOk_no (.inr (.inr (.inr ⟨k, hlt, HR.out⟩)))).symm, HE.out _ HBa.out⟩
            · rcases ht : isTy p.decls.length (nthF p.funcs k).result with _ | _
              · have HR := Lib.hid (sigOk_no (n := p.decls.length) (.inr (.inr ht)))
                go_wp2_with fail
                refine (allTypes_is _ _ _ _ _ _ _ _ _ HI.out ha).mono ?_
                rintro e w2 ⟨rfl, rfl⟩
                go_wp2_with fail
                refine (inRange_is _ _ _ _ _ ht).mono ?_
                rintro e w2 ⟨rfl, rfl⟩
                go_wp2_with fail
                go_ret
                exact ⟨ret_bool (sigsOk_no (.inr (.inr (.inr ⟨k, hlt, HR.out⟩)))).symm, HE.out _ HBa.out⟩
              · have HR := Lib.hid (sigOk_yes h3 ha ht)
                go_wp2_with fail
                refine (allTypes_is _ _ _ _ _ _ _ _ _ HI.out ha).mono ?_
                rintro e w2 ⟨rfl, rfl⟩
                go_wp2_with fail
                refine (inRange_is _ _ _ _ _ ht).mono ?_
                rintro e w2 ⟨rfl, rfl⟩
                clear ha ht
                go_wp2_with fail
                go_roundw
                case rel => exact ⟨k + 1, by omega, by go_num, before_step HH HR.out, HBa.out⟩
                case measure => simp [intOf]; omega
        · obtain rfl : k = p.funcs.length := by omega
          have hlt0 : 0 < p.funcs.length := by omega
          obtain ⟨b, o, A1, c1, A2, c2, rfl, _, hb, e0, e1, e2, e3, e4, hI, _⟩ := (HF.out wr hB).at_ hlt0
          simp only [Nat.zero_mul, Nat.add_zero] at e0 e1
          have HS := Lib.hid (sigsOk_end HT.out (by omega) (by omega) H)
          by_cases h0 : (nthF p.funcs 0).params.length = 0
          · have HS := Lib.hid (show sigsOk p = decide ((nthF p.funcs 0).result = 0) by rw [HS.out, decide_eq_true h0, Bool.true_and])
            rw [h0] at e0
            clear h0
            by_cases hr : (nthF p.funcs 0).result = 0
            · have HS := Lib.hid (show sigsOk p = true by rw [HS.out, decide_eq_true hr])
              rw [hr] at e1
              clear hr
              go_wp2_with fail
              go_ret
              exact ⟨ret_bool (by rw [HS.out]), HE.out _ hB⟩
            · have HS := Lib.hid (show sigsOk p = false by rw [HS.out, decide_eq_false hr])
              have hr2 : ((nthF p.funcs 0).result == 0) = false := by simp [hr]
              go_wp2_with fail
              go_ret
              exact ⟨ret_bool (by rw [HS.out]), HE.out _ hB⟩
          · have HS := Lib.hid (show sigsOk p = false by rw [HS.out, decide_eq_false h0, Bool.false_and])
            have h02 : ¬ ((nthF p.funcs 0).params.length : Int) = 0 := by omega
            go_wp2_with fail
            go_ret
            exact ⟨ret_bool (by rw [HS.out]), HE.out _ hB⟩
end Go.Proofs.YtihmkaodjpgikaaGreat
