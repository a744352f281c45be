/- Contracts of chapter 2: valid programs, by the model. -/
import Derived.Test.YtihmkaodjpgikaaGreatPu8
import Derived.Test.YtihmkaodjpgikaaGreatPs2
import Derived.Test.YtihmkaodjpgikaaGreatPv4
namespace Go.Proofs.YtihmkaodjpgikaaGreat
open Go.RowKit Go.BigFrame
set_option maxHeartbeats 3200000 in
theorem sValidProgram_any {w : World} {p : Pg} {pv : Value} (hp : Pgm w 0 w.heap.size pv p) :
    Calls Tryz.prog 15 #[pv] w fun e w' => e = .returned (.bool (progOk p)) ∧ Below w.heap.size w w' := by
  obtain ⟨dd, ff, rfl, hd, hf⟩ := hp
  have hp : Pgm w 0 w.heap.size (.agg #[dd, ff]) p := ⟨dd, ff, rfl, hd, hf⟩
  obtain ⟨B1, b1, rfl, l1, m1⟩ := hd.open_
  obtain ⟨B2, b2, rfl, l2, m2⟩ := hf.open_
  obtain ⟨W0, hW0⟩ : ∃ W0, W0 = w.alloc (.cells #[.slice B1 p.decls.length b1, .slice B2 p.funcs.length b2] 32) := ⟨_, rfl⟩
  have hB0 : Below w.heap.size w W0 := by rw [hW0]; exact (Below.refl _ w).alloc (Nat.le_refl _) _
  have hz0 : W0.heap.size = w.heap.size + 1 := by rw [hW0]; simp
  have x0 : W0.heap[w.heap.size]? = some (.cells #[.slice B1 p.decls.length b1, .slice B2 p.funcs.length b2] 32 (0, 0)) := by rw [hW0]; exact alloc_last _ _ _ rfl
  have HX := Lib.hid fun W (hB : Below W0.heap.size W0 W) => cells2 ((hB.block w.heap.size (by omega)).trans x0)
  have HE := Lib.hid fun W (hB : Below W0.heap.size W0 W) => hB0.trans (hB.mono (show w.heap.size ≤ W0.heap.size by omega))
  have HPG := Lib.hid fun W (hB : Below W0.heap.size W0 W) => (hp.keep (Same.of_below (HE.out W hB) (Nat.le_refl _))).wide (Nat.le_refl _) (HE.out W hB).size
  have HF := Lib.hid fun W (hB : Below W0.heap.size W0 W) => (HPG.out W hB).two.2
  have HZ := Lib.hid hz0
  have CS := Lib.hid (sSigs_any _ _ p _ W0 (HPG.out W0 (Below.refl _ _)) (Nat.le_refl _))
  clear hp hd hf x0 hz0
  obtain ⟨q0, q1⟩ := HX.out W0 (Below.refl _ _)
  rcases hs : sigsOk p with _ | _
  · rw [progOk_no (.inl hs)]
    rw [hs] at CS
    clear hs
    go_enter Tryz.func15, Tryz.ntmps15
    go_wp2_with fail
    rw [← hW0]
    clear hW0
    refine CS.out.mono ?_
    rintro e w1 ⟨rfl, hB1⟩
    have HB1 := Lib.hid (HE.out _ hB1)
    clear hB1
    go_wp2_with fail
    go_ret
    exact ⟨rfl, HB1.out⟩
  · have hto := sigs_types hs
    have hfl := (sigs_len hs).2
    rw [hs] at CS
    have HS := Lib.hid hs
    clear hs
    obtain ⟨R, hR⟩ : ∃ R, progOk p = R := ⟨_, rfl⟩
    rw [hR]
    have HR := Lib.hid hR
    clear hR
    go_enter Tryz.func15, Tryz.ntmps15
    go_wp2_with fail
    rw [← hW0]
    clear hW0
    refine CS.out.mono ?_
    rintro e w1 ⟨rfl, hB1⟩
    have HB1 := Lib.hid hB1
    obtain ⟨Q0, Q1⟩ := HX.out w1 hB1
    clear hB1 CS q0 q1
    go_wp2_with fail
    go_loopw [3] (fun i wr => ∃ k : Nat, k ≤ p.funcs.length ∧ i = .int .i64 k ∧ Hid (∀ j, j < k → decide (typeV p (nthF p.funcs j).params (nthF p.funcs j).body = (nthF p.funcs j).result) = true) ∧ Below W0.heap.size W0 wr) (fun i _ => p.funcs.length - (intOf i).toNat)
    case atStart => exact ⟨0, by omega, rfl, before_zero, HB1.out⟩
    case round =>
      obtain ⟨k, hk, rfl, H, hB⟩ := hrel
      have HBr := Lib.hid hB
      have zr := hB.size
      clear Q0 Q1
      obtain ⟨q0, q1⟩ := HX.out wr hB
      by_cases hlt : k < p.funcs.length
      · obtain ⟨b, o, A1, c1, A2, c2, rfl, _, hb, e0, e1, e2, e3, e4, hI, hX⟩ := (HF.out wr hB).at_ hlt
        have hsig := sigs_at HS.out hlt
        have hp3 := sig_three hsig
        have hpar : (nthF p.funcs k).params.all (isTy p.decls.length) = true := by unfold sigOk at hsig; simp only [Bool.and_eq_true] at hsig; exact hsig.2.1
        have hres : isTy p.decls.length (nthF p.funcs k).result = true := by unfold sigOk at hsig; simp only [Bool.and_eq_true] at hsig; exact hsig.2.2
        have hres0 : 0 ≤ (nthF p.funcs k).result := by unfold isTy at hres; simp only [Bool.and_eq_true, decide_eq_true_eq] at hres; exact hres.1
        obtain ⟨x, hnn⟩ : ∃ x, nodesOfV (nthF p.funcs k).body.kids = x := ⟨_, rfl⟩
        have C1 := sNodes_any (w := wr.drew) (hX.keep (same_drew _ _ _)) (nthF p.funcs k).body.op (nthF p.funcs k).body.num (Nat.le_refl _)
        rw [hnn] at C1
        have C1 := Lib.hid C1
        have k0 : (0 : Int) ≤ (k : Int) := by omega
        have k1 : (k : Int) < (p.funcs.length : Int) := by omega
        have g0 : w.heap.size < wr.heap.size := by have := HZ.out; omega
        by_cases h30 : 1 + sumL one_ (nthF p.funcs k).body.kids ≤ 30
        · have hx1 : ¬ x < 0 := by rw [← hnn]; unfold nodesOfV; rw [if_pos h30]; omega
          have hx0 : decide (x < 0) = false := decide_eq_false hx1
          clear hx1
          have htv : typeV p (nthF p.funcs k).params (nthF p.funcs k).body = (nthF p.funcs k).body.ty p (nthF p.funcs k).params := by unfold typeV; rw [if_pos ⟨HS.out, hpar, h30⟩]
          obtain ⟨tt, htt⟩ : ∃ t, (nthF p.funcs k).body.ty p (nthF p.funcs k).params = t := ⟨_, rfl⟩
          have hsum : (Ex.node (nthF p.funcs k).body.op (nthF p.funcs k).body.num (nthF p.funcs k).body.kids).sum one_ = 1 + sumL one_ (nthF p.funcs k).body.kids := by rw [sum_eq]; rfl
          have CT := Lib.hid fun (W : World) (hB : Below wr.heap.size wr W) => sTypeOf_any (hX.keep (Same.of_below hB (Nat.le_refl _))) p hto (by omega) (nthF p.funcs k).body.op (nthF p.funcs k).body.num (.agg #[.slice B1 p.decls.length b1, .slice (some ⟨b, o, none⟩) p.funcs.length b2]) (.slice A1 (nthF p.funcs k).params.length c1) (nthF p.funcs k).params W (Same.refl _ _ _) hB.size ⟨HPG.out _ (HBr.out.trans (hB.mono zr)), (hI.keep (Same.of_below hB (Nat.le_refl _))).wide (Nat.le_refl _) hB.size⟩ (by rw [hsum]; omega)
          rw [ex_eta, htt] at CT
          rw [htt] at htv
          have HTV := Lib.hid htv
          clear hI hX hsig hp3 hpar hres hnn h30 htt hsum htv
          by_cases ce : tt = (nthF p.funcs k).result
          · have cf : (tt != (nthF p.funcs k).result) = false := by rw [ce]; simp
            have HN := before_step H (show decide (typeV p (nthF p.funcs k).params (nthF p.funcs k).body = (nthF p.funcs k).result) = true by rw [HTV.out, ce]; simp)
            clear ce
            go_wp2_with fail
            go_region_held3 (fun w' => w'.cell? ⟨w.heap.size, 0, none⟩ = some (.slice B1 p.decls.length b1) ∧ w'.cell? ⟨w.heap.size, 1, none⟩ = some (.slice (some ⟨b, o, none⟩) p.funcs.length b2) ∧ w'.cell? ⟨b, o + k * 5, none⟩ = some (.slice A1 (nthF p.funcs k).params.length c1) ∧ w'.cell? ⟨b, o + k * 5 + 1, none⟩ = some (.int .i64 (nthF p.funcs k).result) ∧ w'.cell? ⟨b, o + k * 5 + 2, none⟩ = some (.int .i64 (nthF p.funcs k).body.op) ∧ w'.cell? ⟨b, o + k * 5 + 3, none⟩ = some (.int .i64 (nthF p.funcs k).body.num) ∧ w'.cell? ⟨b, o + k * 5 + 4, none⟩ = some (.slice A2 (nthF p.funcs k).body.kids.length c2))
              (first | go_keep | (exact ⟨(hB3.cell (by first | assumption | (simp; assumption))).trans (by first | assumption | (simp; assumption)), (hB3.cell (by first | assumption | (simp; assumption))).trans (by first | assumption | (simp; assumption)), (hB3.cell (by first | assumption | (simp; assumption))).trans (by first | assumption | (simp; assumption)), (hB3.cell (by first | assumption | (simp; assumption))).trans (by first | assumption | (simp; assumption)), (hB3.cell (by first | assumption | (simp; assumption))).trans (by first | assumption | (simp; assumption)), (hB3.cell (by first | assumption | (simp; assumption))).trans (by first | assumption | (simp; assumption)), (hB3.cell (by first | assumption | (simp; assumption))).trans (by first | assumption | (simp; assumption))⟩) | (exact ⟨(hB2.cell (by first | assumption | (simp; assumption))).trans (by first | assumption | (simp; assumption)), (hB2.cell (by first | assumption | (simp; assumption))).trans (by first | assumption | (simp; assumption)), (hB2.cell (by first | assumption | (simp; assumption))).trans (by first | assumption | (simp; assumption)), (hB2.cell (by first | assumption | (simp; assumption))).trans (by first | assumption | (simp; assumption)), (hB2.cell (by first | assumption | (simp; assumption))).trans (by first | assumption | (simp; assumption)), (hB2.cell (by first | assumption | (simp; assumption))).trans (by first | assumption | (simp; assumption)), (hB2.cell (by first | assumption | (simp; assumption))).trans (by first | assumption | (simp; assumption))⟩))
              (first | (go_at_call 31; refine (CT.out _ ((Below.refl wr.heap.size wr).drew.trans (hB2.mono (Nat.le_refl _)))).mono ?_; rintro e w3 ⟨rfl, hB3'⟩; have hB3 := hB2.trans (hB3'.mono hB2.size)) | (go_at_call 30; refine C1.out.mono ?_; rintro e w2 ⟨rfl, hB2⟩))
            have HB3 := Lib.hid (HBr.out.trans (((Below.refl wr.heap.size wr).drew.trans (hB3.mono (Nat.le_refl _))).mono zr))
            clear hB2 hB3 hB3' C1 CT hB q0 q1 e0 e1 e2 e3 e4
            go_wp2_with fail
            go_roundw
            case rel => exact ⟨k + 1, by omega, by go_num, HN, HB3.out⟩
            case measure => simp [intOf]; omega
          · have cf : (tt != (nthF p.funcs k).result) = true := by rw [bne_iff_ne]; exact ce
            have HN := Lib.hid (progOk_no (.inr ⟨k, hlt, by rw [HTV.out]; exact decide_eq_false ce⟩))
            clear ce
            go_wp2_with fail
            go_region_held3 (fun w' => w'.cell? ⟨w.heap.size, 0, none⟩ = some (.slice B1 p.decls.length b1) ∧ w'.cell? ⟨w.heap.size, 1, none⟩ = some (.slice (some ⟨b, o, none⟩) p.funcs.length b2) ∧ w'.cell? ⟨b, o + k * 5, none⟩ = some (.slice A1 (nthF p.funcs k).params.length c1) ∧ w'.cell? ⟨b, o + k * 5 + 1, none⟩ = some (.int .i64 (nthF p.funcs k).result) ∧ w'.cell? ⟨b, o + k * 5 + 2, none⟩ = some (.int .i64 (nthF p.funcs k).body.op) ∧ w'.cell? ⟨b, o + k * 5 + 3, none⟩ = some (.int .i64 (nthF p.funcs k).body.num) ∧ w'.cell? ⟨b, o + k * 5 + 4, none⟩ = some (.slice A2 (nthF p.funcs k).body.kids.length c2))
              (first | go_keep | (exact ⟨(hB3.cell (by first | assumption | (simp; assumption))).trans (by first | assumption | (simp; assumption)), (hB3.cell (by first | assumption | (simp; assumption))).trans (by first | assumption | (simp; assumption)), (hB3.cell (by first | assumption | (simp; assumption))).trans (by first | assumption | (simp; assumption)), (hB3.cell (by first | assumption | (simp; assumption))).trans (by first | assumption | (simp; assumption)), (hB3.cell (by first | assumption | (simp; assumption))).trans (by first | assumption | (simp; assumption)), (hB3.cell (by first | assumption | (simp; assumption))).trans (by first | assumption | (simp; assumption)), (hB3.cell (by first | assumption | (simp; assumption))).trans (by first | assumption | (simp; assumption))⟩) | (exact ⟨(hB2.cell (by first | assumption | (simp; assumption))).trans (by first | assumption | (simp; assumption)), (hB2.cell (by first | assumption | (simp; assumption))).trans (by first | assumption | (simp; assumption)), (hB2.cell (by first | assumption | (simp; assumption))).trans (by first | assumption | (simp; assumption)), (hB2.cell (by first | assumption | (simp; assumption))).trans (by first | assumption | (simp; assumption)), (hB2.cell (by first | assumption | (simp; assumption))).trans (by first | assumption | (simp; assumption)), (hB2.cell (by first | assumption | (simp; assumption))).trans (by first | assumption | (simp; assumption)), (hB2.cell (by first | assumption | (simp; assumption))).trans (by first | assumption | (simp; assumption))⟩))
              (first | (go_at_call 31; refine (CT.out _ ((Below.refl wr.heap.size wr).drew.trans (hB2.mono (Nat.le_refl _)))).mono ?_; rintro e w3 ⟨rfl, hB3'⟩; have hB3 := hB2.trans (hB3'.mono hB2.size)) | (go_at_call 30; refine C1.out.mono ?_; rintro e w2 ⟨rfl, hB2⟩))
            have HB3 := Lib.hid (HE.out _ (HBr.out.trans (((Below.refl wr.heap.size wr).drew.trans (hB3.mono (Nat.le_refl _))).mono zr)))
            clear hB2 hB3 hB3' C1 CT hB q0 q1 e0 e1 e2 e3 e4
            go_wp2_with fail
            go_ret
            exact ⟨ret_bool (by rw [← HR.out, HN.out]), HB3.out⟩
        · have hx0 : x = -1 := by rw [← hnn]; unfold nodesOfV; rw [if_neg h30]
          have HN := Lib.hid (progOk_no (p := p) (.inr ⟨k, hlt, by
            refine decide_eq_false (fun e => ?_)
            rw [show typeV p (nthF p.funcs k).params (nthF p.funcs k).body = -1 by unfold typeV; rw [if_neg (fun e => h30 e.2.2)]] at e
            omega⟩))
          subst hx0
          clear hI hX hsig hp3 hpar hres hnn h30 hres0
          go_wp2_with fail
          refine wp_region_noPanic ?_
          refine wp_region_held_drew (S := (fun w' => w'.cell? ⟨w.heap.size, 0, none⟩ = some (.slice B1 p.decls.length b1) ∧ w'.cell? ⟨w.heap.size, 1, none⟩ = some (.slice (some ⟨b, o, none⟩) p.funcs.length b2) ∧ w'.cell? ⟨b, o + k * 5, none⟩ = some (.slice A1 (nthF p.funcs k).params.length c1) ∧ w'.cell? ⟨b, o + k * 5 + 1, none⟩ = some (.int .i64 (nthF p.funcs k).result) ∧ w'.cell? ⟨b, o + k * 5 + 2, none⟩ = some (.int .i64 (nthF p.funcs k).body.op) ∧ w'.cell? ⟨b, o + k * 5 + 3, none⟩ = some (.int .i64 (nthF p.funcs k).body.num) ∧ w'.cell? ⟨b, o + k * 5 + 4, none⟩ = some (.slice A2 (nthF p.funcs k).body.kids.length c2))) (by kernel_rfl) ?_ (fun hHeld => ?_)
          · (first | go_keep | (exact ⟨(hB2.cell (by first | assumption | (simp; assumption))).trans (by first | assumption | (simp; assumption)), (hB2.cell (by first | assumption | (simp; assumption))).trans (by first | assumption | (simp; assumption)), (hB2.cell (by first | assumption | (simp; assumption))).trans (by first | assumption | (simp; assumption)), (hB2.cell (by first | assumption | (simp; assumption))).trans (by first | assumption | (simp; assumption)), (hB2.cell (by first | assumption | (simp; assumption))).trans (by first | assumption | (simp; assumption)), (hB2.cell (by first | assumption | (simp; assumption))).trans (by first | assumption | (simp; assumption)), (hB2.cell (by first | assumption | (simp; assumption))).trans (by first | assumption | (simp; assumption))⟩))
          refine wpAnyH_take (i := 0) (v := ?_) rfl (by kernel_rfl) (by kernel_rfl) (by kernel_rfl) (fun _ _ _ h => h) (Or.inl ⟨by rfl, ?_⟩) hHeld ?_
          rotate_left
          · (intro wq hSw; (try dsimp only at hSw); go_simp; try with_reducible rfl)
          refine act_eq (show Act.put _ (some 14) _ = _ from by simp only [Act.put, List.setIfInBounds_toArray, List.set_cons_zero, List.set_cons_succ]; exact rfl) ?_
          refine wpAnyH_take (i := 1) (v := ?_) rfl (by kernel_rfl) (by kernel_rfl) (by kernel_rfl) (fun _ _ _ h => h) (Or.inl ⟨by rfl, ?_⟩) hHeld ?_
          rotate_left
          · (intro wq hSw; (try dsimp only at hSw); go_simp; try with_reducible rfl)
          refine act_eq (show Act.put _ (some 15) _ = _ from by simp only [Act.put, List.setIfInBounds_toArray, List.set_cons_zero, List.set_cons_succ]; exact rfl) ?_
          refine wpAnyH_take (i := 2) (v := ?_) rfl (by kernel_rfl) (by kernel_rfl) (by kernel_rfl) (fun _ _ _ h => h) (Or.inl ⟨by rfl, ?_⟩) hHeld ?_
          rotate_left
          · (intro wq hSw; (try dsimp only at hSw); go_simp; try with_reducible rfl)
          refine act_eq (show Act.put _ (some 16) _ = _ from by simp only [Act.put, List.setIfInBounds_toArray, List.set_cons_zero, List.set_cons_succ]; exact rfl) ?_
          refine wpAnyH_take (i := 3) (v := ?_) rfl (by kernel_rfl) (by kernel_rfl) (by kernel_rfl) (fun _ _ _ h => h) (Or.inl ⟨by rfl, ?_⟩) hHeld ?_
          rotate_left
          · (intro wq hSw; (try dsimp only at hSw); go_simp; try with_reducible rfl)
          refine act_eq (show Act.put _ (some 17) _ = _ from by simp only [Act.put, List.setIfInBounds_toArray, List.set_cons_zero, List.set_cons_succ]; exact rfl) ?_
          refine wpAnyH_take (i := 4) (v := ?_) rfl (by kernel_rfl) (by kernel_rfl) (by kernel_rfl) (fun _ _ _ h => h) (Or.inl ⟨by rfl, ?_⟩) hHeld ?_
          rotate_left
          · (intro wq hSw; (try dsimp only at hSw); go_simp; try with_reducible rfl)
          refine act_eq (show Act.put _ (some 18) _ = _ from by simp only [Act.put, List.setIfInBounds_toArray, List.set_cons_zero, List.set_cons_succ]; exact rfl) ?_
          refine wpAnyH_take (i := 5) (v := ?_) rfl (by kernel_rfl) (by kernel_rfl) (by kernel_rfl) (fun _ _ _ h => h) (Or.inl ⟨by rfl, ?_⟩) hHeld ?_
          rotate_left
          · (intro wq hSw; (try dsimp only at hSw); go_simp; try with_reducible rfl)
          refine act_eq (show Act.put _ (some 19) _ = _ from by simp only [Act.put, List.setIfInBounds_toArray, List.set_cons_zero, List.set_cons_succ]; exact rfl) ?_
          refine wpAnyH_ready (rs := [6]) (by kernel_rfl) (by simp) ?_
          refine AllReadyH.cons rfl (fun K hK => ?_) AllReadyH.nil
          go_simp
          ((go_at_call 30; refine C1.out.mono ?_; rintro e w2 ⟨rfl, hB2'⟩; have hB2 := (Below.refl wr.heap.size wr).drew.trans (hB2'.mono (Nat.le_refl _))))
          refine hK.out _ _ ?_ (fun hHeld2 => ?_)
          · (first | go_keep | (exact ⟨(hB2.cell (by first | assumption | (simp; assumption))).trans (by first | assumption | (simp; assumption)), (hB2.cell (by first | assumption | (simp; assumption))).trans (by first | assumption | (simp; assumption)), (hB2.cell (by first | assumption | (simp; assumption))).trans (by first | assumption | (simp; assumption)), (hB2.cell (by first | assumption | (simp; assumption))).trans (by first | assumption | (simp; assumption)), (hB2.cell (by first | assumption | (simp; assumption))).trans (by first | assumption | (simp; assumption)), (hB2.cell (by first | assumption | (simp; assumption))).trans (by first | assumption | (simp; assumption)), (hB2.cell (by first | assumption | (simp; assumption))).trans (by first | assumption | (simp; assumption))⟩))
          clear hK K hHeld
          have hHeld := hHeld2
          clear hHeld2
          refine wpAnyH_take (i := 7) (v := ?_) rfl (by kernel_rfl) (by kernel_rfl) (by kernel_rfl) (fun _ _ _ h => h) (Or.inl ⟨by rfl, ?_⟩) hHeld ?_
          rotate_left
          · (intro wq hSw; (try dsimp only at hSw); go_simp; try with_reducible rfl)
          refine act_eq (show Act.put _ (some 21) _ = _ from by simp only [Act.put, List.setIfInBounds_toArray, List.set_cons_zero, List.set_cons_succ]; exact rfl) ?_
          refine wpAnyH_take (i := 8) (v := ?_) rfl (by kernel_rfl) (by kernel_rfl) (by kernel_rfl) (fun _ _ _ h => h) (Or.inl ⟨by rfl, ?_⟩) hHeld ?_
          rotate_left
          · (intro wq hSw; (try dsimp only at hSw); go_simp; try with_reducible rfl)
          refine act_eq (show Act.put _ (some 22) _ = _ from by simp only [Act.put, List.setIfInBounds_toArray, List.set_cons_zero, List.set_cons_succ]; exact rfl) ?_
          skip
          refine wpAnyH_take (i := 9) rfl (by kernel_rfl) (by kernel_rfl) (by kernel_rfl) (fun _ _ _ h => h) (Or.inr ⟨by rfl, rfl⟩) hHeld ?_
          refine act_eq (show Act.put _ (some 23) _ = _ from by simp only [Act.put, List.setIfInBounds_toArray, List.set_cons_zero, List.set_cons_succ]; exact rfl) ?_
          refine wpAnyH_take (i := 10) rfl (by kernel_rfl) (by kernel_rfl) (by kernel_rfl) (fun _ _ _ h => h) (Or.inr ⟨by rfl, rfl⟩) hHeld ?_
          refine act_eq (show Act.put _ (some 24) _ = _ from by simp only [Act.put, List.setIfInBounds_toArray, List.set_cons_zero, List.set_cons_succ]; exact rfl) ?_
          refine wpAnyH_take (i := 11) rfl (by kernel_rfl) (by kernel_rfl) (by kernel_rfl) (fun _ _ _ h => h) (Or.inr ⟨by rfl, rfl⟩) hHeld ?_
          refine act_eq (show Act.put _ (some 25) _ = _ from by simp only [Act.put, List.setIfInBounds_toArray, List.set_cons_zero, List.set_cons_succ]; exact rfl) ?_
          refine wpAnyH_take (i := 12) rfl (by kernel_rfl) (by kernel_rfl) (by kernel_rfl) (fun _ _ _ h => h) (Or.inr ⟨by rfl, rfl⟩) hHeld ?_
          refine act_eq (show Act.put _ (some 26) _ = _ from by simp only [Act.put, List.setIfInBounds_toArray, List.set_cons_zero, List.set_cons_succ]; exact rfl) ?_
          refine wpAnyH_take (i := 13) rfl (by kernel_rfl) (by kernel_rfl) (by kernel_rfl) (fun _ _ _ h => h) (Or.inr ⟨by rfl, rfl⟩) hHeld ?_
          refine act_eq (show Act.put _ (some 27) _ = _ from by simp only [Act.put, List.setIfInBounds_toArray, List.set_cons_zero, List.set_cons_succ]; exact rfl) ?_
          refine wpAnyH_take (i := 14) rfl (by kernel_rfl) (by kernel_rfl) (by kernel_rfl) (fun _ _ _ h => h) (Or.inr ⟨by rfl, rfl⟩) hHeld ?_
          refine act_eq (show Act.put _ (some 28) _ = _ from by simp only [Act.put, List.setIfInBounds_toArray, List.set_cons_zero, List.set_cons_succ]; exact rfl) ?_
          refine wpAnyH_take (i := 15) rfl (by kernel_rfl) (by kernel_rfl) (by kernel_rfl) (fun _ _ _ h => h) (Or.inr ⟨by rfl, rfl⟩) hHeld ?_
          refine act_eq (show Act.put _ (some 29) _ = _ from by simp only [Act.put, List.setIfInBounds_toArray, List.set_cons_zero, List.set_cons_succ]; exact rfl) ?_
          refine wpAnyH_take (i := 16) rfl (by kernel_rfl) (by kernel_rfl) (by kernel_rfl) (fun _ _ _ h => h) (Or.inr ⟨by rfl, rfl⟩) hHeld ?_
          refine act_eq (show Act.put _ (some 30) _ = _ from by simp only [Act.put, List.setIfInBounds_toArray, List.set_cons_zero, List.set_cons_succ]; exact rfl) ?_
          refine wpAnyH_take (i := 17) rfl (by kernel_rfl) (by kernel_rfl) (by kernel_rfl) (fun _ _ _ h => h) (Or.inr ⟨by rfl, rfl⟩) hHeld ?_
          refine act_eq (show Act.put _ (some 31) _ = _ from by simp only [Act.put, List.setIfInBounds_toArray, List.set_cons_zero, List.set_cons_succ]; exact rfl) ?_
          refine wpAnyH_take (i := 18) rfl (by kernel_rfl) (by kernel_rfl) (by kernel_rfl) (fun _ _ _ h => h) (Or.inr ⟨by rfl, rfl⟩) hHeld ?_
          refine act_eq (show Act.put _ (some 32) _ = _ from by simp only [Act.put, List.setIfInBounds_toArray, List.set_cons_zero, List.set_cons_succ]; exact rfl) ?_
          refine wpAnyH_take (i := 19) rfl (by kernel_rfl) (by kernel_rfl) (by kernel_rfl) (fun _ _ _ h => h) (Or.inr ⟨by rfl, rfl⟩) hHeld ?_
          refine act_eq (show Act.put _ (some 33) _ = _ from by simp only [Act.put, List.setIfInBounds_toArray, List.set_cons_zero, List.set_cons_succ]; exact rfl) ?_
          refine wpAnyH_take (i := 20) rfl (by kernel_rfl) (by kernel_rfl) (by kernel_rfl) (fun _ _ _ h => h) (Or.inr ⟨by rfl, rfl⟩) hHeld ?_
          refine act_eq (show Act.put _ (some 34) _ = _ from by simp only [Act.put, List.setIfInBounds_toArray, List.set_cons_zero, List.set_cons_succ]; exact rfl) ?_
          refine wpAnyH_take (i := 21) rfl (by kernel_rfl) (by kernel_rfl) (by kernel_rfl) (fun _ _ _ h => h) (Or.inr ⟨by rfl, rfl⟩) hHeld ?_
          refine act_eq (show Act.put _ (some 35) _ = _ from by simp only [Act.put, List.setIfInBounds_toArray, List.set_cons_zero, List.set_cons_succ]; exact rfl) ?_
          refine wpAnyH_take (i := 22) rfl (by kernel_rfl) (by kernel_rfl) (by kernel_rfl) (fun _ _ _ h => h) (Or.inr ⟨by rfl, rfl⟩) hHeld ?_
          refine act_eq (show Act.put _ (some 36) _ = _ from by simp only [Act.put, List.setIfInBounds_toArray, List.set_cons_zero, List.set_cons_succ]; exact rfl) ?_
          refine wpAnyH_take (i := 23) rfl (by kernel_rfl) (by kernel_rfl) (by kernel_rfl) (fun _ _ _ h => h) (Or.inr ⟨by rfl, rfl⟩) hHeld ?_
          refine act_eq (show Act.put _ (some 37) _ = _ from by simp only [Act.put, List.setIfInBounds_toArray, List.set_cons_zero, List.set_cons_succ]; exact rfl) ?_
          refine wpAnyH_take (i := 24) rfl (by kernel_rfl) (by kernel_rfl) (by kernel_rfl) (fun _ _ _ h => h) (Or.inr ⟨by rfl, rfl⟩) hHeld ?_
          refine act_eq (show Act.put _ (some 38) _ = _ from by simp only [Act.put, List.setIfInBounds_toArray, List.set_cons_zero, List.set_cons_succ]; exact rfl) ?_
          refine wpAnyH_take (i := 25) rfl (by kernel_rfl) (by kernel_rfl) (by kernel_rfl) (fun _ _ _ h => h) (Or.inr ⟨by rfl, rfl⟩) hHeld ?_
          refine act_eq (show Act.put _ (some 39) _ = _ from by simp only [Act.put, List.setIfInBounds_toArray, List.set_cons_zero, List.set_cons_succ]; exact rfl) ?_
          refine wpAnyH_take (i := 26) rfl (by kernel_rfl) (by kernel_rfl) (by kernel_rfl) (fun _ _ _ h => h) (Or.inr ⟨by rfl, rfl⟩) hHeld ?_
          refine act_eq (show Act.put _ (some 40) _ = _ from by simp only [Act.put, List.setIfInBounds_toArray, List.set_cons_zero, List.set_cons_succ]; exact rfl) ?_
          refine wpAnyH_take (i := 27) rfl (by kernel_rfl) (by kernel_rfl) (by kernel_rfl) (fun _ _ _ h => h) (Or.inr ⟨by rfl, rfl⟩) hHeld ?_
          refine act_eq (show Act.put _ (some 41) _ = _ from by simp only [Act.put, List.setIfInBounds_toArray, List.set_cons_zero, List.set_cons_succ]; exact rfl) ?_
          refine wpAnyH_take (i := 28) rfl (by kernel_rfl) (by kernel_rfl) (by kernel_rfl) (fun _ _ _ h => h) (Or.inr ⟨by rfl, rfl⟩) hHeld ?_
          refine act_eq (show Act.put _ (some 42) _ = _ from by simp only [Act.put, List.setIfInBounds_toArray, List.set_cons_zero, List.set_cons_succ]; exact rfl) ?_
          refine wpAnyH_take (i := 29) rfl (by kernel_rfl) (by kernel_rfl) (by kernel_rfl) (fun _ _ _ h => h) (Or.inr ⟨by rfl, rfl⟩) hHeld ?_
          refine act_eq (show Act.put _ (some 43) _ = _ from by simp only [Act.put, List.setIfInBounds_toArray, List.set_cons_zero, List.set_cons_succ]; exact rfl) ?_
          refine wpAnyH_take (i := 30) (v := ?_) rfl (by kernel_rfl) (by kernel_rfl) (by kernel_rfl) (fun _ _ _ h => h) (Or.inl ⟨by rfl, ?_⟩) hHeld ?_
          rotate_left
          · (intro wq hSw; (try dsimp only at hSw); go_simp; try with_reducible rfl)
          refine act_eq (show Act.put _ (some 44) _ = _ from by simp only [Act.put, List.setIfInBounds_toArray, List.set_cons_zero, List.set_cons_succ]; exact rfl) ?_
          refine wpAnyH_done (by kernel_rfl) ?_ _
          refine NoPanic.normal ?_
          have HB2 := Lib.hid (HE.out _ (HBr.out.trans (hB2.mono zr)))
          clear hB2 hB2' C1 hB q0 q1 e0 e1 e2 e3 e4
          go_wp2_with fail
          go_ret
          exact ⟨ret_bool (by rw [← HR.out, HN.out]), HB2.out⟩
      · have HN := Lib.hid (progOk_yes HS.out (show Hid (∀ j, j < p.funcs.length → decide (typeV p (nthF p.funcs j).params (nthF p.funcs j).body = (nthF p.funcs j).result) = true) from fun j hj => H.out j (by omega)))
        go_wp2_with fail
        go_ret
        exact ⟨ret_bool (by rw [← HR.out, HN.out]), HE.out _ HBr.out⟩
end Go.Proofs.YtihmkaodjpgikaaGreat
