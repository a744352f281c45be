/- Contracts of chapter 2: valid programs. -/
import Derived.Test.YtihmkaodjpgikaaGreatPv2
import Derived.Test.YtihmkaodjpgikaaGreatT3r
namespace Go.Proofs.YtihmkaodjpgikaaGreat
open Go.RowKit Go.BigFrame
theorem progOk_no {p : Pg} (h : sigsOk p = false ∨ ∃ k, k < p.funcs.length ∧ decide (typeV p (nthF p.funcs k).params (nthF p.funcs k).body = (nthF p.funcs k).result) = false) : progOk p = false := by
  unfold progOk
  rcases h with h | ⟨k, hk, h⟩
  · rw [h]; rfl
  · rw [upTo_stop hk h, Bool.and_false]
theorem progOk_yes {p : Pg} (h1 : sigsOk p = true) (h : Hid (∀ j, j < p.funcs.length → decide (typeV p (nthF p.funcs j).params (nthF p.funcs j).body = (nthF p.funcs j).result) = true)) : progOk p = true := by
  unfold progOk
  rw [h1, upTo_done h (Nat.lt_irrefl _)]; rfl
theorem ex_eta (e : Ex) : Ex.node e.op e.num e.kids = e := by cases e; rfl
set_option maxHeartbeats 3200000 in
theorem validProgram_any {w : World} {p : Pg} {pv : Value} (hp : Pgm w 0 w.heap.size pv p) (hr : progR p) :
    Calls Tryz.prog 20 #[pv] w fun e w' => e = .returned (.bool (progOk p)) ∧ Below w.heap.size w w' := by
  obtain ⟨dd, ff, rfl, hd, hf⟩ := hp
  have hp : Pgm w 0 w.heap.size (.agg #[dd, ff]) p := ⟨dd, ff, rfl, hd, hf⟩
  obtain ⟨B1, b1, rfl, l1, m1⟩ := hd.open_
  obtain ⟨B2, b2, rfl, l2, m2⟩ := hf.open_
  obtain ⟨W0, hW0⟩ : ∃ W0, W0 = w.alloc (.cells #[.slice B1 p.decls.length b1, .slice B2 p.funcs.length b2] 32) := ⟨_, rfl⟩
  have hB0 : Below w.heap.size w W0 := by rw [hW0]; exact (Below.refl _ w).alloc (Nat.le_refl _) _
  have hz0 : W0.heap.size = w.heap.size + 1 := by rw [hW0]; simp
  have x0 : W0.heap[w.heap.size]? = some (.cells #[.slice B1 p.decls.length b1, .slice B2 p.funcs.length b2] 32 (0, 0)) := by rw [hW0]; exact alloc_last _ _ _ rfl
  have HX := Lib.hid fun W (hB : Below W0.heap.size W0 W) => cells2 ((hB.block w.heap.size (by omega)).trans x0)
  have HE := Lib.hid fun W (hB : Below W0.heap.size W0 W) => hB0.trans (hB.mono (show w.heap.size ≤ W0.heap.size by omega))
  have HPG := Lib.hid fun W (hB : Below W0.heap.size W0 W) => (hp.keep (Same.of_below (HE.out W hB) (Nat.le_refl _))).wide (Nat.le_refl _) (HE.out W hB).size
  have HF := Lib.hid fun W (hB : Below W0.heap.size W0 W) => (HPG.out W hB).two.2
  have HZ := Lib.hid hz0
  have CS := Lib.hid (validSigs_any _ _ p _ W0 (HPG.out W0 (Below.refl _ _)) (Nat.le_refl _))
  clear hp hd hf x0 hz0
  obtain ⟨q0, q1⟩ := HX.out W0 (Below.refl _ _)
  rcases hs : sigsOk p with _ | _
  · rw [progOk_no (.inl hs)]
    rw [hs] at CS
    clear hs
    go_enter Tryz.func20, Tryz.ntmps20
    go_wp2_with fail
    rw [← hW0]
    clear hW0
    refine CS.out.mono ?_
    rintro e w1 ⟨rfl, hB1⟩
    have HB1 := Lib.hid (HE.out _ hB1)
    clear hB1
    go_wp2_with fail
    go_ret
    exact ⟨rfl, HB1.out⟩
  · have hto := sigs_types hs
    have hfl := (sigs_len hs).2
    rw [hs] at CS
    have HS := Lib.hid hs
    clear hs
    obtain ⟨R, hR⟩ : ∃ R, progOk p = R := ⟨_, rfl⟩
    rw [hR]
    have HR := Lib.hid hR
    clear hR
    go_enter Tryz.func20, Tryz.ntmps20
    go_wp2_with fail
    rw [← hW0]
    clear hW0
    refine CS.out.mono ?_
    rintro e w1 ⟨rfl, hB1⟩
    have HB1 := Lib.hid hB1
    obtain ⟨Q0, Q1⟩ := HX.out w1 hB1
    clear hB1 CS q0 q1
    go_wp2_with fail
    go_loopw [11] (fun i wr => ∃ k : Nat, k ≤ p.funcs.length ∧ i = .int .i64 k ∧ Hid (∀ j, j < k → decide (typeV p (nthF p.funcs j).params (nthF p.funcs j).body = (nthF p.funcs j).result) = true) ∧ Below W0.heap.size W0 wr) (fun i _ => p.funcs.length - (intOf i).toNat)
    case atStart => exact ⟨0, by omega, rfl, before_zero, HB1.out⟩
    case round =>
      obtain ⟨k, hk, rfl, H, hB⟩ := hrel
      have HBr := Lib.hid hB
      have zr := hB.size
      clear Q0 Q1
      obtain ⟨q0, q1⟩ := HX.out wr hB
      by_cases hlt : k < p.funcs.length
      · obtain ⟨b, o, A1, c1, A2, c2, rfl, _, hb, e0, e1, e2, e3, e4, hI, hX⟩ := (HF.out wr hB).at_ hlt
        have hsig := sigs_at HS.out hlt
        have hp3 := sig_three hsig
        obtain ⟨O, hO⟩ : ∃ O, O = wr.alloc (.cells #[.slice A1 (nthF p.funcs k).params.length c1, .int .i64 (nthF p.funcs k).result, .int .i64 (nthF p.funcs k).body.op, .int .i64 (nthF p.funcs k).body.num, .slice A2 (nthF p.funcs k).body.kids.length c2] 66) := ⟨_, rfl⟩
        have hBo : Below wr.heap.size wr O := by rw [hO]; exact (Below.refl _ wr).alloc (Nat.le_refl _) _
        have hzo : O.heap.size = wr.heap.size + 1 := by rw [hO]; simp
        have hBa := HBr.out.trans (hBo.mono zr)
        have hfb : O.heap[wr.heap.size]? = some (.cells #[.slice A1 (nthF p.funcs k).params.length c1, .int .i64 (nthF p.funcs k).result, .int .i64 (nthF p.funcs k).body.op, .int .i64 (nthF p.funcs k).body.num, .slice A2 (nthF p.funcs k).body.kids.length c2] 66 (0, 0)) := by rw [hO]; exact alloc_last _ _ _ rfl
        obtain ⟨f0, f1, f2, f3, f4⟩ := cells5 hfb
        obtain ⟨Q0, Q1⟩ := HX.out O hBa
        have hrk := (rng_eq _).1 (hr k hlt)
        obtain ⟨tt, htt⟩ : ∃ t, typeV p (nthF p.funcs k).params (nthF p.funcs k).body = t := ⟨_, rfl⟩
        have C0 := typeTop_any (w := O.drew) (p := p) (pv := .agg #[.slice B1 p.decls.length b1, .slice (some ⟨b, o, none⟩) p.funcs.length b2]) (vv := .slice A1 (nthF p.funcs k).params.length c1) (u := .slice A2 (nthF p.funcs k).body.kids.length c2) (vars := (nthF p.funcs k).params) (ks := (nthF p.funcs k).body.kids) (nthF p.funcs k).body.op (nthF p.funcs k).body.num ⟨HPG.out _ hBa.drew, ((hI.keep (Same.of_below hBo (by omega))).wide (Nat.zero_le _) hBo.size).keep (same_drew _ _ _)⟩ (((hX.keep (Same.of_below hBo (by omega))).wide (Nat.zero_le _) hBo.size).keep (same_drew _ _ _)) hrk.1 hrk.2
        rw [ex_eta, htt] at C0
        have C0 := Lib.hid C0
        have HBa := Lib.hid hBa
        have k0 : (0 : Int) ≤ (k : Int) := by omega
        have k1 : (k : Int) < (p.funcs.length : Int) := by omega
        have g0 : w.heap.size < O.heap.size := by have := HZ.out; omega
        have g1 : wr.heap.size < O.heap.size := by omega
        clear hI hX hBo hBa hfb hrk hsig hp3 hzo
        by_cases ce : tt = (nthF p.funcs k).result
        · have cf : (tt != (nthF p.funcs k).result) = false := by rw [ce]; simp
          have HN := before_step H (show decide (typeV p (nthF p.funcs k).params (nthF p.funcs k).body = (nthF p.funcs k).result) = true by rw [htt, ce]; simp)
          clear ce htt
          go_wp2_with fail
          rw [← hO]
          clear hO
          go_region_held3 (fun w' => w'.cell? ⟨w.heap.size, 0, none⟩ = some (.slice B1 p.decls.length b1) ∧ w'.cell? ⟨w.heap.size, 1, none⟩ = some (.slice (some ⟨b, o, none⟩) p.funcs.length b2) ∧ w'.cell? ⟨wr.heap.size, 0, none⟩ = some (.slice A1 (nthF p.funcs k).params.length c1) ∧ w'.cell? ⟨wr.heap.size, 1, none⟩ = some (.int .i64 (nthF p.funcs k).result) ∧ w'.cell? ⟨wr.heap.size, 2, none⟩ = some (.int .i64 (nthF p.funcs k).body.op) ∧ w'.cell? ⟨wr.heap.size, 3, none⟩ = some (.int .i64 (nthF p.funcs k).body.num) ∧ w'.cell? ⟨wr.heap.size, 4, none⟩ = some (.slice A2 (nthF p.funcs k).body.kids.length c2))
            (first | go_keep | (exact ⟨(hB2.cell (by first | assumption | (simp; assumption))).trans (by first | assumption | (simp; assumption)), (hB2.cell (by first | assumption | (simp; assumption))).trans (by first | assumption | (simp; assumption)), (hB2.cell (by first | assumption | (simp; assumption))).trans (by first | assumption | (simp; assumption)), (hB2.cell (by first | assumption | (simp; assumption))).trans (by first | assumption | (simp; assumption)), (hB2.cell (by first | assumption | (simp; assumption))).trans (by first | assumption | (simp; assumption)), (hB2.cell (by first | assumption | (simp; assumption))).trans (by first | assumption | (simp; assumption)), (hB2.cell (by first | assumption | (simp; assumption))).trans (by first | assumption | (simp; assumption))⟩))
            (first | (go_at_call 38; refine C0.out.mono ?_; rintro e w2 ⟨rfl, hB2⟩))
          have HB2 := Lib.hid (HBa.out.trans (((Below.refl O.heap.size O).drew.trans (hB2.mono (Nat.le_refl _))).mono HBa.out.size))
          clear hB2 Q0 Q1 f0 f1 f2 f3 f4 C0 hB q0 q1 e0 e1 e2 e3 e4
          go_wp2_with fail
          go_roundw
          case rel => exact ⟨k + 1, by omega, by go_num, HN, HB2.out⟩
          case measure => simp [intOf]; omega
        · have cf : (tt != (nthF p.funcs k).result) = true := by rw [bne_iff_ne]; exact ce
          have HN := Lib.hid (progOk_no (.inr ⟨k, hlt, by rw [htt]; exact decide_eq_false ce⟩))
          clear ce htt
          go_wp2_with fail
          rw [← hO]
          clear hO
          go_region_held3 (fun w' => w'.cell? ⟨w.heap.size, 0, none⟩ = some (.slice B1 p.decls.length b1) ∧ w'.cell? ⟨w.heap.size, 1, none⟩ = some (.slice (some ⟨b, o, none⟩) p.funcs.length b2) ∧ w'.cell? ⟨wr.heap.size, 0, none⟩ = some (.slice A1 (nthF p.funcs k).params.length c1) ∧ w'.cell? ⟨wr.heap.size, 1, none⟩ = some (.int .i64 (nthF p.funcs k).result) ∧ w'.cell? ⟨wr.heap.size, 2, none⟩ = some (.int .i64 (nthF p.funcs k).body.op) ∧ w'.cell? ⟨wr.heap.size, 3, none⟩ = some (.int .i64 (nthF p.funcs k).body.num) ∧ w'.cell? ⟨wr.heap.size, 4, none⟩ = some (.slice A2 (nthF p.funcs k).body.kids.length c2))
            (first | go_keep | (exact ⟨(hB2.cell (by first | assumption | (simp; assumption))).trans (by first | assumption | (simp; assumption)), (hB2.cell (by first | assumption | (simp; assumption))).trans (by first | assumption | (simp; assumption)), (hB2.cell (by first | assumption | (simp; assumption))).trans (by first | assumption | (simp; assumption)), (hB2.cell (by first | assumption | (simp; assumption))).trans (by first | assumption | (simp; assumption)), (hB2.cell (by first | assumption | (simp; assumption))).trans (by first | assumption | (simp; assumption)), (hB2.cell (by first | assumption | (simp; assumption))).trans (by first | assumption | (simp; assumption)), (hB2.cell (by first | assumption | (simp; assumption))).trans (by first | assumption | (simp; assumption))⟩))
            (first | (go_at_call 38; refine C0.out.mono ?_; rintro e w2 ⟨rfl, hB2⟩))
          have HB2 := Lib.hid (HE.out _ (HBa.out.trans (((Below.refl O.heap.size O).drew.trans (hB2.mono (Nat.le_refl _))).mono HBa.out.size)))
          clear hB2 Q0 Q1 f0 f1 f2 f3 f4 C0 hB q0 q1 e0 e1 e2 e3 e4
          go_wp2_with fail
          go_ret
          exact ⟨ret_bool (by rw [← HR.out, HN.out]), HB2.out⟩
      · have HN := Lib.hid (progOk_yes HS.out (show Hid (∀ j, j < p.funcs.length → decide (typeV p (nthF p.funcs j).params (nthF p.funcs j).body = (nthF p.funcs j).result) = true) from fun j hj => H.out j (by omega)))
        go_wp2_with fail
        go_ret
        exact ⟨ret_bool (by rw [← HR.out, HN.out]), HE.out _ HBr.out⟩
end Go.Proofs.YtihmkaodjpgikaaGreat
