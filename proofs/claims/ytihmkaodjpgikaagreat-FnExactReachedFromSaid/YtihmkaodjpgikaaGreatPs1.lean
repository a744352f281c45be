/- Contracts of chapter 2: valid signatures. -/
import Derived.Test.YtihmkaodjpgikaaGreatGe
import Derived.Test.YtihmkaodjpgikaaGreatGc
import Derived.Test.YtihmkaodjpgikaaGreatG
namespace Go.Proofs.YtihmkaodjpgikaaGreat
open Go.RowKit Go.BigFrame
theorem areTypes_is (b : Bool) (A : Option Addr) (n c L U : Nat) (xs : List Int) (v : Value) (w : World) (hn : n ≤ maxLen) (hv : Ints w L U v xs) (h : xs.all (isTy n) = b) :
    Calls Tryz.prog 63 #[.slice A n c, v] w fun e w' => e = .returned (.bool b) ∧ w = w' := by
  subst h; exact areTypes_any A n c L U xs v w hn hv
theorem allTypes_is (b : Bool) (A : Option Addr) (n c L U : Nat) (xs : List Int) (v : Value) (w : World) (hv : Ints w L U v xs) (h : xs.all (isTy n) = b) :
    Calls Tryz.prog 48 #[.slice A n c, v] w fun e w' => e = .returned (.bool b) ∧ w = w' := by
  subst h; exact allTypes_any A n c L U xs v w hv
theorem inRange_is (r : Bool) (a b c : Int) (w : World) (h : (decide (b ≤ a) && decide (a ≤ c)) = r) :
    Calls Tryz.prog 16 #[.int .i64 a, .int .i64 b, .int .i64 c] w fun e w' => e = .returned (.bool r) ∧ w = w' := by
  subst h; exact inRange_any a b c w
theorem validSig_is (b : Bool) (A : Option Addr) (n c L U : Nat) (xs : List Int) (v : Value) (r : Int) (w : World) (hn : n ≤ maxLen) (hv : Ints w L U v xs) (hb : (decide (xs.length ≤ 3) && (xs.all (isTy n) && isTy n r)) = b) :
    Calls Tryz.prog 62 #[.slice A n c, v, .int .i64 r] w fun e w' => e = .returned (.bool b) ∧ w' = w := by
  obtain ⟨B, d, rfl, hl, hd⟩ := hv.open_
  by_cases h3 : (xs.length : Int) ≤ 3
  · have e3 : decide (xs.length ≤ 3) = true := decide_eq_true (by omega)
    rw [e3, Bool.true_and] at hb
    rcases ha : xs.all (isTy n) with _ | _
    · rw [ha, Bool.false_and] at hb
      subst hb
      go_enter Tryz.func62, Tryz.ntmps62
      go_wp2_with fail
      refine (areTypes_is _ _ _ _ _ _ _ _ _ hn hv ha).mono ?_
      rintro e w1 ⟨rfl, rfl⟩
      go_wp2_with fail
      go_ret
      exact ⟨rfl, rfl⟩
    · rw [ha, Bool.true_and] at hb
      go_enter Tryz.func62, Tryz.ntmps62
      go_wp2_with fail
      refine (areTypes_is _ _ _ _ _ _ _ _ _ hn hv ha).mono ?_
      rintro e w1 ⟨rfl, rfl⟩
      go_wp2_with fail
      refine (isType_is _ _ _ _ _ _ hn hb).mono ?_
      rintro e w1 ⟨rfl, rfl⟩
      go_wp2_with fail
      go_ret
      exact ⟨rfl, rfl⟩
  · have e3 : decide (xs.length ≤ 3) = false := decide_eq_false (by omega)
    rw [e3, Bool.false_and] at hb
    subst hb
    go_enter Tryz.func62, Tryz.ntmps62
    go_wp2_with fail
    go_ret
    exact ⟨rfl, rfl⟩
theorem sigsOk_no {p : Pg} (h : typesOk p.decls = false ∨ p.funcs.length < 1 ∨ 4 < p.funcs.length ∨ ∃ k, k < p.funcs.length ∧ sigOk p.decls.length (nthF p.funcs k) = false) : sigsOk p = false := by
  unfold sigsOk
  rcases h with h | h | h | ⟨k, hk, h⟩
  · rw [h]; rfl
  · rw [decide_eq_false (show ¬ 1 ≤ p.funcs.length by omega)]; simp
  · rw [decide_eq_false (show ¬ p.funcs.length ≤ 4 by omega)]; simp
  · rw [upTo_stop hk h]; simp
theorem sigsOk_end {p : Pg} (h1 : typesOk p.decls = true) (h2 : 1 ≤ p.funcs.length) (h3 : p.funcs.length ≤ 4) (h4 : Hid (∀ j, j < p.funcs.length → sigOk p.decls.length (nthF p.funcs j) = true)) :
    sigsOk p = (decide ((nthF p.funcs 0).params.length = 0) && decide ((nthF p.funcs 0).result = 0)) := by
  unfold sigsOk
  rw [h1, decide_eq_true h2, decide_eq_true h3, upTo_done h4 (Nat.lt_irrefl _)]
  simp
set_option maxHeartbeats 1600000 in
theorem validSigs_any (L U : Nat) (p : Pg) (v : Value) (w : World) (hv : Pgm w L U v p) (hU : U ≤ w.heap.size) :
    Calls Tryz.prog 37 #[v] w fun e w' => e = .returned (.bool (sigsOk p)) ∧ Below w.heap.size w w' := by
  obtain ⟨dd, ff, rfl, hd, hf⟩ := hv
  obtain ⟨B1, b1, rfl, l1, m1⟩ := hd.open_
  obtain ⟨B2, b2, rfl, l2, m2⟩ := hf.open_
  obtain ⟨W0, hW0⟩ : ∃ W0, W0 = w.alloc (.cells #[.slice B1 p.decls.length b1, .slice B2 p.funcs.length b2] 32) := ⟨_, rfl⟩
  have hB0 : Below w.heap.size w W0 := by rw [hW0]; exact (Below.refl _ w).alloc (Nat.le_refl _) _
  have hz0 : W0.heap.size = w.heap.size + 1 := by rw [hW0]; simp
  have hbox : W0.heap[w.heap.size]? = some (.cells #[.slice B1 p.decls.length b1, .slice B2 p.funcs.length b2] 32 (0, 0)) := by rw [hW0]; exact alloc_last _ _ _ rfl
  have HX := Lib.hid fun W (hB : Below W0.heap.size W0 W) => cells2 ((hB.block w.heap.size (by omega)).trans hbox)
  have HD := Lib.hid fun W (hB : Below W0.heap.size W0 W) => hd.keep (Same.of_below (hB0.trans (hB.mono (show w.heap.size ≤ W0.heap.size by omega))) hU)
  have HF := Lib.hid fun W (hB : Below W0.heap.size W0 W) => hf.keep (Same.of_below (hB0.trans (hB.mono (show w.heap.size ≤ W0.heap.size by omega))) hU)
  have HE := Lib.hid fun W (hB : Below W0.heap.size W0 W) => hB0.trans (hB.mono (show w.heap.size ≤ W0.heap.size by omega))
  have hU0 : U ≤ W0.heap.size := by omega
  obtain ⟨q0, q1⟩ := HX.out W0 (Below.refl _ _)
  clear hd hf hbox
  rcases hT : typesOk p.decls with _ | _
  · have e0 := sigsOk_no (.inl hT)
    rw [e0]
    clear e0
    go_enter Tryz.func37, Tryz.ntmps37
    go_wp2_with fail
    rw [← hW0]
    clear hW0
    refine (validTypes_is _ _ _ _ _ W0 (HD.out W0 (Below.refl _ _)) hU0 hT).mono ?_
    rintro e w1 ⟨rfl, hB1⟩
    go_wp2_with fail
    go_ret
    exact ⟨rfl, HE.out _ hB1⟩
  · by_cases h1 : (p.funcs.length : Int) < 1
    · have e0 := sigsOk_no (p := p) (.inr (.inl (by omega)))
      rw [e0]
      clear e0
      go_enter Tryz.func37, Tryz.ntmps37
      go_wp2_with fail
      rw [← hW0]
      clear hW0
      refine (validTypes_is _ _ _ _ _ W0 (HD.out W0 (Below.refl _ _)) hU0 hT).mono ?_
      rintro e w1 ⟨rfl, hB1⟩
      obtain ⟨q0, q1⟩ := HX.out w1 hB1
      go_wp2_with fail
      go_ret
      exact ⟨rfl, HE.out _ hB1⟩
    · by_cases h4 : 4 < (p.funcs.length : Int)
      · have e0 := sigsOk_no (p := p) (.inr (.inr (.inl (by omega))))
        rw [e0]
        clear e0
        go_enter Tryz.func37, Tryz.ntmps37
        go_wp2_with fail
        rw [← hW0]
        clear hW0
        refine (validTypes_is _ _ _ _ _ W0 (HD.out W0 (Below.refl _ _)) hU0 hT).mono ?_
        rintro e w1 ⟨rfl, hB1⟩
        obtain ⟨q0, q1⟩ := HX.out w1 hB1
        go_wp2_with fail
        go_ret
        exact ⟨rfl, HE.out _ hB1⟩
      · go_enter Tryz.func37, Tryz.ntmps37
        go_wp2_with fail
        rw [← hW0]
        clear hW0
        refine (validTypes_is _ _ _ _ _ W0 (HD.out W0 (Below.refl _ _)) hU0 hT).mono ?_
        rintro e w1 ⟨rfl, hB1⟩
        clear q0 q1
        obtain ⟨q0, q1⟩ := HX.out w1 hB1
        have HB1 := Lib.hid hB1
        have HT := Lib.hid hT
        clear hB1 hT
        go_wp2_with fail
        go_loopw [24] (fun i wr => ∃ k : Nat, k ≤ p.funcs.length ∧ i = .int .i64 k ∧ Hid (∀ j, j < k → sigOk p.decls.length (nthF p.funcs j) = true) ∧ Below W0.heap.size W0 wr) (fun i _ => p.funcs.length - (intOf i).toNat)
        case atStart => exact ⟨0, by omega, rfl, before_zero, HB1.out⟩
        case round =>
          obtain ⟨k, hk, rfl, H, hB⟩ := hrel
          have hz := hB.size
          clear q0 q1
          obtain ⟨q0, q1⟩ := HX.out wr hB
          by_cases hlt : k < p.funcs.length
          · obtain ⟨b, o, A1, c1, A2, c2, rfl, _, hb, e0, e1, e2, e3, e4, hI, _⟩ := (HF.out wr hB).at_ hlt
            obtain ⟨r, hr⟩ : ∃ r, sigOk p.decls.length (nthF p.funcs k) = r := ⟨_, rfl⟩
            have hBa := hB.alloc hz (.cells #[.slice A1 (nthF p.funcs k).params.length c1, .int .i64 (nthF p.funcs k).result, .int .i64 (nthF p.funcs k).body.op, .int .i64 (nthF p.funcs k).body.num, .slice A2 (nthF p.funcs k).body.kids.length c2] 66)
            have CK := Lib.hid (validSig_is r B1 p.decls.length b1 L U _ _ (nthF p.funcs k).result _ (show p.decls.length ≤ maxLen by unfold maxLen; omega) (hI.keep (Same.of_below ((Below.refl wr.heap.size wr).alloc (Nat.le_refl _) (.cells #[.slice A1 (nthF p.funcs k).params.length c1, .int .i64 (nthF p.funcs k).result, .int .i64 (nthF p.funcs k).body.op, .int .i64 (nthF p.funcs k).body.num, .slice A2 (nthF p.funcs k).body.kids.length c2] 66)) (by omega))) hr)
            have HBa := Lib.hid hBa
            have q0' : (wr.alloc (.cells #[.slice A1 (nthF p.funcs k).params.length c1, .int .i64 (nthF p.funcs k).result, .int .i64 (nthF p.funcs k).body.op, .int .i64 (nthF p.funcs k).body.num, .slice A2 (nthF p.funcs k).body.kids.length c2] 66)).cell? ⟨w.heap.size, 0, none⟩ = some (.slice B1 p.decls.length b1) := (HX.out _ hBa).1
            have HR := Lib.hid hr
            clear hBa hB hI hr
            rcases r with _ | _
            · go_wp2_with fail
              refine CK.out.mono ?_
              rintro e w2 ⟨rfl, rfl⟩
              go_wp2_with fail
              go_ret
              exact ⟨ret_bool (sigsOk_no (.inr (.inr (.inr ⟨k, hlt, HR.out⟩)))).symm, HE.out _ HBa.out⟩
            · go_wp2_with fail
              refine CK.out.mono ?_
              rintro e w2 ⟨rfl, rfl⟩
              go_wp2_with fail
              go_roundw
              case rel => exact ⟨k + 1, by omega, by go_num, before_step H HR.out, HBa.out⟩
              case measure => simp [intOf]; omega
          · obtain rfl : k = p.funcs.length := by omega
            have hlt0 : 0 < p.funcs.length := by omega
            obtain ⟨b, o, A1, c1, A2, c2, rfl, _, hb, e0, e1, e2, e3, e4, hI, _⟩ := (HF.out wr hB).at_ hlt0
            simp only [Nat.zero_mul, Nat.add_zero] at e0 e1
            have HS := Lib.hid (sigsOk_end HT.out (by omega) (by omega) H)
            by_cases h0 : (nthF p.funcs 0).params.length = 0
            · have HS := Lib.hid (show sigsOk p = decide ((nthF p.funcs 0).result = 0) by rw [HS.out, decide_eq_true h0, Bool.true_and])
              rw [h0] at e0
              clear h0
              by_cases hr : (nthF p.funcs 0).result = 0
              · have HS := Lib.hid (show sigsOk p = true by rw [HS.out, decide_eq_true hr])
                rw [hr] at e1
                clear hr
                go_wp2_with fail
                go_ret
                exact ⟨ret_bool (by rw [HS.out]), HE.out _ hB⟩
              · have HS := Lib.hid (show sigsOk p = false by rw [HS.out, decide_eq_false hr])
                have hr2 : ((nthF p.funcs 0).result == 0) = false := by simp [hr]
                go_wp2_with fail
                go_ret
                exact ⟨ret_bool (by rw [HS.out]), HE.out _ hB⟩
            · have HS := Lib.hid (show sigsOk p = false by rw [HS.out, decide_eq_false h0, Bool.false_and])
              have h02 : ¬ ((nthF p.funcs 0).params.length : Int) = 0 := by omega
              go_wp2_with fail
              go_ret
              exact ⟨ret_bool (by rw [HS.out]), HE.out _ hB⟩
end Go.Proofs.YtihmkaodjpgikaaGreat
