/- Contracts of chapter 2: small words of the typing of expressions. -/
import Derived.Test.YtihmkaodjpgikaaGreatPs1
import Derived.Test.YtihmkaodjpgikaaGreatGc
namespace Go.Proofs.YtihmkaodjpgikaaGreat
open Go.RowKit Go.BigFrame
theorem drewN_two (w : World) (m k : Nat) : (w.drewN m).drewN k = w.drewN (m + k) := by simp [World.drewN, Nat.add_assoc]
theorem take_one {xs : List Int} {k : Nat} (h : k < xs.length) : xs.take (k + 1) = xs.take k ++ [xs[k]] := List.take_succ_eq_append_getElem h
set_option maxHeartbeats 400000 in
theorem sameInts_q (r : Bool) (L U L' U' : Nat) (a b : List Int) (v v' : Value) (w : World) (n : Nat) (hv : Ints w L U v a) (hv' : Ints w L' U' v' b) (hr : decide (a = b) = r) :
    Calls Tryz.prog 94 #[v, v'] (w.drewN n) fun e w'' => e = .returned (.bool r) ∧ ∃ m, w'' = w.drewN m := by
  obtain ⟨B, d, rfl, hl, hd⟩ := hv.open_
  obtain ⟨B', d', rfl, hl', hd'⟩ := hv'.open_
  subst hr
  by_cases hle : a.length = b.length
  · have HLE : (b.length : Int) = (a.length : Int) := by omega
    go_enter Tryz.func94, Tryz.ntmps94
    go_wp2_with fail
    go_loopw [13] (fun i wr => ∃ k m : Nat, k ≤ a.length ∧ i = .int .i64 k ∧ Hid (a.take k = b.take k) ∧ wr = w.drewN m) (fun i _ => a.length - (intOf i).toNat)
    case atStart => exact ⟨0, n, by omega, rfl, by show _ = _; simp, rfl⟩
    case round =>
      obtain ⟨k, m, hk, rfl, H, rfl⟩ := hrel
      by_cases hlt : k < a.length
      · have hlt' : k < b.length := by omega
        obtain ⟨g, o, rfl, _, _, hc⟩ := hv.at_ hlt
        obtain ⟨g', o', rfl, _, _, hc'⟩ := hv'.at_ hlt'
        have k0 : (0 : Int) ≤ (k : Int) := by omega
        have k1 : (k : Int) < (a.length : Int) := by omega
        have k2 : (k : Int) < (b.length : Int) := by omega
        by_cases he : a[k] = b[k]
        · have HN : Hid (a.take (k + 1) = b.take (k + 1)) := by show _ = _; rw [take_one hlt, take_one hlt', H.out, he]
          rw [he] at hc
          clear he
          go_wp2_with fail
          go_quiet (fail)
          go_wp2_with fail
          go_roundw
          case rel => exact ⟨k + 1, _, by omega, by go_num, HN, rfl⟩
          case measure => simp [intOf]; omega
        · have heb : (a[k] == b[k]) = false := by simp [he]
          have HN : Hid (¬ a = b) := by
            intro e
            subst e
            exact he rfl
          clear he
          go_wp2_with fail
          go_quiet (fail)
          go_wp2_with fail
          go_ret
          exact ⟨ret_bool (decide_eq_false HN.out).symm, _, drewN_two _ _ _⟩
      · have HN : Hid (a = b) := by
          have := H.out
          rw [List.take_of_length_le (by omega), List.take_of_length_le (by omega)] at this
          exact this
        go_wp2_with fail
        go_ret
        exact ⟨ret_bool (decide_eq_true HN.out).symm, _, rfl⟩
  · have HN : Hid (¬ a = b) := by intro e; exact hle (by rw [e])
    have h2 : ¬ (a.length : Int) = (b.length : Int) := by omega
    go_enter Tryz.func94, Tryz.ntmps94
    go_wp2_with fail
    go_ret
    exact ⟨ret_bool (decide_eq_false HN.out).symm, _, rfl⟩
theorem drewN_zero (w : World) : w.drewN 0 = w := rfl
theorem sameInts_b (r : Bool) (L U L' U' : Nat) (a b : List Int) (v v' : Value) (w : World) (hv : Ints w L U v a) (hv' : Ints w L' U' v' b) (hr : decide (a = b) = r) :
    Calls Tryz.prog 94 #[v, v'] w fun e w'' => e = .returned (.bool r) ∧ Below w.heap.size w w'' :=
  (sameInts_q r L U L' U' a b v v' w 0 hv hv' hr).mono fun _ _ ⟨h1, m, h2⟩ => ⟨h1, by rw [h2]; exact below_drewN (Below.refl _ _) _⟩
theorem typeWhen_is (b : Bool) (t : Int) (w : World) : Calls Tryz.prog 93 #[.bool b, .int .i64 t] w fun e w' => e = .returned (.int .i64 (cond b t (-1))) ∧ w = w' := by
  rcases b with _ | _
  · go_enter Tryz.func93, Tryz.ntmps93
    go_wp2_with fail
    go_ret
    exact ⟨rfl, rfl⟩
  · go_enter Tryz.func93, Tryz.ntmps93
    go_wp2_with fail
    go_ret
    exact ⟨rfl, rfl⟩
theorem isAr_cases (ds : List Dec) (t : Int) : (¬ 0 < t ∧ isAr ds t = false) ∨ (0 < t ∧ ¬ t ≤ ds.length ∧ isAr ds t = false) ∨ ∃ k : Nat, t = (k : Int) + 1 ∧ k < ds.length ∧ isAr ds t = decide ((nthD ds k).cons.length = 0) := by
  unfold isAr
  by_cases h : 0 < t
  · by_cases h2 : t ≤ ds.length
    · refine .inr (.inr ⟨(t - 1).toNat, by omega, by omega, ?_⟩)
      rw [decide_eq_true (show (1 : Int) ≤ t by omega), decide_eq_true h2, Bool.true_and, Bool.true_and]
    · exact .inr (.inl ⟨h, h2, by rw [decide_eq_false h2]; simp⟩)
  · exact .inl ⟨h, by rw [decide_eq_false (show ¬ (1 : Int) ≤ t by omega)]; rfl⟩
theorem isArrow_is (r : Bool) (t : Int) (L U : Nat) (ds : List Dec) (v : Value) (w : World) (hv : Decs w L U v ds) (hr : isAr ds t = r) :
    Calls Tryz.prog 102 #[v, .int .i64 t] w fun e w' => e = .returned (.bool r) ∧ w = w' := by
  subst hr
  obtain ⟨B, d, rfl, hl, hd⟩ := hv.open_
  rcases isAr_cases ds t with ⟨h, e⟩ | ⟨h, h2, e⟩ | ⟨k, rfl, hk, e⟩
  · rw [e]
    go_enter Tryz.func102, Tryz.ntmps102
    go_wp2_with fail
    go_ret
    exact ⟨rfl, rfl⟩
  · rw [e]
    have HT : Hid (isTy ds.length t = false) := by show _ = _; simp [isTy, h2]
    clear e
    go_enter Tryz.func102, Tryz.ntmps102
    go_wp2_with fail
    refine (isType_is _ _ _ _ _ w (show ds.length ≤ maxLen by unfold maxLen; omega) HT.out).mono ?_
    rintro e w1 ⟨rfl, rfl⟩
    go_wp2_with fail
    go_ret
    exact ⟨rfl, rfl⟩
  · rw [e]
    obtain ⟨b, o, A', c', rfl, _, _, hc0, hc1, hc2, hu⟩ := hv.at_ hk
    have HT : Hid (isTy ds.length ((k : Int) + 1) = true) := by show _ = _; simp only [isTy, Bool.and_eq_true, decide_eq_true_eq]; omega
    clear hu hv e
    by_cases h0 : (nthD ds k).cons.length = 0
    · rw [decide_eq_true h0]
      rw [h0] at hc2
      clear h0
      go_enter Tryz.func102, Tryz.ntmps102
      go_wp2_with fail
      refine (isType_is _ _ _ _ _ w (show ds.length ≤ maxLen by unfold maxLen; omega) HT.out).mono ?_
      rintro e w1 ⟨rfl, rfl⟩
      go_wp2_with fail
      go_ret
      exact ⟨rfl, rfl⟩
    · rw [decide_eq_false h0]
      have h1 : (((nthD ds k).cons.length : Int) == 0) = false := by rw [beq_eq_false_iff_ne]; omega
      go_enter Tryz.func102, Tryz.ntmps102
      go_wp2_with fail
      refine (isType_is _ _ _ _ _ w (show ds.length ≤ maxLen by unfold maxLen; omega) HT.out).mono ?_
      rintro e w1 ⟨rfl, rfl⟩
      go_wp2_with fail
      go_ret
      exact ⟨rfl, rfl⟩
theorem hasF_cases (p : Pg) (f : Int) : (f < 0 ∧ hasF p f = false) ∨ (0 ≤ f ∧ ¬ f < p.funcs.length ∧ hasF p f = false) ∨ ∃ k : Nat, f = (k : Int) ∧ k < p.funcs.length ∧ hasF p f = true ∧ fnAt p f = nthF p.funcs k := by
  unfold hasF
  by_cases h : 0 ≤ f
  · by_cases h2 : f < p.funcs.length
    · exact .inr (.inr ⟨f.toNat, by omega, by omega, by rw [decide_eq_true h, decide_eq_true h2]; rfl, rfl⟩)
    · exact .inr (.inl ⟨h, h2, by rw [decide_eq_false h2, Bool.and_false]⟩)
  · exact .inl ⟨by omega, by rw [decide_eq_false h]; rfl⟩
theorem hasFunc_is (r : Bool) (f : Int) (L U : Nat) (p : Pg) (v : Value) (w : World) (hv : Pgm w L U v p) (hr : hasF p f = r) :
    Calls Tryz.prog 21 #[v, .int .i64 f] w fun e w' => e = .returned (.bool r) ∧ Below w.heap.size w w' := by
  subst hr
  obtain ⟨dd, ff, rfl, hd, hf⟩ := hv
  obtain ⟨B1, b1, rfl, l1, m1⟩ := hd.open_
  obtain ⟨B2, b2, rfl, l2, m2⟩ := hf.open_
  have HB := Lib.hid fun O => (Below.refl w.heap.size w).alloc (Nat.le_refl _) O
  clear hd hf
  rcases hasF_cases p f with ⟨h, e⟩ | ⟨h, h2, e⟩ | ⟨k, rfl, hk, e, _⟩
  · rw [e]
    go_enter Tryz.func21, Tryz.ntmps21
    go_wp2_with fail
    go_ret
    exact ⟨rfl, HB.out _⟩
  · rw [e]
    go_enter Tryz.func21, Tryz.ntmps21
    go_wp2_with fail
    go_ret
    exact ⟨rfl, HB.out _⟩
  · rw [e]
    go_enter Tryz.func21, Tryz.ntmps21
    go_wp2_with fail
    go_ret
    exact ⟨rfl, HB.out _⟩
end Go.Proofs.YtihmkaodjpgikaaGreat
