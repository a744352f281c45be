/- Contracts of chapter 1: valid declarations. -/
import Derived.Test.YtbhbefgdbfdmnaaC
namespace Go.Proofs.Ytbhbefgdbfdmnaa
open Go.RowKit
set_option maxHeartbeats 400000 in
theorem validTypes_any (L U : Nat) (ds : List Dec) (v : Value) (w : World) (hv : Decs w L U v ds) (hU : U ≤ w.heap.size) :
    Calls Try.prog 5 #[v] w fun e w' => e = .returned (.bool (typesOk ds)) ∧ Below w.heap.size w w' := by
  obtain ⟨B, d, rfl, hl, hd⟩ := hv.open_
  by_cases h4 : ds.length ≤ 4
  · have hT : typesOk ds = upTo ds.length (decOk ds) := by simp [typesOk, h4]
    have HT := Lib.hid hT
    clear hT
    go_enter Try.func5, Try.ntmps5
    go_wp2_with fail
    go_loopw [9] (fun i wr => ∃ k : Nat, k ≤ ds.length ∧ i = .int .i64 k ∧ Hid (∀ j, j < k → decOk ds j = true) ∧ Below w.heap.size w wr) (fun i _ => ds.length - (intOf i).toNat)
    case atStart => exact ⟨0, by omega, rfl, before_zero, Below.refl _ _⟩
    case round =>
      obtain ⟨k, hk, rfl, H, hB⟩ := hrel
      have hz := hB.size
      by_cases hlt : k < ds.length
      · have hv1 := hv.keep (Same.of_below hB hU)
        have hU1 : U ≤ wr.heap.size := by omega
        go_wp2_with (go_at_call 9; refine (validDecl_any _ _ _ _ _ _ hv1 hU1 hlt).mono ?_; rintro e w' ⟨rfl, hB2⟩)
        · go_ret
          exact ⟨ret_bool (by rw [HT.out, upTo_stop hlt (not_true ‹_›)]), hB.trans (hB2.mono hz)⟩
        · go_roundw
          case rel => exact ⟨k + 1, by omega, by go_num, before_step H (not_false ‹_›), hB.trans (hB2.mono hz)⟩
          case measure => simp [intOf]; omega
      · go_wp2_with fail
        go_ret
        exact ⟨ret_bool (by rw [HT.out, upTo_done H hlt]), hB⟩
  · go_enter Try.func5, Try.ntmps5
    go_wp2_with fail
    go_ret
    exact ⟨ret_bool (by simp [typesOk, h4]), Below.refl _ _⟩
set_option maxHeartbeats 400000 in
theorem sValidDecl_any (k : Nat) (L U : Nat) (ds : List Dec) (v : Value) (w : World) (hv : Decs w L U v ds) (hU : U ≤ w.heap.size) (hk : k < ds.length) :
    Calls Try.prog 18 #[v, .int .i64 k] w fun e w' => e = .returned (.bool (decOk ds k)) ∧ Below w.heap.size w w' := by
  obtain ⟨B, d, rfl, hl, hd⟩ := hv.open_
  obtain ⟨b, o, A', c', rfl, _, _, hc0, hc1, hc2, hu⟩ := hv.at_ hk
  have i0 : (0 : Int) ≤ (k : Int) := by omega
  have i1 : (k : Int) ≤ (ds.length : Int) := by omega
  have HB := Lib.hid fun O => (Below.refl w.heap.size w).alloc (Nat.le_refl _) O
  by_cases hp : 0 < (nthD ds k).cons.length
  · have hdO : decOk ds k = (decide ((nthD ds k).frm = 0) && (decide ((nthD ds k).to = 0) && consOk ds.length (nthD ds k).cons)) := by unfold decOk; rw [if_pos hp]
    have HD := Lib.hid hdO
    clear hdO
    by_cases h3 : (nthD ds k).cons.length ≤ 3
    · by_cases hf : (nthD ds k).frm = 0
      · have hfb : ((nthD ds k).frm != 0) = false := by simp [hf]
        have HF := Lib.hid hf
        clear hf
        by_cases ht : (nthD ds k).to = 0
        · have htb : ((nthD ds k).to != 0) = false := by simp [ht]
          have HTo := Lib.hid ht
          clear ht
          go_enter Try.func18, Try.ntmps18
          go_wp2_with fail
          go_loop [6] (fun i => ∃ j : Nat, j ≤ (nthD ds k).cons.length ∧ i = .int .i64 j ∧ Hid (((nthD ds k).cons.take j).all (fun c => decide (c.length ≤ 3) && c.all (isTy ds.length)) = true)) (fun i => (nthD ds k).cons.length - (intOf i).toNat)
          case atStart => exact ⟨0, by omega, rfl, by simp [Hid]⟩
          case round =>
            obtain ⟨j, hj, rfl, H⟩ := hrel
            by_cases hlt : j < (nthD ds k).cons.length
            · obtain ⟨b2, o2, A2, c2, rfl, _, hb2, hc, hx⟩ := hu.at_ hlt
              have hb2' : b2 < w.heap.size := by omega
              have Hx := Lib.hid fun O => hx.keep (Same.of_below ((Below.refl w.heap.size w).alloc (Nat.le_refl _) O) hU)
              clear hx
              go_wp2_with (go_at_call 20; refine (allTypes_any _ _ _ _ _ _ _ _ (Hx.out _)).mono ?_; rintro e w' ⟨rfl, rfl⟩)
              · go_ret
                exact ⟨ret_bool (by rw [HD.out, consOk, all_stop hlt (con_no (by assumption))]; simp), HB.out _⟩
              · exact ⟨⟨j + 1, by omega, by go_num, all_step H hlt (con_yes (by assumption))⟩, by simp [intOf]; omega⟩
              · go_ret
                exact ⟨ret_bool (by rw [HD.out, consOk, all_stop hlt (con_no (.inl (by assumption)))]; simp), HB.out _⟩
            · go_wp2_with fail
              go_ret
              exact ⟨ret_bool (by rw [HD.out, consOk, all_done H hlt, HF.out, HTo.out]; simp [h3]), HB.out _⟩
        · have htb : ((nthD ds k).to != 0) = true := by simp [ht]
          go_enter Try.func18, Try.ntmps18
          go_wp2_with fail
          go_ret
          exact ⟨ret_bool (by rw [HD.out]; simp [ht]), HB.out _⟩
      · have hfb : ((nthD ds k).frm != 0) = true := by simp [hf]
        go_enter Try.func18, Try.ntmps18
        go_wp2_with fail
        go_ret
        exact ⟨ret_bool (by rw [HD.out]; simp [hf]), HB.out _⟩
    · go_enter Try.func18, Try.ntmps18
      go_wp2_with fail
      go_ret
      exact ⟨ret_bool (by rw [HD.out]; simp [consOk, h3]), HB.out _⟩
  · have hdO : decOk ds k = (isTy ds.length (nthD ds k).frm && (isTy ds.length (nthD ds k).to && decide (seek k (fun j => isArr (nthD ds k).frm (nthD ds k).to (nthD ds j)) < 0))) := by unfold decOk; rw [if_neg hp]
    have HD := Lib.hid hdO
    clear hdO
    clear hu
    go_enter Try.func18, Try.ntmps18
    go_wp2_with fail
    go_loopw [7] (fun i wr => ∃ j m : Nat, j ≤ k ∧ i = .int .i64 j ∧ Hid (∀ x, x < j → isArr (nthD ds k).frm (nthD ds k).to (nthD ds x) = false) ∧ wr = (w.alloc (.cells #[.int .i64 (nthD ds k).frm, .int .i64 (nthD ds k).to, .slice A' (nthD ds k).cons.length c'] 28)).drewN m) (fun i _ => k - (intOf i).toNat)
    case atStart => exact ⟨0, 0, by omega, rfl, before_zero, rfl⟩
    case round =>
      obtain ⟨j, m, hj, rfl, H, rfl⟩ := hrel
      by_cases hlt : j < k
      · have hjl : j < ds.length := by omega
        obtain ⟨b2, o2, A2, c2, hA2, _, hb2, e0, e1, e2, _⟩ := hv.at_ hjl
        injection hA2 with hA2
        injection hA2 with hA3 hA4
        subst hA3 hA4
        have hb2' : b < w.heap.size := by omega
        by_cases g0 : (nthD ds j).cons.length = 0
        · have g0b : (((nthD ds j).cons.length : Int) == 0) = true := by simp [g0]
          by_cases g1 : (nthD ds j).frm = (nthD ds k).frm
          · have g1b : ((nthD ds j).frm == (nthD ds k).frm) = true := by simp [g1]
            by_cases g2 : (nthD ds j).to = (nthD ds k).to
            · have g2b : ((nthD ds j).to == (nthD ds k).to) = true := by simp [g2]
              have HG := Lib.hid (isArr_yes (List.eq_nil_of_length_eq_zero g0) g1 g2b)
              clear g0 g1 g2
              go_wp2_with fail
              go_quiet (fail)
              go_wp2_with fail
              go_ret
              exact ⟨ret_bool (by rw [HD.out, seek_hit H hlt HG.out, decide_eq_false (by omega), Bool.and_false, Bool.and_false]), below_drewN (below_drewN (HB.out _) _) _⟩
            · have g2b : ((nthD ds j).to == (nthD ds k).to) = false := by simp [g2]
              have HG := Lib.hid (isArr_no (d := nthD ds j) (f := (nthD ds k).frm) (t := (nthD ds k).to) fun _ _ => g2b)
              clear g0 g1 g2
              go_wp2_with fail
              go_quiet (fail)
              go_wp2_with fail
              go_roundw
              case rel => exact ⟨j + 1, _, by omega, by go_num, before_step H HG.out, rfl⟩
              case measure => simp [intOf]; omega
          · have g1b : ((nthD ds j).frm == (nthD ds k).frm) = false := by simp [g1]
            have HG := Lib.hid (isArr_no (d := nthD ds j) (f := (nthD ds k).frm) (t := (nthD ds k).to) fun _ h => absurd h g1)
            clear g0 g1
            go_wp2_with fail
            go_quiet (fail)
            go_wp2_with fail
            go_roundw
            case rel => exact ⟨j + 1, _, by omega, by go_num, before_step H HG.out, rfl⟩
            case measure => simp [intOf]; omega
        · have g0b : (((nthD ds j).cons.length : Int) == 0) = false := by simp; exact fun h => g0 (by simp [h])
          have HG := Lib.hid (isArr_no (d := nthD ds j) (f := (nthD ds k).frm) (t := (nthD ds k).to) fun h => absurd (List.length_eq_zero_iff.2 h) g0)
          clear g0
          go_wp2_with fail
          go_quiet (fail)
          go_wp2_with fail
          go_roundw
          case rel => exact ⟨j + 1, _, by omega, by go_num, before_step H HG.out, rfl⟩
          case measure => simp [intOf]; omega
      · clear hv
        have HS := Lib.hid (seek_none (n := k) H hlt)
        go_wp2_with (go_at_call 21; refine (inRange_any _ _ _ _).mono ?_; rintro e w' ⟨rfl, rfl⟩)
        · go_ret
          exact ⟨ret_bool (by rw [HD.out, HS.out]; simp [isTy, *]), below_drewN (HB.out _) _⟩
        · go_ret
          exact ⟨ret_bool (by rw [HD.out, HS.out]; simp [isTy]; omega), below_drewN (HB.out _) _⟩
set_option maxHeartbeats 400000 in
theorem sValidTypes_any (L U : Nat) (ds : List Dec) (v : Value) (w : World) (hv : Decs w L U v ds) (hU : U ≤ w.heap.size) :
    Calls Try.prog 10 #[v] w fun e w' => e = .returned (.bool (typesOk ds)) ∧ Below w.heap.size w w' := by
  obtain ⟨B, d, rfl, hl, hd⟩ := hv.open_
  by_cases h4 : ds.length ≤ 4
  · have hT : typesOk ds = upTo ds.length (decOk ds) := by simp [typesOk, h4]
    have HT := Lib.hid hT
    clear hT
    go_enter Try.func10, Try.ntmps10
    go_wp2_with fail
    go_loopw [3] (fun i wr => ∃ k : Nat, k ≤ ds.length ∧ i = .int .i64 k ∧ Hid (∀ j, j < k → decOk ds j = true) ∧ Below w.heap.size w wr) (fun i _ => ds.length - (intOf i).toNat)
    case atStart => exact ⟨0, by omega, rfl, before_zero, Below.refl _ _⟩
    case round =>
      obtain ⟨k, hk, rfl, H, hB⟩ := hrel
      have hz := hB.size
      by_cases hlt : k < ds.length
      · have hv1 := hv.keep (Same.of_below hB hU)
        have hU1 : U ≤ wr.heap.size := by omega
        go_wp2_with (go_at_call 18; refine (sValidDecl_any _ _ _ _ _ _ hv1 hU1 hlt).mono ?_; rintro e w' ⟨rfl, hB2⟩)
        · go_ret
          exact ⟨ret_bool (by rw [HT.out, upTo_stop hlt (not_true ‹_›)]), hB.trans (hB2.mono hz)⟩
        · go_roundw
          case rel => exact ⟨k + 1, by omega, by go_num, before_step H (not_false ‹_›), hB.trans (hB2.mono hz)⟩
          case measure => simp [intOf]; omega
      · go_wp2_with fail
        go_ret
        exact ⟨ret_bool (by rw [HT.out, upTo_done H hlt]), hB⟩
  · go_enter Try.func10, Try.ntmps10
    go_wp2_with fail
    go_ret
    exact ⟨ret_bool (by simp [typesOk, h4]), Below.refl _ _⟩
end Go.Proofs.Ytbhbefgdbfdmnaa
