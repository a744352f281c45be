/- Contracts of chapter 1: counts and places of constructors. -/
import Derived.Test.YtdooageiopnhaabB
namespace Go.Proofs.Ytdooageiopnhaab
open Go.RowKit
set_option maxHeartbeats 400000 in
theorem sFirstCon_any (L U : Nat) (ds : List Dec) (v : Value) (at_ : Nat) (w : World) (hv : Decs w L U v ds) (ha : at_ ≤ ds.length) (hb : cnt ds ds.length ≤ 4611686018427387904) :
    Calls Try.prog 104 #[v, .int .i64 at_] w fun e w' => e = .returned (.int .i64 (cnt ds at_)) ∧ w = w' := by
  obtain ⟨B, d, rfl, hl, hd⟩ := hv.open_
  go_enter Try.func104, Try.ntmps104
  go_wp2_with fail
  go_loop [5, 6] (fun m i => ∃ k : Nat, k ≤ at_ ∧ i = .int .i64 k ∧ m = .int .i64 (cnt ds k)) (fun _ i => at_ - (intOf i).toNat)
  case atStart => exact ⟨0, by omega, rfl, by rw [cnt_zero]; rfl⟩
  case round =>
    obtain ⟨k, hk, rfl, rfl⟩ := hrel
    by_cases hlt : k < at_
    · have hlt' : k < ds.length := by omega
      obtain ⟨b, o, A', c', rfl, _, _, hc0, hc1, hc2, hu⟩ := hv.at_ hlt'
      clear hu hv
      have hs := cnt_succ hlt'
      have hm := cnt_mono ds (i := k + 1) (j := ds.length) (by omega)
      have hz : cnt ds k + (nthD ds k).cons.length ≤ 4611686018427387904 := by omega
      have HS := Lib.hid hs
      clear hs hm
      go_wp2_with fail
      exact ⟨⟨k + 1, by omega, by go_num, by rw [HS.out]; go_num⟩, by simp [intOf]; omega⟩
    · go_wp2_with fail
      go_ret
      exact ⟨ret_int (by rw [show k = at_ by omega]), rfl⟩
set_option maxHeartbeats 400000 in
theorem isData_any (t : Int) (L U : Nat) (ds : List Dec) (v : Value) (w : World) (hv : Decs w L U v ds) :
    Calls Try.prog 109 #[v, .int .i64 t] w fun e w' => e = .returned (.bool (isDat ds t)) ∧ w = w' := by
  obtain ⟨B, d, rfl, hl, hd⟩ := hv.open_
  by_cases h : 0 < t
  · by_cases h2 : t ≤ ds.length
    · obtain ⟨b, o, A', c', rfl, _, _, hc0, hc1, hc2, hu⟩ := hv.at_ (k := (t - 1).toNat) (by omega)
      clear hu hv
      obtain ⟨k, rfl⟩ : ∃ k : Nat, t = k + 1 := ⟨(t - 1).toNat, by omega⟩
      have hk : ((k : Int) + 1 - 1).toNat = k := by omega
      rw [hk] at hc0 hc1 hc2
      clear hk
      have ht : isTy ds.length ((k : Int) + 1) = true := by simp [isTy, h2]; omega
      have hD : isDat ds ((k : Int) + 1) = decide (0 < (nthD ds k).cons.length) := by
        unfold isDat; rw [ht, show ((k : Int) + 1 - 1).toNat = k by omega, decide_eq_true h]; simp
      rw [hD]
      clear hD
      have HT := Lib.hid ht
      clear ht
      go_enter Try.func109, Try.ntmps109
      go_wp2_with (go_at_call 77; refine (isType_any _ _ _ _ _ (by unfold maxLen; omega)).mono ?_; rintro e w' ⟨rfl, rfl⟩; rw [HT.out])
      go_ret
      exact ⟨ret_bool (by first | rfl | (rw [decide_eq_decide]; omega)), rfl⟩
    · have ht : isTy ds.length t = false := by simp [isTy, h2]
      rw [show isDat ds t = false by simp [isDat, ht]]
      have HT := Lib.hid ht
      clear ht
      go_enter Try.func109, Try.ntmps109
      go_wp2_with (go_at_call 77; refine (isType_any _ _ _ _ _ (by unfold maxLen; omega)).mono ?_; rintro e w' ⟨rfl, rfl⟩; rw [HT.out])
      go_ret
      exact ⟨rfl, rfl⟩
  · rw [show isDat ds t = false by simp [isDat, h]]
    go_enter Try.func109, Try.ntmps109
    go_wp2_with fail
    go_ret
    exact ⟨rfl, rfl⟩
set_option maxHeartbeats 400000 in
theorem firstCon_any (k : Nat) (L U : Nat) (ds : List Dec) (v : Value) (w : World) (hv : Decs w L U v ds) (hU : U ≤ w.heap.size) (hk : k < ds.length) (hb : cnt ds ds.length ≤ 4611686018427387904) :
    Calls Try.prog 123 #[v, .int .i64 (k + 1)] w fun e w' => e = .returned (.int .i64 (cnt ds k)) ∧ Below w.heap.size w w' := by
  obtain ⟨B, d, rfl, hl, hd⟩ := hv.open_
  obtain ⟨b, o, A', c', rfl, _, _, hc0, hc1, hc2, hu⟩ := hv.at_ hk
  clear hu hc0 hc1 hc2
  have hv2 := hv.cut (k := k) (by omega)
  have hm := cnt_mono ds (i := k) (j := ds.length) (by omega)
  have hcut : cnt (ds.take k) (ds.take k).length = cnt ds k := by rw [show (ds.take k).length = k by simp; omega, cnt_take ds (Nat.le_refl k)]
  have C := countCons_any L U (ds.take k) _ w hv2 hU (by rw [hcut]; omega)
  rw [hcut] at C
  clear hv hv2 hm hcut
  have H := Lib.hid C
  clear C
  go_enter Try.func123, Try.ntmps123
  go_wp2_with fail
  refine H.out.mono ?_
  rintro e w' ⟨rfl, hB⟩
  go_wp2_with fail
  go_ret
  exact ⟨rfl, hB⟩
set_option maxHeartbeats 400000 in
theorem typeOfCon_any (c : Int) (L U : Nat) (ds : List Dec) (v : Value) (w : World) (hv : Decs w L U v ds) (hU : U ≤ w.heap.size) (hb : cnt ds ds.length ≤ 4611686018427387904) :
    Calls Try.prog 120 #[v, .int .i64 c] w fun e w' => e = .returned (.int .i64 (conTy ds c)) ∧ Below w.heap.size w w' := by
  obtain ⟨B, d, rfl, hl, hd⟩ := hv.open_
  go_enter Try.func120, Try.ntmps120
  go_wp2_with fail
  go_loopw [5, 10] (fun m i wr => ∃ k : Nat, k ≤ ds.length ∧ i = .int .i64 k ∧ m = .int .i64 (cnt ds k) ∧ Hid (∀ j, j < k → (decide ((cnt ds j : Int) ≤ c) && decide (c < (cnt ds (j + 1) : Int))) = false) ∧ Below w.heap.size w wr) (fun _ i _ => ds.length - (intOf i).toNat)
  case atStart => exact ⟨0, by omega, rfl, by rw [cnt_zero]; rfl, before_zero, Below.refl _ _⟩
  case round =>
    obtain ⟨k, hk, rfl, rfl, H, hB⟩ := hrel
    have hz := hB.size
    by_cases hlt : k < ds.length
    · obtain ⟨b, o, A', c', rfl, _, _, hc0, hc1, hc2, hu⟩ := (hv.keep (Same.of_below hB hU)).at_ hlt
      clear hu hv
      have hs := cnt_succ hlt
      have hm := cnt_mono ds (i := k + 1) (j := ds.length) (by omega)
      have hx : cnt ds k + (nthD ds k).cons.length ≤ 4611686018427387904 := by omega
      have HS := Lib.hid hs
      clear hs hm
      by_cases h1 : (cnt ds k : Int) ≤ c
      · by_cases h2 : c < (cnt ds k : Int) + ((nthD ds k).cons.length : Int)
        · go_wp2_with fail
          go_ret
          exact ⟨ret_int (seek_hit H hlt (inCon_yes hlt h1 h2)).symm, hB.alloc hz _⟩
        · go_wp2_with fail
          go_roundw
          case rel => exact ⟨k + 1, by omega, by go_num, by rw [HS.out]; go_num, before_step H (inCon_no hlt fun _ => by omega), hB.alloc hz _⟩
          case measure => simp [intOf]; omega
      · go_wp2_with fail
        go_roundw
        case rel => exact ⟨k + 1, by omega, by go_num, by rw [HS.out]; go_num, before_step H (inCon_no hlt fun h => by omega), hB.alloc hz _⟩
        case measure => simp [intOf]; omega
    · go_wp2_with fail
      go_ret
      exact ⟨ret_int (seek_none H hlt).symm, hB⟩
set_option maxHeartbeats 400000 in
theorem conType_any (c : Int) (L U : Nat) (ds : List Dec) (v : Value) (w : World) (hv : Decs w L U v ds) (hb : cnt ds ds.length ≤ 4611686018427387904) :
    Calls Try.prog 81 #[v, .int .i64 c] w fun e w' => e = .returned (.int .i64 (conTy ds c)) ∧ w = w' := by
  obtain ⟨B, d, rfl, hl, hd⟩ := hv.open_
  go_enter Try.func81, Try.ntmps81
  go_wp2_with fail
  go_loop [5] (fun i => ∃ k : Nat, k ≤ ds.length ∧ i = .int .i64 k ∧ Hid (∀ j, j < k → (decide ((cnt ds j : Int) ≤ c) && decide (c < (cnt ds (j + 1) : Int))) = false)) (fun i => ds.length - (intOf i).toNat)
  case atStart => exact ⟨0, by omega, rfl, before_zero⟩
  case round =>
    obtain ⟨k, hk, rfl, H⟩ := hrel
    by_cases hlt : k < ds.length
    · obtain ⟨b, o, A', c', rfl, _, _, hc0, hc1, hc2, hu⟩ := hv.at_ hlt
      clear hu
      have hs := cnt_succ hlt
      have hm := cnt_mono ds (i := k + 1) (j := ds.length) (by omega)
      have hx : cnt ds k + (nthD ds k).cons.length ≤ 4611686018427387904 := by omega
      have HS := Lib.hid hs
      clear hs hm
      by_cases h1 : (cnt ds k : Int) ≤ c
      · by_cases h2 : c < (cnt ds k : Int) + ((nthD ds k).cons.length : Int)
        · go_wp2_with (first | (go_at_call 104; refine (sFirstCon_any _ _ _ _ _ _ hv hk hb).mono ?_; rintro e w' ⟨rfl, rfl⟩) | (go_at_call 36; refine (inRange_any _ _ _ _).mono ?_; rintro e w' ⟨rfl, rfl⟩))
          go_ret
          exact ⟨ret_int (seek_hit H hlt (inCon_yes hlt h1 h2)).symm, rfl⟩
        · go_wp2_with (first | (go_at_call 104; refine (sFirstCon_any _ _ _ _ _ _ hv hk hb).mono ?_; rintro e w' ⟨rfl, rfl⟩) | (go_at_call 36; refine (inRange_any _ _ _ _).mono ?_; rintro e w' ⟨rfl, rfl⟩))
          exact ⟨⟨k + 1, by omega, by go_num, before_step H (inCon_no hlt fun _ => by omega)⟩, by simp [intOf]; omega⟩
      · go_wp2_with (first | (go_at_call 104; refine (sFirstCon_any _ _ _ _ _ _ hv hk hb).mono ?_; rintro e w' ⟨rfl, rfl⟩) | (go_at_call 36; refine (inRange_any _ _ _ _).mono ?_; rintro e w' ⟨rfl, rfl⟩))
        exact ⟨⟨k + 1, by omega, by go_num, before_step H (inCon_no hlt fun _ => by omega)⟩, by simp [intOf]; omega⟩
    · go_wp2_with fail
      go_ret
      exact ⟨ret_int (seek_none H hlt).symm, rfl⟩
theorem arrowCut_any (f t : Int) (k L U : Nat) (ds : List Dec) (A : Option Addr) (d : Nat) (w : World) (hv : Decs w L U (.slice A ds.length d) ds) (hU : U ≤ w.heap.size) (hk : k ≤ ds.length) :
    Calls Try.prog 102 #[.slice A k d, .int .i64 f, .int .i64 t] w fun e w' => e = .returned (.int .i64 (seek k fun j => isArr f t (nthD ds j))) ∧ Below w.heap.size w w' := by
  have C := arrowBetween_any f t L U (ds.take k) _ w (hv.cut hk) hU
  rw [show (ds.take k).length = k by simp; omega, seek_congr (R := fun j => isArr f t (nthD ds j)) (fun j hj => by rw [length_take_nthD hj])] at C
  exact C
set_option maxHeartbeats 400000 in
theorem validDecl_any (k : Nat) (L U : Nat) (ds : List Dec) (v : Value) (w : World) (hv : Decs w L U v ds) (hU : U ≤ w.heap.size) (hk : k < ds.length) :
    Calls Try.prog 76 #[v, .int .i64 k] w fun e w' => e = .returned (.bool (decOk ds k)) ∧ Below w.heap.size w w' := by
  obtain ⟨B, d, rfl, hl, hd⟩ := hv.open_
  obtain ⟨b, o, A', c', rfl, _, _, hc0, hc1, hc2, hu⟩ := hv.at_ hk
  have hn : ds.length ≤ maxLen := by unfold maxLen; omega
  have Hu := Lib.hid fun O => hu.keep (Same.of_below ((Below.refl w.heap.size w).alloc (Nat.le_refl _) O) hU)
  have Hv := Lib.hid fun O => hv.keep (Same.of_below ((Below.refl w.heap.size w).alloc (Nat.le_refl _) O).drew hU)
  have HB := Lib.hid fun O => (Below.refl w.heap.size w).alloc (Nat.le_refl _) O
  have i0 : (0 : Int) ≤ (k : Int) := by omega
  have i1 : (k : Int) ≤ (ds.length : Int) := by omega
  have i2 : (k : Int) ≤ (d : Int) := by omega
  clear hu hv
  by_cases hp : 0 < (nthD ds k).cons.length
  · have hdO : decOk ds k = (decide ((nthD ds k).frm = 0) && (decide ((nthD ds k).to = 0) && consOk ds.length (nthD ds k).cons)) := by unfold decOk; rw [if_pos hp]
    have HD := Lib.hid hdO
    clear hdO
    go_enter Try.func76, Try.ntmps76
    go_wp2_with (go_at_call 101; refine (validCons_any _ _ _ _ _ _ _ _ hn (Hu.out _) (by simp; omega)).mono ?_; rintro e w' ⟨rfl, hB⟩)
    · go_ret
      exact ⟨ret_bool (by rw [HD.out]; simp [*]), (HB.out _).trans (hB.mono (by simp))⟩
    · go_ret
      exact ⟨ret_bool (by rw [HD.out]; simp [*]), HB.out _⟩
    · go_ret
      exact ⟨ret_bool (by rw [HD.out]; simp [*]), HB.out _⟩
  · have hdO : decOk ds k = (isTy ds.length (nthD ds k).frm && (isTy ds.length (nthD ds k).to && decide (seek k (fun j => isArr (nthD ds k).frm (nthD ds k).to (nthD ds j)) < 0))) := by unfold decOk; rw [if_neg hp]
    have HD := Lib.hid hdO
    clear hdO
    obtain ⟨bf, hf⟩ : ∃ b, isTy ds.length (nthD ds k).frm = b := ⟨_, rfl⟩
    obtain ⟨bt, ht⟩ : ∃ b, isTy ds.length (nthD ds k).to = b := ⟨_, rfl⟩
    have HF := Lib.hid hf
    have HT := Lib.hid ht
    clear hf ht
    by_cases hbb : bf = true ∧ bt = true
    · obtain ⟨rfl, rfl⟩ := hbb
      go_enter Try.func76, Try.ntmps76
      go_wp2_with fail
      go_region_held3 (fun w' => w'.cell? ⟨w.heap.size, 0, none⟩ = some (.int .i64 (nthD ds k).frm) ∧ w'.cell? ⟨w.heap.size, 1, none⟩ = some (.int .i64 (nthD ds k).to))
        (first | go_keep | (exact ⟨(hB.cell (by simp)).trans (by simp), (hB.cell (by simp)).trans (by simp)⟩))
        (first | (go_at_call_of 77 (Value.int .i64 (nthD ds k).frm); refine (isType_is _ _ _ _ _ _ hn HF.out).mono ?_; rintro e w' ⟨rfl, rfl⟩) | (go_at_call_of 77 (Value.int .i64 (nthD ds k).to); refine (isType_is _ _ _ _ _ _ hn HT.out).mono ?_; rintro e w' ⟨rfl, rfl⟩) | (go_at_call 102; refine (arrowCut_any _ _ _ _ _ _ _ _ _ (Hv.out _) (by simp; omega) (by omega)).mono ?_; rintro e w' ⟨rfl, hB⟩))
      go_wp2
      go_ret
      exact ⟨ret_bool (by rw [HD.out, HF.out, HT.out]; simp), (HB.out _).drew.trans (hB.mono (by simp))⟩
    · have hcase : bf = false ∨ (bf = true ∧ bt = false) := by cases bf <;> cases bt <;> simp at hbb ⊢
      clear hbb
      rcases hcase with rfl | ⟨rfl, rfl⟩
      · go_enter Try.func76, Try.ntmps76
        go_wp2_with fail
        go_quiet ((go_at_call_of 77 (Value.int .i64 (nthD ds k).frm); exact Calls.quiet_of_same (isType_is _ _ _ _ _ _ hn HF.out)))
        go_wp2
        go_ret
        exact ⟨ret_bool (by rw [HD.out, HF.out]; rfl), below_drewN (HB.out _) _⟩
      · go_enter Try.func76, Try.ntmps76
        go_wp2_with fail
        go_quiet ((first | (go_at_call_of 77 (Value.int .i64 (nthD ds k).frm); exact Calls.quiet_of_same (isType_is _ _ _ _ _ _ hn HF.out)) | (go_at_call_of 77 (Value.int .i64 (nthD ds k).to); exact Calls.quiet_of_same (isType_is _ _ _ _ _ _ hn HT.out))))
        go_wp2
        go_ret
        exact ⟨ret_bool (by rw [HD.out, HF.out, HT.out]; rfl), below_drewN (HB.out _) _⟩
end Go.Proofs.Ytdooageiopnhaab
