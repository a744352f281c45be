/- Contracts of chapter 1: counts and places of constructors. -/
import Derived.Test.YtbhbefgdbfdmnaaB
namespace Go.Proofs.Ytbhbefgdbfdmnaa
open Go.RowKit
theorem arrowCut_any (f t : Int) (k L U : Nat) (ds : List Dec) (A : Option Addr) (d : Nat) (w : World) (hv : Decs w L U (.slice A ds.length d) ds) (hU : U ≤ w.heap.size) (hk : k ≤ ds.length) :
    Calls Try.prog 17 #[.slice A k d, .int .i64 f, .int .i64 t] w fun e w' => e = .returned (.int .i64 (seek k fun j => isArr f t (nthD ds j))) ∧ Below w.heap.size w w' := by
  have C := arrowBetween_any f t L U (ds.take k) _ w (hv.cut hk) hU
  rw [show (ds.take k).length = k by simp; omega, seek_congr (R := fun j => isArr f t (nthD ds j)) (fun j hj => by rw [length_take_nthD hj])] at C
  exact C
set_option maxHeartbeats 400000 in
theorem validDecl_any (k : Nat) (L U : Nat) (ds : List Dec) (v : Value) (w : World) (hv : Decs w L U v ds) (hU : U ≤ w.heap.size) (hk : k < ds.length) :
    Calls Try.prog 9 #[v, .int .i64 k] w fun e w' => e = .returned (.bool (decOk ds k)) ∧ Below w.heap.size w w' := by
  obtain ⟨B, d, rfl, hl, hd⟩ := hv.open_
  obtain ⟨b, o, A', c', rfl, _, _, hc0, hc1, hc2, hu⟩ := hv.at_ hk
  have hn : ds.length ≤ maxLen := by unfold maxLen; omega
  have Hu := Lib.hid fun O => hu.keep (Same.of_below ((Below.refl w.heap.size w).alloc (Nat.le_refl _) O) hU)
  have Hv := Lib.hid fun O => hv.keep (Same.of_below ((Below.refl w.heap.size w).alloc (Nat.le_refl _) O).drew hU)
  have HB := Lib.hid fun O => (Below.refl w.heap.size w).alloc (Nat.le_refl _) O
  have i0 : (0 : Int) ≤ (k : Int) := by omega
  have i1 : (k : Int) ≤ (ds.length : Int) := by omega
  have i2 : (k : Int) ≤ (d : Int) := by omega
  clear hu hv
  by_cases hp : 0 < (nthD ds k).cons.length
  · have hdO : decOk ds k = (decide ((nthD ds k).frm = 0) && (decide ((nthD ds k).to = 0) && consOk ds.length (nthD ds k).cons)) := by unfold decOk; rw [if_pos hp]
    have HD := Lib.hid hdO
    clear hdO
    go_enter Try.func9, Try.ntmps9
    go_wp2_with (go_at_call 15; refine (validCons_any _ _ _ _ _ _ _ _ hn (Hu.out _) (by simp; omega)).mono ?_; rintro e w' ⟨rfl, hB⟩)
    · go_ret
      exact ⟨ret_bool (by rw [HD.out]; simp [*]), (HB.out _).trans (hB.mono (by simp))⟩
    · go_ret
      exact ⟨ret_bool (by rw [HD.out]; simp [*]), HB.out _⟩
    · go_ret
      exact ⟨ret_bool (by rw [HD.out]; simp [*]), HB.out _⟩
  · have hdO : decOk ds k = (isTy ds.length (nthD ds k).frm && (isTy ds.length (nthD ds k).to && decide (seek k (fun j => isArr (nthD ds k).frm (nthD ds k).to (nthD ds j)) < 0))) := by unfold decOk; rw [if_neg hp]
    have HD := Lib.hid hdO
    clear hdO
    obtain ⟨bf, hf⟩ : ∃ b, isTy ds.length (nthD ds k).frm = b := ⟨_, rfl⟩
    obtain ⟨bt, ht⟩ : ∃ b, isTy ds.length (nthD ds k).to = b := ⟨_, rfl⟩
    have HF := Lib.hid hf
    have HT := Lib.hid ht
    clear hf ht
    by_cases hbb : bf = true ∧ bt = true
    · obtain ⟨rfl, rfl⟩ := hbb
      go_enter Try.func9, Try.ntmps9
      go_wp2_with fail
      go_region_held3 (fun w' => w'.cell? ⟨w.heap.size, 0, none⟩ = some (.int .i64 (nthD ds k).frm) ∧ w'.cell? ⟨w.heap.size, 1, none⟩ = some (.int .i64 (nthD ds k).to))
        (first | go_keep | (exact ⟨(hB.cell (by simp)).trans (by simp), (hB.cell (by simp)).trans (by simp)⟩))
        (first | (go_at_call_of 16 (Value.int .i64 (nthD ds k).frm); refine (isType_is _ _ _ _ _ _ hn HF.out).mono ?_; rintro e w' ⟨rfl, rfl⟩) | (go_at_call_of 16 (Value.int .i64 (nthD ds k).to); refine (isType_is _ _ _ _ _ _ hn HT.out).mono ?_; rintro e w' ⟨rfl, rfl⟩) | (go_at_call 17; refine (arrowCut_any _ _ _ _ _ _ _ _ _ (Hv.out _) (by simp; omega) (by omega)).mono ?_; rintro e w' ⟨rfl, hB⟩))
      go_wp2
      go_ret
      exact ⟨ret_bool (by rw [HD.out, HF.out, HT.out]; simp), (HB.out _).drew.trans (hB.mono (by simp))⟩
    · have hcase : bf = false ∨ (bf = true ∧ bt = false) := by cases bf <;> cases bt <;> simp at hbb ⊢
      clear hbb
      rcases hcase with rfl | ⟨rfl, rfl⟩
      · go_enter Try.func9, Try.ntmps9
        go_wp2_with fail
        go_quiet ((go_at_call_of 16 (Value.int .i64 (nthD ds k).frm); exact Calls.quiet_of_same (isType_is _ _ _ _ _ _ hn HF.out)))
        go_wp2
        go_ret
        exact ⟨ret_bool (by rw [HD.out, HF.out]; rfl), below_drewN (HB.out _) _⟩
      · go_enter Try.func9, Try.ntmps9
        go_wp2_with fail
        go_quiet ((first | (go_at_call_of 16 (Value.int .i64 (nthD ds k).frm); exact Calls.quiet_of_same (isType_is _ _ _ _ _ _ hn HF.out)) | (go_at_call_of 16 (Value.int .i64 (nthD ds k).to); exact Calls.quiet_of_same (isType_is _ _ _ _ _ _ hn HT.out))))
        go_wp2
        go_ret
        exact ⟨ret_bool (by rw [HD.out, HF.out, HT.out]; rfl), below_drewN (HB.out _) _⟩
end Go.Proofs.Ytbhbefgdbfdmnaa
