/- What the laws ask of lists; inhabited types and their constructors. -/
import Derived.BigQuiet
import Derived.Test.YtgbeongiejppnaaJ0
import Derived.Test.YtgbeongiejppnaaWi
namespace Go.Proofs.Ytgbeongiejppnaa
open Go.RowKit Go.BigFrame
set_option maxHeartbeats 400000 in
theorem withinL_any (L U L' U' : Nat) (xs S : List Int) (v v' : Value) (w : World) (hv : Ints w L U v xs) (hv' : Ints w L' U' v' S) :
    Calls Try.prog 19 #[v, v'] w fun e w' => e = .returned (.bool (allI xs S)) ∧ w = w' := by
  obtain ⟨B, d, rfl, hl, hd⟩ := hv.open_
  obtain ⟨B', d', rfl, hl', hd'⟩ := hv'.open_
  go_enter Try.func19, Try.ntmps19
  go_wp2_with fail
  go_loop [5] (fun i => ∃ k : Nat, k ≤ xs.length ∧ i = .int .i64 k ∧ Hid ((xs.take k).all (fun t => memI S t) = true)) (fun i => xs.length - (intOf i).toNat)
  case atStart => exact ⟨0, by omega, rfl, by simp [Hid]⟩
  case round =>
    obtain ⟨k, hk, rfl, H⟩ := hrel
    by_cases hlt : k < xs.length
    · obtain ⟨b, o, rfl, _, _, hc⟩ := hv.at_ hlt
      rcases hm : memI S xs[k] with _ | _
      · have HM := Lib.hid hm
        clear hm
        go_wp2_with (go_at_call 20; refine (isIn_is false _ _ _ _ _ _ hv' HM.out).mono ?_; rintro e w' ⟨rfl, rfl⟩)
        go_ret
        exact ⟨ret_bool (all_stop hlt HM.out).symm, rfl⟩
      · have HM := Lib.hid hm
        clear hm
        go_wp2_with (go_at_call 20; refine (isIn_is true _ _ _ _ _ _ hv' HM.out).mono ?_; rintro e w' ⟨rfl, rfl⟩)
        exact ⟨⟨k + 1, by omega, by go_num, all_step H hlt HM.out⟩, by simp [intOf]; omega⟩
    · go_wp2_with fail
      go_ret
      exact ⟨ret_bool (all_done H hlt).symm, rfl⟩
theorem withinL_is (b : Bool) (L U L' U' : Nat) (xs S : List Int) (v v' : Value) (w : World) (hv : Ints w L U v xs) (hv' : Ints w L' U' v' S) (h : allI xs S = b) :
    Calls Try.prog 19 #[v, v'] w fun e w' => e = .returned (.bool b) ∧ w = w' := by
  subst h; exact withinL_any L U L' U' xs S v v' w hv hv'
set_option maxHeartbeats 400000 in
theorem ascendsL_any (L U : Nat) (xs : List Int) (v : Value) (w : World) (hv : Ints w L U v xs) (ha : Asc xs) :
    Calls Try.prog 21 #[v] w fun e w' => e = .returned (.bool true) ∧ Below w.heap.size w w' := by
  obtain ⟨B, d, rfl, hl, hd⟩ := hv.open_
  have HA := Lib.hid ha
  clear ha
  go_enter Try.func21, Try.ntmps21
  go_wp2_with fail
  go_loopw [3] (fun i wr => ∃ k m : Nat, (k ≤ xs.length ∨ k = 1) ∧ 1 ≤ k ∧ i = .int .i64 k ∧ wr = w.drewN m) (fun i _ => xs.length + 1 - (intOf i).toNat)
  case atStart => exact ⟨1, 0, .inr rfl, by omega, rfl, rfl⟩
  case round =>
    obtain ⟨k, m, hk, h1, rfl, rfl⟩ := hrel
    by_cases hlt : k < xs.length
    · obtain ⟨b, o, rfl, _, _, hc⟩ := hv.at_ hlt
      obtain ⟨b', o', e', _, _, hc'⟩ := hv.at_ (k := k - 1) (by omega)
      cases e'
      have k0 : (0 : Int) ≤ (k : Int) := by omega
      have k1 : (k : Int) < (xs.length : Int) := by omega
      have s1 : IntKind.i64.wrap ((k : Int) - 1) = ((k - 1 : Nat) : Int) := by rw [show ((k - 1 : Nat) : Int) = (k : Int) - 1 by omega]; exact IntWalk.i64_in _ (by omega)
      have k2 : (0 : Int) ≤ ((k - 1 : Nat) : Int) := by omega
      have k3 : ((k - 1 : Nat) : Int) < (xs.length : Int) := by omega
      have hcmp : decide (xs[k] ≤ xs[k - 1]) = false := by
        have := HA.out (k - 1) k (by omega) hlt
        rw [nth_of hlt, nth_of (show k - 1 < xs.length by omega)] at this
        simp
        omega
      go_wp2_with fail
      go_quiet (fail)
      go_wp2_with fail
      go_roundw
      case rel => exact ⟨k + 1, _, .inl (by omega), by omega, by go_num, rfl⟩
      case measure => simp [intOf]; omega
    · have hc : ¬ ((k : Int) < (xs.length : Int)) := by omega
      go_wp2_with fail
      go_ret
      exact ⟨rfl, below_drewN (Below.refl _ _) _⟩
theorem iterJ_sup (ds : List Dec) : ∀ r, ∀ x ∈ iterJ ds r, x = 0 ∨ ∃ j, j < ds.length ∧ x = (j : Int) + 1 ∧ fullB (nthD ds j) (iterJ ds r) = true
  | 0, x, h => by simp [iterJ] at h; exact .inl h
  | r + 1, x, h => by
    have sub : ∀ y ∈ iterJ ds r, y ∈ iterJ ds (r + 1) := fun y hy => (roundTo_mem ds.length).2 (.inl hy)
    rcases (roundTo_mem (ds := ds) ds.length).1 h with h | ⟨j, hj, rfl, hf⟩
    · rcases iterJ_sup ds r x h with h | ⟨j, hj, rfl, hf⟩
      · exact .inl h
      · exact .inr ⟨j, hj, rfl, fullB_mono sub hf⟩
    · exact .inr ⟨j, hj, rfl, fullB_mono sub hf⟩
theorem inh_full {ds : List Dec} (h : typesOk ds = true) {k : Nat} (hk : k < ds.length) : memI (inhV ds) ((k : Int) + 1) = fullB (nthD ds k) (inhV ds) := by
  rw [show inhV ds = iterJ ds ds.length by unfold inhV; rw [h]; rfl]
  rcases hf : fullB (nthD ds k) (iterJ ds ds.length) with _ | _
  · rcases hm : memI (iterJ ds ds.length) ((k : Int) + 1) with _ | _
    · rfl
    · rcases iterJ_sup ds ds.length _ (memI_iff.1 hm) with h0 | ⟨j, _, e, hj⟩
      · omega
      · obtain rfl : j = k := by omega
        rw [hf] at hj
        cases hj
  · exact memI_iff.2 (iterJ_closed ds k hk hf)
theorem inh_zero {ds : List Dec} (h : typesOk ds = true) : memI (inhV ds) 0 = true := by
  rw [show inhV ds = iterJ ds ds.length by unfold inhV; rw [h]; rfl]
  exact memI_iff.2 (iterJ_zero ds _)
theorem inh_asc {ds : List Dec} (h : typesOk ds = true) : Asc (inhV ds) := by
  rw [show inhV ds = iterJ ds ds.length by unfold inhV; rw [h]; rfl]
  exact iterJ_asc ds _
theorem inh_none {ds : List Dec} (h : typesOk ds = false) : inhV ds = [] := by unfold inhV; rw [h]; rfl
theorem inh_some {ds : List Dec} (h : typesOk ds = true) : 0 < (inhV ds).length := List.length_pos_of_mem (memI_iff.1 (inh_zero h))
end Go.Proofs.Ytgbeongiejppnaa
