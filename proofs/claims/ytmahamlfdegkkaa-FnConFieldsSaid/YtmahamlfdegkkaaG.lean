/- Contracts of chapter 1: the functions that are called from outside. -/
import Derived.Test.YtmahamlfdegkkaaF
namespace Go.Proofs.Ytmahamlfdegkkaa
open Go.RowKit
theorem big_of_twelve {n : Nat} (h : n ≤ 12) : n ≤ 4611686018427387904 := by omega
/-- The calls of ValidTypes, by their answer. -/
theorem validTypes_is (b : Bool) (L U : Nat) (ds : List Dec) (v : Value) (w : World) (hv : Decs w L U v ds) (hU : U ≤ w.heap.size) (h : typesOk ds = b) :
    Calls Try.prog 16 #[v] w fun e w' => e = .returned (.bool b) ∧ Below w.heap.size w w' := by
  subst h; exact validTypes_any L U ds v w hv hU
theorem sValidTypes_is (b : Bool) (L U : Nat) (ds : List Dec) (v : Value) (w : World) (hv : Decs w L U v ds) (hU : U ≤ w.heap.size) (h : typesOk ds = b) :
    Calls Try.prog 46 #[v] w fun e w' => e = .returned (.bool b) ∧ Below w.heap.size w w' := by
  subst h; exact sValidTypes_any L U ds v w hv hU
set_option maxHeartbeats 400000 in
theorem sValidTypesTop (L U : Nat) (ds : List Dec) (v : Value) (w : World) (hv : Decs w L U v ds) (hU : U ≤ w.heap.size) :
    Calls Try.prog 17 #[v] w fun e w' => e = .returned (.bool (typesOk ds)) ∧ Below w.heap.size w w' := by
  go_enter Try.func17, Try.ntmps17
  go_wp2_with (go_at_call 46; refine (sValidTypes_any _ _ _ _ _ hv hU).mono ?_; rintro e w' ⟨rfl, hB⟩)
  go_ret
  exact ⟨rfl, hB⟩
set_option maxHeartbeats 400000 in
theorem conCountTop (L U : Nat) (ds : List Dec) (v : Value) (w : World) (hv : Decs w L U v ds) (hU : U ≤ w.heap.size) :
    Calls Try.prog 34 #[v] w fun e w' => e = .returned (.int .i64 (conCountV ds)) ∧ Below w.heap.size w w' := by
  rcases hb : typesOk ds with _ | _
  · rw [show conCountV ds = -1 by simp [conCountV, hb]]
    have H := Lib.hid hb
    clear hb
    go_enter Try.func34, Try.ntmps34
    go_wp2_with (go_at_call 16; refine (validTypes_is _ _ _ _ _ _ hv hU H.out).mono ?_; rintro e w1 ⟨rfl, hB⟩)
    go_ret
    exact ⟨rfl, hB⟩
  · rw [show conCountV ds = (cnt ds ds.length : Int) by simp [conCountV, hb]]
    have H := Lib.hid hb
    have hc := big_of_twelve (cnt_twelve hb)
    clear hb
    go_enter Try.func34, Try.ntmps34
    go_wp2_with (first | (go_at_call 16; refine (validTypes_is _ _ _ _ _ _ hv hU H.out).mono ?_; rintro e w1 ⟨rfl, hB⟩; have hU1 := Nat.le_trans hU hB.size; have hv1 := hv.keep (Same.of_below hB hU)) | (go_at_call 65; refine (countCons_any _ _ _ _ _ hv1 hU1 hc).mono ?_; rintro e w2 ⟨rfl, hB2⟩))
    go_ret
    exact ⟨rfl, hB.trans (hB2.mono hB.size)⟩
set_option maxHeartbeats 400000 in
theorem sConCountTop (L U : Nat) (ds : List Dec) (v : Value) (w : World) (hv : Decs w L U v ds) (hU : U ≤ w.heap.size) :
    Calls Try.prog 33 #[v] w fun e w' => e = .returned (.int .i64 (conCountV ds)) ∧ Below w.heap.size w w' := by
  rcases hb : typesOk ds with _ | _
  · rw [show conCountV ds = -1 by simp [conCountV, hb]]
    have H := Lib.hid hb
    clear hb
    go_enter Try.func33, Try.ntmps33
    go_wp2_with (go_at_call 46; refine (sValidTypes_is _ _ _ _ _ _ hv hU H.out).mono ?_; rintro e w1 ⟨rfl, hB⟩)
    go_ret
    exact ⟨rfl, hB⟩
  · rw [show conCountV ds = (cnt ds ds.length : Int) by simp [conCountV, hb]]
    have H := Lib.hid hb
    have hc := big_of_twelve (cnt_twelve hb)
    clear hb
    go_enter Try.func33, Try.ntmps33
    go_wp2_with (first | (go_at_call 46; refine (sValidTypes_is _ _ _ _ _ _ hv hU H.out).mono ?_; rintro e w1 ⟨rfl, hB⟩; have hv1 := hv.keep (Same.of_below hB hU)) | (go_at_call 64; refine (conCount_any _ _ _ _ _ hv1 hc).mono ?_; rintro e w2 ⟨rfl, rfl⟩))
    go_ret
    exact ⟨rfl, hB⟩
set_option maxHeartbeats 400000 in
theorem conTypeTop (c : Int) (L U : Nat) (ds : List Dec) (v : Value) (w : World) (hv : Decs w L U v ds) (hU : U ≤ w.heap.size) :
    Calls Try.prog 22 #[v, .int .i64 c] w fun e w' => e = .returned (.int .i64 (conTypeV ds c)) ∧ Below w.heap.size w w' := by
  rcases hb : typesOk ds with _ | _
  · rw [show conTypeV ds c = -1 by simp [conTypeV, hb]]
    have H := Lib.hid hb
    clear hb
    go_enter Try.func22, Try.ntmps22
    go_wp2_with (go_at_call 16; refine (validTypes_is _ _ _ _ _ _ hv hU H.out).mono ?_; rintro e w1 ⟨rfl, hB⟩)
    go_ret
    exact ⟨rfl, hB⟩
  · rw [show conTypeV ds c = conTy ds c by simp [conTypeV, hb]]
    have H := Lib.hid hb
    have hc := big_of_twelve (cnt_twelve hb)
    clear hb
    go_enter Try.func22, Try.ntmps22
    go_wp2_with (first | (go_at_call 16; refine (validTypes_is _ _ _ _ _ _ hv hU H.out).mono ?_; rintro e w1 ⟨rfl, hB⟩; have hU1 := Nat.le_trans hU hB.size; have hv1 := hv.keep (Same.of_below hB hU)) | (go_at_call 52; refine (typeOfCon_any _ _ _ _ _ _ hv1 hU1 hc).mono ?_; rintro e w2 ⟨rfl, hB2⟩))
    go_ret
    exact ⟨rfl, hB.trans (hB2.mono hB.size)⟩
set_option maxHeartbeats 400000 in
theorem sConTypeTop (c : Int) (L U : Nat) (ds : List Dec) (v : Value) (w : World) (hv : Decs w L U v ds) (hU : U ≤ w.heap.size) :
    Calls Try.prog 35 #[v, .int .i64 c] w fun e w' => e = .returned (.int .i64 (conTypeV ds c)) ∧ Below w.heap.size w w' := by
  rcases hb : typesOk ds with _ | _
  · rw [show conTypeV ds c = -1 by simp [conTypeV, hb]]
    have H := Lib.hid hb
    clear hb
    go_enter Try.func35, Try.ntmps35
    go_wp2_with (go_at_call 46; refine (sValidTypes_is _ _ _ _ _ _ hv hU H.out).mono ?_; rintro e w1 ⟨rfl, hB⟩)
    go_ret
    exact ⟨rfl, hB⟩
  · rw [show conTypeV ds c = conTy ds c by simp [conTypeV, hb]]
    have H := Lib.hid hb
    have hc := big_of_twelve (cnt_twelve hb)
    clear hb
    go_enter Try.func35, Try.ntmps35
    go_wp2_with (first | (go_at_call 46; refine (sValidTypes_is _ _ _ _ _ _ hv hU H.out).mono ?_; rintro e w1 ⟨rfl, hB⟩; have hv1 := hv.keep (Same.of_below hB hU)) | (go_at_call 66; refine (conType_any _ _ _ _ _ _ hv1 hc).mono ?_; rintro e w2 ⟨rfl, rfl⟩))
    go_ret
    exact ⟨rfl, hB⟩
set_option maxHeartbeats 400000 in
theorem arrowTop (f t : Int) (L U : Nat) (ds : List Dec) (v : Value) (w : World) (hv : Decs w L U v ds) (hU : U ≤ w.heap.size) :
    Calls Try.prog 42 #[v, .int .i64 f, .int .i64 t] w fun e w' => e = .returned (.int .i64 (arrowV ds f t)) ∧ Below w.heap.size w w' := by
  rcases hb : typesOk ds with _ | _
  · rw [show arrowV ds f t = -1 by simp [arrowV, hb]]
    have H := Lib.hid hb
    clear hb
    go_enter Try.func42, Try.ntmps42
    go_wp2_with (go_at_call 16; refine (validTypes_is _ _ _ _ _ _ hv hU H.out).mono ?_; rintro e w1 ⟨rfl, hB⟩)
    go_ret
    exact ⟨rfl, hB⟩
  · rw [show arrowV ds f t = seek ds.length (fun k => isArr f t (nthD ds k)) by simp [arrowV, hb]]
    have H := Lib.hid hb
    clear hb
    go_enter Try.func42, Try.ntmps42
    go_wp2_with (first | (go_at_call 16; refine (validTypes_is _ _ _ _ _ _ hv hU H.out).mono ?_; rintro e w1 ⟨rfl, hB⟩; have hU1 := Nat.le_trans hU hB.size; have hv1 := hv.keep (Same.of_below hB hU)) | (go_at_call 70; refine (arrowBetween_any _ _ _ _ _ _ _ hv1 hU1).mono ?_; rintro e w2 ⟨rfl, hB2⟩))
    go_ret
    exact ⟨rfl, hB.trans (hB2.mono hB.size)⟩
set_option maxHeartbeats 400000 in
theorem sArrowTop (f t : Int) (L U : Nat) (ds : List Dec) (v : Value) (w : World) (hv : Decs w L U v ds) (hU : U ≤ w.heap.size) :
    Calls Try.prog 41 #[v, .int .i64 f, .int .i64 t] w fun e w' => e = .returned (.int .i64 (arrowV ds f t)) ∧ Below w.heap.size w w' := by
  rcases hb : typesOk ds with _ | _
  · rw [show arrowV ds f t = -1 by simp [arrowV, hb]]
    have H := Lib.hid hb
    clear hb
    go_enter Try.func41, Try.ntmps41
    go_wp2_with (go_at_call 46; refine (sValidTypes_is _ _ _ _ _ _ hv hU H.out).mono ?_; rintro e w1 ⟨rfl, hB⟩)
    go_ret
    exact ⟨rfl, hB⟩
  · rw [show arrowV ds f t = seek ds.length (fun k => isArr f t (nthD ds k)) by simp [arrowV, hb]]
    have H := Lib.hid hb
    clear hb
    go_enter Try.func41, Try.ntmps41
    go_wp2_with (first | (go_at_call 46; refine (sValidTypes_is _ _ _ _ _ _ hv hU H.out).mono ?_; rintro e w1 ⟨rfl, hB⟩; have hv1 := hv.keep (Same.of_below hB hU)) | (go_at_call 69; refine (arrowOf_any _ _ _ _ _ _ _ hv1).mono ?_; rintro e w2 ⟨rfl, rfl⟩))
    go_ret
    exact ⟨rfl, hB⟩
end Go.Proofs.Ytmahamlfdegkkaa
