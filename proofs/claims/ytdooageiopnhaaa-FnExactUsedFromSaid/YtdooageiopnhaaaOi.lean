/- Lists of ints as the exact laws take them: their size, their equality, their copies, marks on them. -/
import Derived.Test.YtdooageiopnhaaaBk
import Derived.Test.YtdooageiopnhaaaOw
namespace Go.Proofs.Ytdooageiopnhaaa
open Go.RowKit Go.BigFrame
theorem infoI : (Try.prog.info? 3).map (fun i => (i.zero, i.size, i.bytes)) = some (some (.int .i64 0), 1, 8) := by kernel_rfl
def OInts (w : World) (L U : Nat) (v : Value) (xs : List Int) : Prop := Blk w L U 3 v xs.length (xs.map (Value.int .i64))
theorem OInts.keep {w w' : World} {L U : Nat} {v : Value} {xs : List Int} (h : OInts w L U v xs) (s : Same L U w w') : OInts w' L U v xs := Blk.keep h s
theorem OInts.wide {w : World} {L U L' U' : Nat} {v : Value} {xs : List Int} (h : OInts w L U v xs) (hL : L' ≤ L) (hU : U ≤ U') : OInts w L' U' v xs := Blk.wide h hL hU
theorem OInts.ints {w : World} {L U : Nat} {v : Value} {xs : List Int} (h : OInts w L U v xs) : Ints w L U v xs := by
  unfold OInts at h
  rw [← cellsOf_ints] at h
  obtain ⟨g, e, r⟩ := h.row
  exact ⟨_, _, e, r⟩
theorem szIntS_any (L U : Nat) (xs : List Int) (v : Value) (left : Int) (w : World) (hv : Ints w L U v xs) (h0 : 0 ≤ left) (h1 : left ≤ 1048576) :
    Calls Try.prog 37 #[v, .int .i64 left] w fun e w' => ∃ r : Int, e = .returned (.int .i64 r) ∧ w = w' ∧ (r = -1 ∨ (0 ≤ r ∧ r ≤ left ∧ xs.length ≤ 1048576)) := by
  obtain ⟨B, d, rfl, hl, hd⟩ := hv.open_
  by_cases hs : (xs.length : Int) ≤ left
  · go_enter Try.func37, Try.ntmps37
    go_wp2_with fail
    go_ret
    exact ⟨_, rfl, rfl, .inr ⟨by omega, by omega, by omega⟩⟩
  · go_enter Try.func37, Try.ntmps37
    go_wp2_with fail
    go_ret
    exact ⟨_, rfl, rfl, .inl rfl⟩
/-! Equality, where both are the same -/
set_option maxHeartbeats 400000 in
theorem eqIntS_same (L U L' U' : Nat) (xs : List Int) (v v' : Value) (w : World) (hv : Ints w L U v xs) (hv' : Ints w L' U' v' xs) :
    Calls Try.prog 9 #[v, v'] w fun e w' => e = .returned (.bool true) ∧ Below w.heap.size w w' := by
  obtain ⟨B, d, rfl, hl, hd⟩ := hv.open_
  obtain ⟨B', d', rfl, hl', hd'⟩ := hv'.open_
  go_enter Try.func9, Try.ntmps9
  go_wp2_with fail
  go_loopw [5] (fun i wr => ∃ k m : Nat, k ≤ xs.length ∧ i = .int .i64 k ∧ wr = w.drewN m) (fun i _ => xs.length - (intOf i).toNat)
  case atStart => exact ⟨0, 0, by omega, rfl, rfl⟩
  case round =>
    obtain ⟨k, m, hk, rfl, rfl⟩ := hrel
    by_cases hlt : k < xs.length
    · obtain ⟨b, o, rfl, _, _, hc⟩ := hv.at_ hlt
      obtain ⟨b', o', rfl, _, _, hc'⟩ := hv'.at_ hlt
      have k0 : (0 : Int) ≤ (k : Int) := by omega
      have k1 : (k : Int) < (xs.length : Int) := by omega
      go_wp2_with fail
      go_quiet (fail)
      go_wp2_with fail
      go_roundw
      case rel => exact ⟨k + 1, _, by omega, by go_num, rfl⟩
      case measure => simp [intOf]; omega
    · go_wp2_with fail
      go_ret
      exact ⟨rfl, below_drewN (Below.refl _ _) _⟩
set_option maxHeartbeats 400000 in
theorem toIntS_any (L U : Nat) (xs : List Int) (v : Value) (w : World) (hv : Ints w L U v xs) (hU : U ≤ w.heap.size) (hs : xs.length ≤ 1048576) :
    Calls Try.prog 39 #[v] w fun e w' => ∃ u, e = .returned u ∧ Below w.heap.size w w' ∧ OInts w' w.heap.size w'.heap.size u xs := by
  obtain ⟨B, d, rfl, hl, hd⟩ := hv.open_
  obtain ⟨i0, hi, hz0, hz1, hz2⟩ := info_parts infoI
  go_enter Try.func39, Try.ntmps39
  go_wp2_with (at_make; refine wpList_make_full _ rfl _ _ 26 rfl w.heap.size 3 i0 (.int .i64 0) 1 Try.underlying26 hi hz0 hz1 .i64 .i64 _ _ xs.length rfl rfl rfl rfl (by rw [hz2]; omega) (by unfold maxLen; omega) (Nat.le_refl _) ?_)
  intro w1 hown hg
  have hB1 : Below w.heap.size w w1 := (Below.refl _ w).grown hg (Nat.le_refl _) (fun k e => by cases e)
  have hF := Fill.made1 hown (fun i _ => .int .i64 (nth xs i))
  have hsz : w.heap.size < w1.heap.size := (hown.lt _ rfl).2
  clear hown hg
  go_wp2_with fail
  go_loopw [4] (fun i wr => ∃ k : Nat, k ≤ xs.length ∧ i = .int .i64 k ∧ Fill wr w.heap.size 1 xs.length k 3 (fun i _ => .int .i64 (nth xs i)) (fun j => #[Value.int .i64 0][j]!) ∧ Below w.heap.size w wr ∧ w.heap.size < wr.heap.size) (fun i _ => xs.length - (intOf i).toNat)
  case atStart => exact ⟨0, by omega, rfl, hF, hB1, hsz⟩
  case round =>
    obtain ⟨k, hk, rfl, hF, hB, hsz⟩ := hrel
    by_cases hlt : k < xs.length
    · obtain ⟨b, o, rfl, _, _, hc⟩ := (hv.keep (Same.of_below hB hU)).at_ hlt
      have hq := hF.cell hlt (j := 0) (by omega)
      have hfr := hF.free k
      rw [Nat.mul_one, Nat.add_zero] at hq
      have hF2 := hF.one hlt (u := .int .i64 xs[k]) (by rw [nth_of hlt])
      have hB2 := hB.setCell (p := ⟨w.heap.size, k, none⟩) (Nat.le_refl _) (.int .i64 xs[k])
      clear hF hB
      go_wp2_with fail
      go_roundw
      case rel => exact ⟨k + 1, by omega, by go_num, hF2, hB2, by simpa using hsz⟩
      case measure => simp [intOf]; omega
    · go_wp2_with fail
      go_ret
      obtain rfl : k = xs.length := by omega
      have := hF.blk (L := w.heap.size) (U := wr.heap.size) (Nat.le_refl _) hsz (by unfold maxLen; omega)
      rw [cellsOf_ints] at this
      exact ⟨_, rfl, hB, this⟩
/-- The first j elements are marks from k on. -/
def mk (xs : List Int) (k : Int) (j : Nat) : List Int := (List.range xs.length).map fun i => if i < j then k + (i : Int) else nth xs i
theorem length_mk (xs : List Int) (k : Int) (j : Nat) : (mk xs k j).length = xs.length := by simp [mk]
theorem mk_at {xs : List Int} {k : Int} {j i : Nat} (h : i < (mk xs k j).length) : (mk xs k j)[i] = if i < j then k + (i : Int) else nth xs i := by simp [mk]
theorem mk_zero (xs : List Int) (k : Int) : mk xs k 0 = xs := by
  apply List.ext_getElem (by simp [mk])
  intro i h1 h2
  rw [mk_at, if_neg (by omega), nth_of h2]
theorem mk_step {xs : List Int} {k : Int} {j : Nat} : ((mk xs k j).map (Value.int .i64)).set j (.int .i64 (k + (j : Int))) = (mk xs k (j + 1)).map (Value.int .i64) := by
  apply List.ext_getElem (by simp [mk])
  intro i h1 h2
  rw [List.getElem_set]
  by_cases e : j = i
  · subst e
    rw [if_pos rfl, List.getElem_map, mk_at, if_pos (by omega)]
  · rw [if_neg e, List.getElem_map, List.getElem_map, mk_at, mk_at]
    by_cases h3 : i < j
    · rw [if_pos h3, if_pos (by omega)]
    · rw [if_neg h3, if_neg (by omega)]
theorem only_two {a b c : World} {r : Option Nat} (h : a.grownBy b r) (k : b.grownBy c r) : a.grownBy c r :=
  ⟨k.os.trans h.os, k.tape.trans h.tape, k.output.trans h.output, Nat.le_trans h.size k.size, fun i hi hne => (k.block i (Nat.lt_of_lt_of_le hi h.size) hne).trans (h.block i hi hne)⟩
set_option maxHeartbeats 400000 in
theorem markIntS_any (base : Nat) (xs : List Int) (v : Value) (k : Int) (w : World) (hv : Own w base v xs) (h0 : 0 ≤ k) (h1 : k ≤ 4611686018427387904) (hs : xs.length ≤ 1048576) :
    Calls Try.prog 12 #[v, .int .i64 k] w fun e w' => e = .returned (.int .i64 (k + xs.length)) ∧ Own w' base v (mk xs k xs.length) ∧ w.grownBy w' v.ownBlock ∧ w'.heap.size = w.heap.size := by
  obtain ⟨A, c, rfl, hl, hc⟩ := hv.ints.open_
  go_enter Try.func12, Try.ntmps12
  go_wp2_with fail
  go_loopw [1, 5] (fun q i wr => ∃ j : Nat, j ≤ xs.length ∧ i = .int .i64 j ∧ q = .int .i64 (k + (j : Int)) ∧ wr.ownsRow base 3 1 (.slice A xs.length c) xs.length ((mk xs k j).map (Value.int .i64)) ∧ w.grownBy wr (Value.slice A xs.length c).ownBlock ∧ wr.heap.size = w.heap.size) (fun _ i _ => xs.length - (intOf i).toNat)
  case atStart => exact ⟨0, by omega, rfl, by simp, by rw [mk_zero]; exact hv, World.grownBy.refl _ _, rfl⟩
  case round =>
    obtain ⟨j, hj, rfl, rfl, hown, hg, hz⟩ := hrel
    by_cases hlt : j < xs.length
    · rcases hown.2 with ⟨h', _⟩ | ⟨g, cap, cur, h', hb, hgc, hnc, hcm, hcs, htake⟩
      · injection h' with e1 e2 e3; omega
      · injection h' with e1 e2 e3
        subst e1 e3
        have hq := hown.cellAt j (by omega)
        have hq2 : wr.cell? ⟨g, j, none⟩ = some ((mk xs k j)[j]'(by rw [length_mk]; exact hlt) |> Value.int .i64) := by
          rw [hq, List.getElem?_map, List.getElem?_eq_getElem (by rw [length_mk]; exact hlt)]; rfl
        have hfr := hown.frozenAt j
        have st := hown.stored j (.int .i64 (k + (j : Int)))
        rw [mk_step] at st
        have H := Lib.hid (And.intro st.1 (And.intro (only_two hg st.2) (show (wr.setCell ⟨g, j, none⟩ (.int .i64 (k + (j : Int)))).heap.size = w.heap.size by simp [hz])))
        clear hq hown hg hz st htake hcs hgc
        go_wp2_with fail
        go_roundw
        case rel => exact ⟨j + 1, by omega, by go_num, by rw [show k + ((j + 1 : Nat) : Int) = k + (j : Int) + 1 by omega], H.out⟩
        case measure => simp [intOf]; omega
    · go_wp2_with fail
      go_ret
      obtain rfl : j = xs.length := by omega
      exact ⟨rfl, by unfold Own; rw [length_mk]; exact hown, hg, hz⟩
set_option maxHeartbeats 400000 in
theorem heldIntS_any (L U : Nat) (xs : List Int) (v : Value) (k : Int) (w : World) (hv : Ints w L U v (mk xs k xs.length)) (h0 : 0 ≤ k) (h1 : k ≤ 4611686018427387904) (hs : xs.length ≤ 1048576) :
    Calls Try.prog 13 #[v, .int .i64 k] w fun e w' => e = .returned (.int .i64 (k + xs.length)) ∧ w = w' := by
  obtain ⟨A, c, hA, hl, hc⟩ := hv.open_
  rw [length_mk] at hA hl
  subst hA
  go_enter Try.func13, Try.ntmps13
  go_wp2_with fail
  go_loop [1, 5] (fun q i => ∃ j : Nat, j ≤ xs.length ∧ i = .int .i64 j ∧ q = .int .i64 (k + (j : Int))) (fun _ i => xs.length - (intOf i).toNat)
  case atStart => exact ⟨0, by omega, rfl, by simp⟩
  case round =>
    obtain ⟨j, hj, rfl, rfl⟩ := hrel
    by_cases hlt : j < xs.length
    · obtain ⟨b, o, rfl, _, _, hq⟩ := hv.at_ (k := j) (by rw [length_mk]; exact hlt)
      rw [mk_at, if_pos hlt] at hq
      go_wp2_with fail
      exact ⟨⟨j + 1, by omega, by go_num, by rw [show k + ((j + 1 : Nat) : Int) = k + (j : Int) + 1 by omega]⟩, by simp [intOf]; omega⟩
    · go_wp2_with fail
      go_ret
      obtain rfl : j = xs.length := by omega
      exact ⟨rfl, rfl⟩
theorem OInts.own {w : World} {L U : Nat} {v : Value} {xs : List Int} (h : OInts w L U v xs) : Own w L v xs := by
  obtain ⟨g, a, rfl, h1, h2, h3, h4, h5⟩ := h
  have hz : a.size = xs.length := by have := congrArg List.length h5; simpa using this
  exact ⟨by simp, .inr ⟨g, xs.length, a, rfl, h1, h4, Nat.le_refl _, h3, by rw [hz, Nat.mul_one], by rw [Nat.mul_one, h5, List.take_of_length_le (by simp)]⟩⟩
end Go.Proofs.Ytdooageiopnhaaa
