/- Contracts of chapter 2, as the model types: a scope with more variables; kids against a list of types. -/
import Derived.Test.YtihmkaodjpgikaaGreatPu1
namespace Go.Proofs.YtihmkaodjpgikaaGreat
open Go.RowKit Go.BigFrame
set_option maxHeartbeats 400000 in
theorem sCopyInts_own (L U : Nat) (xs : List Int) (v : Value) (w : World) (hv : Ints w L U v xs) (hU : U ≤ w.heap.size) (hb : xs.length ≤ 1000000000) :
    Calls Tryz.prog 73 #[v] w fun e w' => ∃ u, e = .returned u ∧ Below w.heap.size w w' ∧ Own w' w.heap.size u xs := by
  obtain ⟨B, d, rfl, hl, hd⟩ := hv.open_
  obtain ⟨i0, hi, hz0, hz1, hz2⟩ := info_parts infoInt
  go_enter Tryz.func73, Tryz.ntmps73
  have hr : ∃ A', Row (w.alloc (.cells #[] 3)) L U 1 B xs.length d (fun i _ => .int .i64 (nth xs i)) ∧ A' = B := by
    obtain ⟨A, c, e, r⟩ := hv
    injection e with e1 e2 e3
    subst e1 e3
    exact ⟨_, r.keep (Same.of_below ((Below.refl w.heap.size w).alloc (Nat.le_refl _) _) hU), rfl⟩
  obtain ⟨_, hr, _⟩ := hr
  have hown := World.ownsRow_lit (base := w.heap.size) (e := 3) (size := 1) w #[] 0 (Nat.le_refl _) (by simp [maxLen]) rfl
  go_wp2_with (at_builtin; refine wpList_append_row rfl _ _ 27 rfl w.heap.size 3 i0 (.int .i64 0) 1 8 Tryz.underlying27 hi hz0 hz1 hz2 rfl (by decide) _ _ _ rfl hown L U _ _ _ _ rfl hr ?c2 ?c3 ?c4 ?c5 ?_)
  case c2 => intros; rfl
  case c3 => unfold maxLen; omega
  case c4 => omega
  intro u' w1 hown1 hg
  have hB1 : Below w.heap.size w w1 := Below.own ((Below.refl w.heap.size w).alloc (Nat.le_refl _) _) hown hg (Nat.le_refl _) (by simp)
  rw [cellsOf_ints] at hown1
  go_wp2_with fail
  go_ret
  exact ⟨_, rfl, hB1, Own.of hown1⟩
set_option maxHeartbeats 800000 in
theorem extend_any (L U L' U' : Nat) (xs ys : List Int) (v v' : Value) (w : World) (hv : Ints w L U v xs) (hU : U ≤ w.heap.size) (hv' : Ints w L' U' v' ys) (hU' : U' ≤ w.heap.size) (hb : xs.length ≤ 2000000) (hb' : ys.length ≤ 2000000) :
    Calls Tryz.prog 54 #[v, v'] w fun e w' => ∃ u, e = .returned u ∧ Below w.heap.size w w' ∧ Ints w' w.heap.size w'.heap.size u (xs ++ ys) := by
  obtain ⟨i0, hi, hz0, hz1, hz2⟩ := info_parts infoInt
  obtain ⟨B', d', rfl, hl', hd'⟩ := hv'.open_
  have CK := Lib.hid (sCopyInts_own L U xs v w hv hU (by omega))
  obtain ⟨B, d, rfl, hl, hd⟩ := hv.open_
  clear hv
  go_enter Tryz.func54, Tryz.ntmps54
  go_wp2_with fail
  refine CK.out.mono ?_
  rintro e w1 ⟨u, rfl, hB, hown⟩
  have hr : ∃ A', Row w1 L' U' 1 B' ys.length d' (fun i _ => .int .i64 (nth ys i)) ∧ A' = B' := by
    obtain ⟨A, c, e, r⟩ := hv'
    injection e with e1 e2 e3
    subst e1 e3
    exact ⟨_, r.keep (Same.of_below hB hU'), rfl⟩
  obtain ⟨_, hr, _⟩ := hr
  have hz := hB.size
  have hown : w1.ownsRow w.heap.size 3 1 u xs.length (xs.map (Value.int .i64)) := hown
  clear hv'
  go_wp2_with (at_builtin; refine wpList_append_row rfl (.tmp 6) (.tmp 7) 27 rfl w.heap.size 3 i0 (.int .i64 0) 1 8 Tryz.underlying27 hi hz0 hz1 hz2 rfl (by decide) _ _ _ rfl hown L' U' _ _ _ _ rfl hr ?c2 ?c3 ?c4 ?c5 ?_)
  case c2 => intros; rfl
  case c3 => unfold maxLen; omega
  case c4 => omega
  case c5 => exact hz
  intro u' w2 hown1 hg
  have hB1 : Below w.heap.size w w2 := Below.own hB hown hg (Nat.le_refl _) hz
  rw [cellsOf_ints, ← List.map_append] at hown1
  go_wp2_with fail
  go_ret
  exact ⟨_, rfl, hB1, ints_of_own hown1⟩
theorem allOf_is {p : Pg} {vars ts : List Int} {ks : List Ex} : (decide (ks.length = ts.length) && upTo ts.length fun k => decide ((nthX ks k).ty p vars = nth ts k)) = decide (tysL p vars ks = ts) := by
  by_cases h : tysL p vars ks = ts
  · have hl : ks.length = ts.length := by rw [← h, length_tysL]
    rw [decide_eq_true h, decide_eq_true hl, Bool.true_and]
    unfold upTo
    rw [List.all_eq_true]
    intro k hk
    rw [List.mem_range] at hk
    rw [decide_eq_true_eq, ← h, nth_tysL p vars (by omega)]
  · rw [decide_eq_false h]
    by_cases hl : ks.length = ts.length
    · rw [decide_eq_true hl, Bool.true_and]
      rcases hu : upTo ts.length (fun k => decide ((nthX ks k).ty p vars = nth ts k)) with _ | _
      · rfl
      · exfalso
        refine h (List.ext_getElem (by rw [length_tysL, hl]) fun i h1 h2 => ?_)
        have := of_decide_eq_true (upTo_at hu h2)
        rw [← nth_of h1, ← nth_of h2, ← this, nth_tysL p vars (by omega)]
    · rw [decide_eq_false hl, Bool.false_and]
theorem allInts_is {p : Pg} {vars : List Int} {ks : List Ex} (n : Nat) : (decide (ks.length = n) && upTo n fun k => decide ((nthX ks k).ty p vars = 0)) = decide (tysL p vars ks = List.replicate n 0) := by
  rw [← allOf_is, List.length_replicate]
  congr 1
  unfold upTo
  rw [Bool.eq_iff_iff, List.all_eq_true, List.all_eq_true]
  constructor
  · intro h k hk
    have := h k hk
    rw [List.mem_range] at hk
    rw [nth_of (by simpa using hk), List.getElem_replicate]
    exact this
  · intro h k hk
    have := h k hk
    rw [List.mem_range] at hk
    rw [nth_of (by simpa using hk), List.getElem_replicate] at this
    exact this
end Go.Proofs.YtihmkaodjpgikaaGreat
