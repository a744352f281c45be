/- Contracts of chapter 1: copies, constructors of a type. -/
import Derived.Test.YtdooageiopnhaabD
import Derived.Test.YtdooageiopnhaabOw
import Derived.Laws.AppendOwn
import Derived.Laws.AppendOwnNone
import Derived.Maps.AppendAt
namespace Go.Proofs.Ytdooageiopnhaab
open Go.RowKit
theorem infoInt : (Try.prog.info? 3).map (fun i => (i.zero, i.size, i.bytes)) = some (some (.int .i64 0), 1, 8) := by kernel_rfl
set_option maxHeartbeats 400000 in
theorem copyInts_own (L U : Nat) (xs : List Int) (v : Value) (w : World) (hv : Ints w L U v xs) (hU : U ≤ w.heap.size) (hb : xs.length ≤ 1000000000) :
    Calls Try.prog 119 #[v] w fun e w' => ∃ u, e = .returned u ∧ Below w.heap.size w w' ∧ Own w' w.heap.size u xs := by
  obtain ⟨B, d, rfl, hl, hd⟩ := hv.open_
  obtain ⟨i0, hi, hz0, hz1, hz2⟩ := info_parts infoInt
  go_enter Try.func119, Try.ntmps119
  go_wp2_with fail
  go_loopw [3, 8] (fun u i wr => ∃ k : Nat, k ≤ xs.length ∧ i = .int .i64 k ∧ wr.ownsRow w.heap.size 3 1 u k ((xs.take k).map (Value.int .i64)) ∧ Below w.heap.size w wr) (fun _ i _ => xs.length - (intOf i).toNat)
  case atStart => exact ⟨0, by omega, rfl, World.ownsRow_nil _ _ _ _, Below.refl _ _⟩
  case round =>
    obtain ⟨k, hk, rfl, hown, hB⟩ := hrel
    have hz := hB.size
    by_cases hlt : k < xs.length
    · obtain ⟨b, o, rfl, _, _, hc⟩ := (hv.keep (Same.of_below hB hU)).at_ hlt
      go_wp2_with (at_builtin; refine wpList_append_own _ rfl _ _ 48 rfl w.heap.size 3 i0 (.int .i64 0) 1 8 Try.underlying48 hi hz0 hz1 hz2 rfl (by decide) _ _ _ rfl (hown.alloc _) ⟨wr.heap.size, 0, none⟩ 1 1 [.int .i64 xs[k]] rfl rfl ?c1 ?c2 ?c3 ?c4 ?c5 ?_)
      case c1 => exact cell_one_new _ _ _
      case c2 => simp [Value.oneCell']
      case c3 => unfold maxLen; omega
      case c4 => omega
      case c5 => simp; omega
      intro u' w1 hown1 hg _
      have hB1 : Below w.heap.size w w1 := Below.own (hB.alloc hz _) (hown.alloc _) hg (Nat.le_refl _) (by simp; omega)
      have hown2 : w1.ownsRow w.heap.size 3 1 u' (k + 1) ((xs.take (k + 1)).map (Value.int .i64)) := by
        rw [List.take_succ_eq_append_getElem hlt, List.map_append, List.map_take]; exact hown1
      clear hown hown1 hg hv hc
      go_wp2_with fail
      go_roundw
      case rel => exact ⟨k + 1, by omega, by go_num, hown2, hB1⟩
      case measure => simp [intOf]; omega
    · go_wp2_with fail
      go_ret
      rw [List.take_of_length_le (by omega)] at hown
      exact ⟨_, rfl, hB, Own.of hown⟩
theorem copyInts_any (L U : Nat) (xs : List Int) (v : Value) (w : World) (hv : Ints w L U v xs) (hU : U ≤ w.heap.size) (hb : xs.length ≤ 1000000000) :
    Calls Try.prog 119 #[v] w fun e w' => ∃ u, e = .returned u ∧ Below w.heap.size w w' ∧ Ints w' w.heap.size w'.heap.size u xs :=
  (copyInts_own L U xs v w hv hU hb).mono fun _ _ ⟨u, h1, h2, h3⟩ => ⟨u, h1, h2, h3.ints⟩
set_option maxHeartbeats 400000 in
theorem sCopyInts_any (L U : Nat) (xs : List Int) (v : Value) (w : World) (hv : Ints w L U v xs) (hU : U ≤ w.heap.size) (hb : xs.length ≤ 1000000000) :
    Calls Try.prog 105 #[v] w fun e w' => ∃ u, e = .returned u ∧ Below w.heap.size w w' ∧ Ints w' w.heap.size w'.heap.size u xs := by
  obtain ⟨B, d, rfl, hl, hd⟩ := hv.open_
  obtain ⟨i0, hi, hz0, hz1, hz2⟩ := info_parts infoInt
  go_enter Try.func105, Try.ntmps105
  have hr : ∃ A', Row (w.alloc (.cells #[] 3)) L U 1 B xs.length d (fun i _ => .int .i64 (nth xs i)) ∧ A' = B := by
    obtain ⟨A, c, e, r⟩ := hv
    injection e with e1 e2 e3
    subst e1 e3
    exact ⟨_, r.keep (Same.of_below ((Below.refl w.heap.size w).alloc (Nat.le_refl _) _) hU), rfl⟩
  obtain ⟨_, hr, _⟩ := hr
  have hown := World.ownsRow_lit (base := w.heap.size) (e := 3) (size := 1) w #[] 0 (Nat.le_refl _) (by simp [maxLen]) rfl
  go_wp2_with (at_builtin; refine wpList_append_row rfl _ _ 48 rfl w.heap.size 3 i0 (.int .i64 0) 1 8 Try.underlying48 hi hz0 hz1 hz2 rfl (by decide) _ _ _ rfl hown L U _ _ _ _ rfl hr ?c2 ?c3 ?c4 ?c5 ?_)
  case c2 => intros; rfl
  case c3 => unfold maxLen; omega
  case c4 => omega
  intro u' w1 hown1 hg
  have hB1 : Below w.heap.size w w1 := Below.own ((Below.refl w.heap.size w).alloc (Nat.le_refl _) _) hown hg (Nat.le_refl _) (by simp)
  rw [cellsOf_ints] at hown1
  go_wp2_with fail
  go_ret
  exact ⟨_, rfl, hB1, ints_of_own hown1⟩
end Go.Proofs.Ytdooageiopnhaab
