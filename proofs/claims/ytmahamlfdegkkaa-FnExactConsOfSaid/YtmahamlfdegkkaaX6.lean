/- Marks: the exact laws write into what they copied and look whether the answer has turned. -/
import Derived.Test.YtmahamlfdegkkaaX4
import Derived.Test.YtmahamlfdegkkaaOw
namespace Go.Proofs.Ytmahamlfdegkkaa
open Go.RowKit Go.BigFrame
/-- The first j elements are marks from k on. -/
def mk (xs : List Int) (k : Int) (j : Nat) : List Int := (List.range xs.length).map fun i => if i < j then k + (i : Int) else nth xs i
theorem length_mk (xs : List Int) (k : Int) (j : Nat) : (mk xs k j).length = xs.length := by simp [mk]
theorem mk_at {xs : List Int} {k : Int} {j i : Nat} (h : i < (mk xs k j).length) : (mk xs k j)[i] = if i < j then k + (i : Int) else nth xs i := by simp [mk]
theorem mk_zero (xs : List Int) (k : Int) : mk xs k 0 = xs := by
  apply List.ext_getElem (by simp [mk])
  intro i h1 h2
  rw [mk_at, if_neg (by omega), nth_of h2]
theorem mk_step {xs : List Int} {k : Int} {j : Nat} : ((mk xs k j).map (Value.int .i64)).set j (.int .i64 (k + (j : Int))) = (mk xs k (j + 1)).map (Value.int .i64) := by
  apply List.ext_getElem (by simp [mk])
  intro i h1 h2
  rw [List.getElem_set]
  by_cases e : j = i
  · subst e
    rw [if_pos rfl, List.getElem_map, mk_at, if_pos (by omega)]
  · rw [if_neg e, List.getElem_map, List.getElem_map, mk_at, mk_at]
    by_cases h3 : i < j
    · rw [if_pos h3, if_pos (by omega)]
    · rw [if_neg h3, if_neg (by omega)]
theorem only_two {a b c : World} {r : Option Nat} (h : a.grownBy b r) (k : b.grownBy c r) : a.grownBy c r :=
  ⟨k.os.trans h.os, k.tape.trans h.tape, k.output.trans h.output, Nat.le_trans h.size k.size, fun i hi hne => (k.block i (Nat.lt_of_lt_of_le hi h.size) hne).trans (h.block i hi hne)⟩
set_option maxHeartbeats 400000 in
theorem markIntS_any (base : Nat) (xs : List Int) (v : Value) (k : Int) (w : World) (hv : Own w base v xs) (h0 : 0 ≤ k) (h1 : k ≤ 4611686018427387904) (hs : xs.length ≤ 1048576) :
    Calls Try.prog 38 #[v, .int .i64 k] w fun e w' => e = .returned (.int .i64 (k + xs.length)) ∧ Own w' base v (mk xs k xs.length) ∧ w.grownBy w' v.ownBlock ∧ w'.heap.size = w.heap.size := by
  obtain ⟨A, c, rfl, hl, hc⟩ := hv.ints.open_
  go_enter Try.func38, Try.ntmps38
  go_wp2_with fail
  go_loopw [1, 5] (fun q i wr => ∃ j : Nat, j ≤ xs.length ∧ i = .int .i64 j ∧ q = .int .i64 (k + (j : Int)) ∧ wr.ownsRow base 3 1 (.slice A xs.length c) xs.length ((mk xs k j).map (Value.int .i64)) ∧ w.grownBy wr (Value.slice A xs.length c).ownBlock ∧ wr.heap.size = w.heap.size) (fun _ i _ => xs.length - (intOf i).toNat)
  case atStart => exact ⟨0, by omega, rfl, by simp, by rw [mk_zero]; exact hv, World.grownBy.refl _ _, rfl⟩
  case round =>
    obtain ⟨j, hj, rfl, rfl, hown, hg, hz⟩ := hrel
    by_cases hlt : j < xs.length
    · rcases hown.2 with ⟨h', _⟩ | ⟨g, cap, cur, h', hb, hgc, hnc, hcm, hcs, htake⟩
      · injection h' with e1 e2 e3; omega
      · injection h' with e1 e2 e3
        subst e1 e3
        have hq := hown.cellAt j (by omega)
        have hq2 : wr.cell? ⟨g, j, none⟩ = some ((mk xs k j)[j]'(by rw [length_mk]; exact hlt) |> Value.int .i64) := by
          rw [hq, List.getElem?_map, List.getElem?_eq_getElem (by rw [length_mk]; exact hlt)]; rfl
        have hfr := hown.frozenAt j
        have st := hown.stored j (.int .i64 (k + (j : Int)))
        rw [mk_step] at st
        have H := Lib.hid (And.intro st.1 (And.intro (only_two hg st.2) (show (wr.setCell ⟨g, j, none⟩ (.int .i64 (k + (j : Int)))).heap.size = w.heap.size by simp [hz])))
        clear hq hown hg hz st htake hcs hgc
        go_wp2_with fail
        go_roundw
        case rel => exact ⟨j + 1, by omega, by go_num, by rw [show k + ((j + 1 : Nat) : Int) = k + (j : Int) + 1 by omega], H.out⟩
        case measure => simp [intOf]; omega
    · go_wp2_with fail
      go_ret
      obtain rfl : j = xs.length := by omega
      exact ⟨rfl, by unfold Own; rw [length_mk]; exact hown, hg, hz⟩
end Go.Proofs.Ytmahamlfdegkkaa
