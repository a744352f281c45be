/- Contracts of chapter 1: inhabited types, as the model finds them. -/
import Derived.Test.YtgbeongiejppnaaJ1
namespace Go.Proofs.Ytgbeongiejppnaa
open Go.RowKit Go.BigFrame
set_option maxHeartbeats 400000 in
theorem sIsIn_any (L U : Nat) (xs : List Int) (v : Value) (n : Int) (w : World) (hv : Ints w L U v xs) :
    Calls Try.prog 79 #[v, .int .i64 n] w fun e w' => e = .returned (.bool (memI xs n)) ∧ w = w' := by
  obtain ⟨B, d, rfl, hl, hd⟩ := hv.open_
  go_enter Try.func79, Try.ntmps79
  go_wp2_with fail
  go_loop [5] (fun i => ∃ k : Nat, k ≤ xs.length ∧ i = .int .i64 k ∧ Hid ((xs.take k).any (fun x => decide (x = n)) = false)) (fun i => xs.length - (intOf i).toNat)
  case atStart => exact ⟨0, by omega, rfl, by simp [Hid]⟩
  case round =>
    obtain ⟨k, hk, rfl, H⟩ := hrel
    by_cases hlt : k < xs.length
    · obtain ⟨b, o, rfl, _, _, hc⟩ := hv.at_ hlt
      by_cases he : xs[k] = n
      · have heb : (xs[k] == n) = true := by simp [he]
        have He := Lib.hid he
        clear he
        go_wp2_with fail
        go_ret
        exact ⟨ret_bool (any_stop hlt (decide_eq_true He.out)).symm, rfl⟩
      · have heb : (xs[k] == n) = false := by simp [he]
        have He := Lib.hid he
        clear he
        go_wp2_with fail
        exact ⟨⟨k + 1, by omega, by go_num, any_step H hlt (decide_eq_false He.out)⟩, by simp [intOf]; omega⟩
    · go_wp2_with fail
      go_ret
      exact ⟨ret_bool (any_done H hlt).symm, rfl⟩
theorem sIsIn_is (b : Bool) (L U : Nat) (xs : List Int) (v : Value) (n : Int) (w : World) (hv : Ints w L U v xs) (h : memI xs n = b) :
    Calls Try.prog 79 #[v, .int .i64 n] w fun e w' => e = .returned (.bool b) ∧ w = w' := by
  subst h; exact sIsIn_any L U xs v n w hv
set_option maxHeartbeats 1600000 in
theorem anyFull_any (L U L' U' : Nat) (a b : Int) (cs : List (List Int)) (S : List Int) (v v' : Value) (w : World) (hv : Cons w L U v cs) (hU : U ≤ w.heap.size) (hv' : Ints w L' U' v' S) (hU' : U' ≤ w.heap.size) :
    Calls Try.prog 50 #[.agg #[.int .i64 a, .int .i64 b, v], v'] w fun e w' => e = .returned (.bool (fullB ⟨a, b, cs⟩ S)) ∧ Below w.heap.size w w' := by
  obtain ⟨B, d, rfl, hl, hd⟩ := hv.open_
  obtain ⟨B', d', rfl, hl', hd'⟩ := hv'.open_
  obtain ⟨W0, hW0⟩ : ∃ W0, W0 = w.alloc (.cells #[.int .i64 a, .int .i64 b, .slice B cs.length d] 30) := ⟨_, rfl⟩
  have hB0 : Below w.heap.size w W0 := by rw [hW0]; exact (Below.refl _ w).alloc (Nat.le_refl _) _
  have hz0 : W0.heap.size = w.heap.size + 1 := by rw [hW0]; simp
  have cb := cell_of_row W0 w.heap.size 2 _ _ (0, 0) (show W0.heap[w.heap.size]? = some (.cells #[.int .i64 a, .int .i64 b, .slice B cs.length d] 30 (0, 0)) by rw [hW0]; exact alloc_last _ _ _ rfl)
  simp only [List.getElem?_toArray, List.getElem?_cons_zero, List.getElem?_cons_succ] at cb
  have hv0 := hv.keep (Same.of_below hB0 hU)
  have hs0 := hv'.keep (Same.of_below hB0 hU')
  go_enter Try.func50, Try.ntmps50
  go_wp2_with fail
  rw [← hW0]
  clear hW0
  go_loopw [5] (fun i wr => ∃ k : Nat, k ≤ cs.length ∧ i = .int .i64 k ∧ Hid ((cs.take k).any (fun c => allI c S) = false) ∧ wr = W0) (fun i _ => cs.length - (intOf i).toNat)
  case atStart => exact ⟨0, by omega, rfl, by simp [Hid], rfl⟩
  case round =>
    obtain ⟨k, hk, rfl, H, rfl⟩ := hrel
    by_cases hlt : k < cs.length
    · obtain ⟨bb, o, A1, c1, rfl, _, _, hc, hu⟩ := hv0.at_ hlt
      obtain ⟨_, _, eu, hul, huc⟩ := hu.open_
      cases eu
      go_wp2_with fail
      go_loopw [6, 7] (fun f i wq => ∃ (j : Nat) (t : Bool), j ≤ (cs[k]).length ∧ i = .int .i64 j ∧ f = .bool t ∧ Hid ((cs[k].take j).all (fun x => memI S x) = t) ∧ wq = wr) (fun _ i _ => (cs[k]).length - (intOf i).toNat)
      case atStart => exact ⟨0, true, by omega, rfl, rfl, by simp [Hid], rfl⟩
      case round =>
        obtain ⟨j, t, hj, rfl, rfl, HJ, rfl⟩ := hrel
        by_cases hjt : j < (cs[k]).length
        · obtain ⟨b2, o2, rfl, _, _, hq⟩ := hu.at_ hjt
          rcases t with _ | _
          · have HN : Hid ((cs[k].take (j + 1)).all (fun x => memI S x) = false) := by show _ = _; rw [all_take_succ _ _ _ hjt, HJ.out]; rfl
            go_wp2_with fail
            go_roundw
            case rel => exact ⟨j + 1, false, by omega, by go_num, rfl, HN, by first | rfl | trivial⟩
            case measure => simp [intOf]; omega
          · rcases hm : memI S cs[k][j] with _ | _
            · have HM := Lib.hid hm
              have HN : Hid ((cs[k].take (j + 1)).all (fun x => memI S x) = false) := by show _ = _; rw [all_take_succ _ _ _ hjt, hm, Bool.and_false]
              clear hm
              go_wp2_with fail
              refine (sIsIn_is _ _ _ _ _ _ wr hs0 HM.out).mono ?_
              rintro e w2 ⟨rfl, rfl⟩
              go_wp2_with fail
              go_roundw
              case rel => exact ⟨j + 1, false, by omega, by go_num, rfl, HN, by first | rfl | trivial⟩
              case measure => simp [intOf]; omega
            · have HM := Lib.hid hm
              have HN : Hid ((cs[k].take (j + 1)).all (fun x => memI S x) = true) := by show _ = _; rw [all_take_succ _ _ _ hjt, hm, HJ.out]; rfl
              clear hm
              go_wp2_with fail
              refine (sIsIn_is _ _ _ _ _ _ wr hs0 HM.out).mono ?_
              rintro e w2 ⟨rfl, rfl⟩
              go_wp2_with fail
              go_roundw
              case rel => exact ⟨j + 1, true, by omega, by go_num, rfl, HN, by first | rfl | trivial⟩
              case measure => simp [intOf]; omega
        · have hall : allI cs[k] S = t := by have := HJ.out; rwa [List.take_of_length_le (by omega)] at this
          rcases t with _ | _
          · have HA := Lib.hid hall
            clear hall
            go_wp2_with fail
            go_roundw
            case rel => exact ⟨k + 1, by omega, by go_num, any_step H hlt HA.out, by first | rfl | trivial⟩
            case measure => simp [intOf]; omega
          · have HA := Lib.hid hall
            clear hall
            go_wp2_with fail
            go_ret
            exact ⟨ret_bool (by unfold fullB anyI; rw [any_stop hlt HA.out, Bool.or_true]), hB0⟩
    · have HN : Hid (anyI cs S = false) := any_done H hlt
      by_cases hp : cs.length = 0
      · have hq : cs = [] := List.eq_nil_of_length_eq_zero hp
        have HP := Lib.hid hp
        subst hq
        go_wp2_with fail
        go_ret
        exact ⟨ret_bool (by unfold fullB; simp), hB0⟩
      · go_wp2_with fail
        go_ret
        exact ⟨ret_bool (by unfold fullB; rw [HN.out, Bool.or_false]; simp [hp]), hB0⟩
end Go.Proofs.Ytgbeongiejppnaa
