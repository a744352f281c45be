/- Contracts of chapter 1: inhabited types. -/
import Derived.Test.YtgbeongiejppnaaJ0
import Derived.Test.YtgbeongiejppnaaGa
import Derived.Test.YtgbeongiejppnaaG
namespace Go.Proofs.Ytgbeongiejppnaa
open Go.RowKit Go.BigFrame
set_option maxHeartbeats 400000 in
theorem hasInt_any (L U : Nat) (xs : List Int) (v : Value) (n : Int) (w : World) (hv : Ints w L U v xs) :
    Calls Try.prog 126 #[v, .int .i64 n] w fun e w' => e = .returned (.bool (memI xs n)) ∧ w = w' := by
  obtain ⟨B, d, rfl, hl, hd⟩ := hv.open_
  go_enter Try.func126, Try.ntmps126
  go_wp2_with fail
  go_loop [9] (fun i => ∃ k : Nat, k ≤ xs.length ∧ i = .int .i64 k ∧ Hid ((xs.take k).any (fun x => decide (x = n)) = false)) (fun i => xs.length - (intOf i).toNat)
  case atStart => exact ⟨0, by omega, rfl, by simp [Hid]⟩
  case round =>
    obtain ⟨k, hk, rfl, H⟩ := hrel
    by_cases hlt : k < xs.length
    · obtain ⟨b, o, rfl, _, _, hc⟩ := hv.at_ hlt
      by_cases he : xs[k] = n
      · have heb : (xs[k] == n) = true := by simp [he]
        have He := Lib.hid he
        clear he
        go_wp2_with fail
        go_ret
        exact ⟨ret_bool (any_stop hlt (decide_eq_true He.out)).symm, rfl⟩
      · have heb : (xs[k] == n) = false := by simp [he]
        have He := Lib.hid he
        clear he
        go_wp2_with fail
        exact ⟨⟨k + 1, by omega, by go_num, any_step H hlt (decide_eq_false He.out)⟩, by simp [intOf]; omega⟩
    · go_wp2_with fail
      go_ret
      exact ⟨ret_bool (any_done H hlt).symm, rfl⟩
set_option maxHeartbeats 400000 in
theorem allIn_any (L U L' U' : Nat) (xs S : List Int) (v v' : Value) (w : World) (hv : Ints w L U v xs) (hv' : Ints w L' U' v' S) :
    Calls Try.prog 105 #[v, v'] w fun e w' => e = .returned (.bool (allI xs S)) ∧ w = w' := by
  obtain ⟨B, d, rfl, hl, hd⟩ := hv.open_
  obtain ⟨B', d', rfl, hl', hd'⟩ := hv'.open_
  go_enter Try.func105, Try.ntmps105
  go_wp2_with fail
  go_loop [9] (fun i => ∃ k : Nat, k ≤ xs.length ∧ i = .int .i64 k ∧ Hid ((xs.take k).all (fun t => memI S t) = true)) (fun i => xs.length - (intOf i).toNat)
  case atStart => exact ⟨0, by omega, rfl, by simp [Hid]⟩
  case round =>
    obtain ⟨k, hk, rfl, H⟩ := hrel
    by_cases hlt : k < xs.length
    · obtain ⟨b, o, rfl, _, _, hc⟩ := hv.at_ hlt
      go_wp2_with (go_at_call 126; refine (hasInt_any _ _ _ _ _ _ hv').mono ?_; rintro e w' ⟨rfl, rfl⟩)
      · go_ret
        exact ⟨ret_bool (all_stop hlt (not_true ‹_›)).symm, rfl⟩
      · exact ⟨⟨k + 1, by omega, by go_num, all_step H hlt (not_false ‹_›)⟩, by simp [intOf]; omega⟩
    · go_wp2_with fail
      go_ret
      exact ⟨ret_bool (all_done H hlt).symm, rfl⟩
theorem allIn_is (b : Bool) (L U L' U' : Nat) (xs S : List Int) (v v' : Value) (w : World) (hv : Ints w L U v xs) (hv' : Ints w L' U' v' S) (h : allI xs S = b) :
    Calls Try.prog 105 #[v, v'] w fun e w' => e = .returned (.bool b) ∧ w = w' := by
  subst h; exact allIn_any L U L' U' xs S v v' w hv hv'
set_option maxHeartbeats 400000 in
theorem anyFilled_any (L U L' U' : Nat) (cs : List (List Int)) (S : List Int) (v v' : Value) (w : World) (hv : Cons w L U v cs) (hU : U ≤ w.heap.size) (hv' : Ints w L' U' v' S) (hU' : U' ≤ w.heap.size) :
    Calls Try.prog 76 #[v, v'] w fun e w' => e = .returned (.bool (anyI cs S)) ∧ Below w.heap.size w w' := by
  obtain ⟨B, d, rfl, hl, hd⟩ := hv.open_
  obtain ⟨B', d', rfl, hl', hd'⟩ := hv'.open_
  go_enter Try.func76, Try.ntmps76
  go_wp2_with fail
  go_loopw [9] (fun i wr => ∃ k : Nat, k ≤ cs.length ∧ i = .int .i64 k ∧ Hid ((cs.take k).any (fun c => allI c S) = false) ∧ Below w.heap.size w wr) (fun i _ => cs.length - (intOf i).toNat)
  case atStart => exact ⟨0, by omega, rfl, by simp [Hid], Below.refl _ _⟩
  case round =>
    obtain ⟨k, hk, rfl, H, hB⟩ := hrel
    have hz := hB.size
    by_cases hlt : k < cs.length
    · obtain ⟨b, o, A1, c1, rfl, _, _, hc, hu⟩ := (hv.keep (Same.of_below hB hU)).at_ hlt
      have hB1 := hB.alloc hz (.cells #[.slice A1 (cs[k]).length c1] 32)
      have hu1 := hu.keep (Same.of_below ((Below.refl wr.heap.size wr).alloc (Nat.le_refl _) (.cells #[.slice A1 (cs[k]).length c1] 32)) (by omega))
      have hs1 := hv'.keep (Same.of_below hB1 hU')
      have HB := Lib.hid hB1
      clear hu hB hB1
      rcases hf : allI cs[k] S with _ | _
      · have HF := Lib.hid hf
        clear hf
        go_wp2_with fail
        refine (allIn_is _ _ _ _ _ _ _ _ _ _ hu1 hs1 HF.out).mono ?_
        rintro e w2 ⟨rfl, rfl⟩
        clear hu1 hs1
        go_wp2_with fail
        go_roundw
        case rel => exact ⟨k + 1, by omega, by go_num, any_step H hlt HF.out, HB.out⟩
        case measure => simp [intOf]; omega
      · have HF := Lib.hid hf
        clear hf
        go_wp2_with fail
        refine (allIn_is _ _ _ _ _ _ _ _ _ _ hu1 hs1 HF.out).mono ?_
        rintro e w2 ⟨rfl, rfl⟩
        clear hu1 hs1
        go_wp2_with fail
        go_ret
        exact ⟨ret_bool (any_stop hlt HF.out).symm, HB.out⟩
    · go_wp2_with fail
      go_ret
      exact ⟨ret_bool (any_done H hlt).symm, hB⟩
theorem anyFilled_is (b : Bool) (L U L' U' : Nat) (cs : List (List Int)) (S : List Int) (v v' : Value) (w : World) (hv : Cons w L U v cs) (hU : U ≤ w.heap.size) (hv' : Ints w L' U' v' S) (hU' : U' ≤ w.heap.size) (h : anyI cs S = b) :
    Calls Try.prog 76 #[v, v'] w fun e w' => e = .returned (.bool b) ∧ Below w.heap.size w w' := by
  subst h; exact anyFilled_any L U L' U' cs S v v' w hv hU hv' hU'
set_option maxHeartbeats 800000 in
theorem inhabitedFrom_any (L U base : Nat) (ds : List Dec) (S : List Int) (v v' : Value) (w : World) (hv : Decs w L U v ds) (hU : U ≤ w.heap.size) (hv' : Own w base v' S) (hb : base ≤ w.heap.size) (ha : Asc S) (hs : S.length ≤ 500000) (hd4 : ds.length ≤ 4) :
    Calls Try.prog 48 #[v, v'] w fun e w' => ∃ u, e = .returned u ∧ Below base w w' ∧ Own w' base u (roundJ ds S) := by
  obtain ⟨B, d, rfl, hl, hd⟩ := hv.open_
  obtain ⟨B', d', rfl, hl', hd'⟩ := hv'.ints.open_
  have HO := Lib.hid hv'
  clear hv'
  go_enter Try.func48, Try.ntmps48
  go_wp2_with fail
  go_loopw [5, 11] (fun u i wr => ∃ k : Nat, k ≤ ds.length ∧ i = .int .i64 k ∧ Own wr base u (roundTo ds S S k) ∧ Below w.heap.size w wr) (fun _ i _ => ds.length - (intOf i).toNat)
  case atStart => exact ⟨0, by omega, rfl, HO.out, Below.refl _ _⟩
  case round =>
    obtain ⟨k, hk, rfl, hown, hB⟩ := hrel
    have hz := hB.size
    by_cases hlt : k < ds.length
    · obtain ⟨b, o, A1, c1, rfl, _, _, hc0, hc1, hc2, hu⟩ := (hv.keep (Same.of_below hB hU)).at_ hlt
      obtain ⟨W1, hW1⟩ : ∃ W1, W1 = wr.alloc (.cells #[.int .i64 (nthD ds k).frm, .int .i64 (nthD ds k).to, .slice A1 (nthD ds k).cons.length c1] 30) := ⟨_, rfl⟩
      have hBa : Below wr.heap.size wr W1 := by rw [hW1]; exact (Below.refl _ wr).alloc (Nat.le_refl _) _
      have hza : W1.heap.size = wr.heap.size + 1 := by rw [hW1]; simp
      have hB1 := hB.trans (hBa.mono hz)
      have hu1 := hu.keep (Same.of_below hBa (by omega))
      have hf1 := HO.out.keep (Same.of_below hB1 (Nat.le_refl _))
      have ho1 := hown.keep (Same.of_below hBa (Nat.le_refl _))
      obtain ⟨X, xc, rfl, _, _⟩ := hown.ints.open_
      have asc := roundTo_asc (ds := ds) (S := S) ha k
      have len := roundTo_length ds S S k
      have HB := Lib.hid (And.intro hB1 ho1)
      have HF1 := Lib.hid hf1
      have hn1 : roundTo ds S S (k + 1) = cond (fullB (nthD ds k) S) (ins ((k : Int) + 1) (roundTo ds S S k)) (roundTo ds S S k) := rfl
      have bsz : base ≤ W1.heap.size := by omega
      have AL := Lib.hid (And.intro asc len)
      clear hu hB hB1 hown ho1 hf1 asc len hBa
      rcases hf : fullB (nthD ds k) S with _ | _
      · rw [hf, cond_false] at hn1
        have HN := Lib.hid hn1
        unfold fullB at hf
        rw [Bool.or_eq_false_iff] at hf
        have hp : ¬ (nthD ds k).cons.length = 0 := by simpa using hf.1
        have HA := Lib.hid hf.2
        clear hf hn1
        go_wp2_with fail
        rw [← hW1]
        clear hW1
        refine (anyFilled_is _ _ _ _ _ _ _ _ _ W1 hu1 (by omega) HF1.out.ints (Nat.le_refl _) HA.out).mono ?_
        rintro e w2 ⟨rfl, hB2⟩
        have HE := Lib.hid (And.intro (HB.out.1.trans (hB2.mono (by omega))) (HB.out.2.keep (Same.of_below hB2 (Nat.le_refl _))))
        clear hu1 hB2
        go_wp2_with fail
        go_roundw
        case rel => exact ⟨k + 1, by omega, by go_num, by rw [HN.out]; exact HE.out.2, HE.out.1⟩
        case measure => simp [intOf]; omega
      · rw [hf, cond_true] at hn1
        have HN := Lib.hid hn1
        unfold fullB at hf
        rw [Bool.or_eq_true] at hf
        clear hn1
        by_cases hp : (nthD ds k).cons.length = 0
        · have hq : (nthD ds k).cons = [] := List.eq_nil_of_length_eq_zero hp
          rw [hp] at hW1
          clear hf
          go_wp2_with fail
          rw [← hW1]
          clear hW1
          refine (withInt_any _ _ _ _ _ W1 HB.out.2.ints (Nat.le_refl _) AL.out.1 (by have := AL.out.2; omega)).mono ?_
          rintro e w3 ⟨u3, rfl, hB3, ho3⟩
          have HG := Lib.hid (And.intro (HB.out.1.trans (hB3.mono HB.out.1.size)) (ho3.wide (base' := base) bsz))
          clear hB3 ho3 hu1
          go_wp2_with fail
          go_roundw
          case rel => exact ⟨k + 1, by omega, by go_num, by rw [HN.out]; exact HG.out.2, HG.out.1⟩
          case measure => simp [intOf]; omega
        · have HA := Lib.hid (show anyI (nthD ds k).cons S = true from hf.resolve_left (by simpa using hp))
          clear hf
          go_wp2_with fail
          rw [← hW1]
          clear hW1
          refine (anyFilled_is _ _ _ _ _ _ _ _ _ W1 hu1 (by omega) HF1.out.ints (Nat.le_refl _) HA.out).mono ?_
          rintro e w2 ⟨rfl, hB2⟩
          have z2 := hB2.size
          have HE := Lib.hid (And.intro (HB.out.1.trans (hB2.mono (by omega))) (HB.out.2.keep (Same.of_below hB2 (Nat.le_refl _))))
          clear hu1 hB2
          go_wp2_with fail
          refine (withInt_any _ _ _ _ _ w2 HE.out.2.ints (Nat.le_refl _) AL.out.1 (by have := AL.out.2; omega)).mono ?_
          rintro e w3 ⟨u3, rfl, hB3, ho3⟩
          have HG := Lib.hid (And.intro (HE.out.1.trans (hB3.mono HE.out.1.size)) (ho3.wide (base' := base) (by omega)))
          clear hB3 ho3
          go_wp2_with fail
          go_roundw
          case rel => exact ⟨k + 1, by omega, by go_num, by rw [HN.out]; exact HG.out.2, HG.out.1⟩
          case measure => simp [intOf]; omega
    · go_wp2_with fail
      go_ret
      obtain rfl : k = ds.length := by omega
      exact ⟨_, rfl, hB.mono hb, hown⟩
set_option maxHeartbeats 800000 in
theorem inhabitedOwn (L U : Nat) (ds : List Dec) (v : Value) (w : World) (hv : Decs w L U v ds) (hU : U ≤ w.heap.size) :
    Calls Try.prog 16 #[v] w fun e w' => ∃ u, e = .returned u ∧ Below w.heap.size w w' ∧ Own w' w.heap.size u (inhV ds) := by
  obtain ⟨B, d, rfl, hl, hd⟩ := hv.open_
  rcases hb : typesOk ds with _ | _
  · rw [show inhV ds = [] by unfold inhV; rw [hb]; rfl]
    have H := Lib.hid hb
    clear hb
    go_enter Try.func16, Try.ntmps16
    go_wp2_with (go_at_call 47; refine (validTypes_is _ _ _ _ _ _ hv hU H.out).mono ?_; rintro e w1 ⟨rfl, hB⟩)
    go_ret
    exact ⟨_, rfl, hB, Own.nil _ _⟩
  · rw [show inhV ds = iterJ ds ds.length by unfold inhV; rw [hb]; rfl]
    have H := Lib.hid hb
    have h4 := typesOk_four hb
    clear hb
    go_enter Try.func16, Try.ntmps16
    go_wp2_with fail
    refine (validTypes_is _ _ _ _ _ _ hv hU H.out).mono ?_
    rintro e w1 ⟨rfl, hB1⟩
    obtain ⟨W0, hW0⟩ : ∃ W0, W0 = w1.alloc (.cells #[.int .i64 0] 3) := ⟨_, rfl⟩
    have z1 := hB1.size
    have hB0 : Below w.heap.size w W0 := by rw [hW0]; exact hB1.alloc z1 _
    have ho0 : Own W0 w.heap.size (.slice (some ⟨w1.heap.size, 0, none⟩) 1 1) (iterJ ds 0) := by
      rw [hW0]
      exact Own.of (n := 1) (World.ownsRow_lit (base := w.heap.size) (e := 3) (size := 1) w1 #[.int .i64 0] 1 z1 (by simp [maxLen]) rfl)
    clear hB1
    go_wp2_with fail
    rw [← hW0]
    clear hW0
    go_loopw [3, 4] (fun u i wr => ∃ r : Nat, r ≤ ds.length ∧ i = .int .i64 r ∧ Own wr w.heap.size u (iterJ ds r) ∧ Below w.heap.size w wr) (fun _ i _ => ds.length - (intOf i).toNat)
    case atStart => exact ⟨0, by omega, rfl, ho0, hB0⟩
    case round =>
      obtain ⟨r, hr, rfl, hown, hB⟩ := hrel
      have hz := hB.size
      by_cases hlt : r < ds.length
      · obtain ⟨X, xc, rfl, _, _⟩ := hown.ints.open_
        have len := iterJ_length ds r
        have lm : r * ds.length ≤ 4 * 4 := Nat.mul_le_mul (by omega) h4
        have CK := Lib.hid (inhabitedFrom_any L U w.heap.size ds (iterJ ds r) _ _ wr (hv.keep (Same.of_below hB hU)) (by omega) hown hz (iterJ_asc ds r) (by omega) h4)
        have HB := Lib.hid hB
        clear len lm hown hB ho0
        go_wp2_with fail
        refine CK.out.mono ?_
        rintro e w2 ⟨u2, rfl, hB2, ho2⟩
        have HH := Lib.hid (And.intro ho2 (HB.out.trans hB2))
        clear ho2 hB2 CK
        go_wp2_with fail
        go_roundw
        case rel => exact ⟨r + 1, by omega, by go_num, HH.out.1, HH.out.2⟩
        case measure => simp [intOf]; omega
      · obtain rfl : r = ds.length := by omega
        go_wp2_with fail
        go_ret
        exact ⟨_, rfl, hB, hown⟩
end Go.Proofs.Ytgbeongiejppnaa
