/- Contracts of chapter 2: variables in scopes, and scopes with variables more. -/
import Derived.Test.YtihmkaodjpgikaaGreatPt4
import Derived.Test.YtihmkaodjpgikaaGreatGa
namespace Go.Proofs.YtihmkaodjpgikaaGreat
open Go.RowKit Go.BigFrame
theorem nth_left {a b : List Int} {k : Nat} (h : k < a.length) : nth (a ++ b) k = a[k] := by rw [nth_of (by simp; omega), List.getElem_append_left h]
theorem nth_right {a b : List Int} {k : Nat} (h : k < b.length) : nth (a ++ b) (a.length + k) = b[k] := by
  rw [nth_of (by simp; omega), List.getElem_append_right (by omega)]
  congr 1
  omega
set_option maxHeartbeats 400000 in
theorem typeOfVar_any (x : Int) (hx : x ≤ 9223372036854775807) (L U L' U' : Nat) (g b : List Int) (gv bv : Value) (w : World) (hg : Ints w L U gv g) (hU : U ≤ w.heap.size) (hb : Ints w L' U' bv b) (hU' : U' ≤ w.heap.size) :
    Calls Tryz.prog 81 #[.agg #[gv, bv], .int .i64 x] w fun e w' => e = .returned (.int .i64 (varTy (g ++ b) x)) ∧ Below w.heap.size w w' := by
  obtain ⟨A1, c1, rfl, l1, m1⟩ := hg.open_
  obtain ⟨A2, c2, rfl, l2, m2⟩ := hb.open_
  obtain ⟨W0, hW0⟩ : ∃ W0, W0 = w.alloc (.cells #[.slice A1 g.length c1, .slice A2 b.length c2] 97) := ⟨_, rfl⟩
  have hB0 : Below w.heap.size w W0 := by rw [hW0]; exact (Below.refl _ w).alloc (Nat.le_refl _) _
  have hg0 := hg.keep (Same.of_below hB0 hU)
  have hb0 := hb.keep (Same.of_below hB0 hU')
  have HB0 := Lib.hid hB0
  have HB := Lib.hid fun O => (Below.refl w.heap.size w).alloc (Nat.le_refl _) O
  clear hg hb hB0
  by_cases h0 : x < 0
  · rw [show varTy (g ++ b) x = -1 by unfold varTy; rw [if_neg (by omega)]]
    go_enter Tryz.func81, Tryz.ntmps81
    go_wp2_with fail
    go_ret
    exact ⟨rfl, HB.out _⟩
  · by_cases h1 : x < (g.length : Int)
    · obtain ⟨k, rfl⟩ : ∃ k : Nat, x = (k : Int) := ⟨x.toNat, by omega⟩
      have hk : k < g.length := by omega
      obtain ⟨bb, o, rfl, _, hbb, hc⟩ := hg0.at_ hk
      rw [hW0] at hc
      rw [show varTy (g ++ b) (k : Int) = g[k] by
        unfold varTy
        rw [if_pos ⟨by omega, by simp; omega⟩, Int.toNat_natCast, nth_left hk]]
      clear hg0 hb0 hW0
      go_enter Tryz.func81, Tryz.ntmps81
      go_wp2_with fail
      go_ret
      exact ⟨rfl, HB.out _⟩
    · by_cases h2 : x < (g.length : Int) + (b.length : Int)
      · obtain ⟨j, hj⟩ : ∃ j : Nat, x = (g.length : Int) + (j : Int) := ⟨(x - g.length).toNat, by omega⟩
        have hk : j < b.length := by omega
        obtain ⟨bb, o, rfl, _, hbb, hc⟩ := hb0.at_ hk
        rw [hW0] at hc
        rw [show varTy (g ++ b) x = b[j] by
          unfold varTy
          rw [if_pos ⟨by omega, by simp; omega⟩, show x.toNat = g.length + j by omega, nth_right hk]]
        have s1 : IntKind.i64.wrap (x - (g.length : Int)) = (j : Int) := by rw [IntWalk.i64_in _ (by omega)]; omega
        have j0 : (0 : Int) ≤ (j : Int) := by omega
        have j1 : (j : Int) < (b.length : Int) := by omega
        clear hg0 hb0 hW0 h2 hj
        go_enter Tryz.func81, Tryz.ntmps81
        go_wp2_with fail
        go_ret
        exact ⟨rfl, HB.out _⟩
      · rw [show varTy (g ++ b) x = -1 by unfold varTy; rw [if_neg (by simp; omega)]]
        have s1 : IntKind.i64.wrap (x - (g.length : Int)) = x - (g.length : Int) := IntWalk.i64_in _ (by omega)
        have h4 : ¬ x - (g.length : Int) < (b.length : Int) := by omega
        go_enter Tryz.func81, Tryz.ntmps81
        go_wp2_with fail
        go_ret
        exact ⟨rfl, HB.out _⟩
set_option maxHeartbeats 800000 in
theorem bind_any (L U L' U' : Nat) (b ts : List Int) (gv bv tv : Value) (w : World) (hg : ∃ A n c, gv = .slice A n c) (hb : Ints w L U bv b) (hU : U ≤ w.heap.size) (ht : Ints w L' U' tv ts) (hU' : U' ≤ w.heap.size) (hl : b.length + ts.length ≤ 1000000) :
    Calls Tryz.prog 91 #[.agg #[gv, bv], tv] w fun e w' => ∃ u, e = .returned (.agg #[gv, u]) ∧ Below w.heap.size w w' ∧ Ints w' w.heap.size w'.heap.size u (b ++ ts) := by
  obtain ⟨A1, n1, c1, rfl⟩ := hg
  obtain ⟨A2, c2, rfl, l2, m2⟩ := hb.open_
  obtain ⟨A3, c3, rfl, l3, m3⟩ := ht.open_
  obtain ⟨W0, hW0⟩ : ∃ W0, W0 = (w.alloc (.cells #[.slice A1 n1 c1, .slice A2 b.length c2] 97)).alloc (.cells #[.slice none 0 0, .slice none 0 0] 97) := ⟨_, rfl⟩
  have hB0 : Below w.heap.size w W0 := by rw [hW0]; exact ((Below.refl _ w).alloc (Nat.le_refl _) _).alloc (by simp) _
  have hz0 : W0.heap.size = w.heap.size + 2 := by rw [hW0]; simp
  have x0 : W0.heap[w.heap.size]? = some (.cells #[.slice A1 n1 c1, .slice A2 b.length c2] 97 (0, 0)) := by rw [hW0]; exact (Below.heap_alloc _ _ _ (by simp)).trans (alloc_last _ _ _ rfl)
  have x1 : W0.heap[w.heap.size + 1]? = some (.cells #[.slice none 0 0, .slice none 0 0] 97 (0, 0)) := by rw [hW0]; exact alloc_last _ _ _ (by simp)
  have HB := Lib.hid (hb.keep (Same.of_below hB0 hU))
  have HT := Lib.hid (ht.keep (Same.of_below hB0 hU'))
  have H0 := Lib.hid (And.intro x0 x1)
  have HB0 := Lib.hid hB0
  obtain ⟨q0, q1⟩ := cells2 x0
  clear hb ht x0 x1 hB0
  go_enter Tryz.func91, Tryz.ntmps91
  go_wp2_with fail
  rw [← hW0]
  clear hW0
  refine (copyInts_own _ _ _ _ W0 HB.out (by omega) (by omega)).mono ?_
  rintro e w1 ⟨u1, rfl, hB1, ho1⟩
  have HT1 := Lib.hid fun W (hB : Below W0.heap.size W0 W) => HT.out.keep (Same.of_below hB (by omega))
  have HZ := Lib.hid hz0
  clear q0 q1 hz0
  go_wp2_with fail
  go_loopw [5, 13] (fun u i wr => ∃ k : Nat, k ≤ ts.length ∧ i = .int .i64 k ∧ Own wr W0.heap.size u (b ++ ts.take k) ∧ Below W0.heap.size W0 wr) (fun _ i _ => ts.length - (intOf i).toNat)
  case atStart => exact ⟨0, by omega, rfl, by simpa using ho1, hB1⟩
  case round =>
    obtain ⟨k, hk, rfl, hown, hB⟩ := hrel
    have hz := hB.size
    by_cases hlt : k < ts.length
    · obtain ⟨bb, o, rfl, _, _, hc⟩ := (HT1.out wr hB).at_ hlt
      have hyl : (b ++ ts.take k).length ≤ 10000000 := by simp; omega
      go_wp2_with (at_builtin; refine wp_push rfl (.tmp 17) (.tmp 19) rfl rfl hown rfl hyl hz ?_)
      intro u2 w2 ho2 hB2 _
      have HH := Lib.hid (And.intro (show Own w2 W0.heap.size u2 (b ++ ts.take (k + 1)) by first | exact ho2 | (rw [take_one hlt, ← List.append_assoc]; exact ho2)) (hB.trans hB2))
      clear ho2 hB2 hB hown hc
      go_wp2_with fail
      go_roundw
      case rel => exact ⟨k + 1, by omega, by go_num, HH.out.1, HH.out.2⟩
      case measure => simp [intOf]; omega
    · rw [List.take_of_length_le (by omega)] at hown
      obtain ⟨xs, hxs⟩ : ∃ xs, b ++ ts = xs := ⟨_, rfl⟩
      rw [hxs] at hown
      have HXS := Lib.hid hxs
      clear hxs
      obtain ⟨A4, c4, rfl, _, _⟩ := hown.ints.open_
      have y0 := (hB.block w.heap.size (by have := HZ.out; omega)).trans H0.out.1
      have y1 := (hB.block (w.heap.size + 1) (by have := HZ.out; omega)).trans H0.out.2
      obtain ⟨q0, q1⟩ := cells2 y0
      obtain ⟨r0, r1⟩ := cells2 y1
      have f0 := frozen_of_row wr _ 0 _ _ y1
      have f1 := frozen_of_row wr _ 1 _ _ y1
      have HE := Lib.hid y1
      have HO := Lib.hid hown.ints
      have HB2 := Lib.hid hB
      clear y0 y1 hown hB
      go_wp2_with fail
      (try simp only [Exit.inBlock, Exit.then])
      refine ended ?_
      intro W4 hW4
      have e4 : W4.heap[w.heap.size + 1]? = some (.cells #[.slice A1 n1 c1, .slice A4 xs.length c4] 97 (0, 0)) := by
        rw [hW4]
        exact heap_setCell_same _ _ 1 _ _ _ (heap_setCell_same _ _ 0 _ _ _ HE.out)
      obtain ⟨t0, t1⟩ := cells2 e4
      have hz4 : W4.heap.size = wr.heap.size := by rw [hW4]; simp
      have hB4 : Below w.heap.size w W4 := by
        rw [hW4]
        exact (((HB0.out.trans (HB2.out.mono (by have := HZ.out; omega))).setCell (by simp) _).setCell (by simp) _)
      have hi4 : Ints W4 w.heap.size W4.heap.size (.slice A4 xs.length c4) (b ++ ts) := by
        rw [HXS.out]
        refine (HO.out.keep (fun g h1 h2 => ?_)).wide (by have := HZ.out; omega) (by omega)
        have := HZ.out
        rw [hW4, heap_setCell_other _ _ _ _ (by simp; omega), heap_setCell_other _ _ _ _ (by simp; omega)]
      clear hW4 e4
      refine bodyPost_ret (v := .agg #[.slice A1 n1 c1, .slice A4 xs.length c4]) ?_ rfl ⟨_, rfl, hB4, hi4⟩
      rw [results_one rfl]
      go_simp
end Go.Proofs.YtihmkaodjpgikaaGreat
