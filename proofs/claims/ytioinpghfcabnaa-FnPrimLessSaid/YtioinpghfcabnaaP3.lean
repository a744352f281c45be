/- The draw for Prim: three numbers, none of them far from 0. -/
import Derived.Test.YtioinpghfcabnaaL0
import Derived.Test.YtioinpghfcabnaaP2
import Derived.Test.YtioinpghfcabnaaH0
namespace Go.Proofs.Ytioinpghfcabnaa
open Go.RowKit Go.BigFrame
def DrewP (w : World) (e : Ending) (w' : World) : Prop := ∃ op a b : Int, e = .returned (.tuple #[.int .i64 op, .int .i64 a, .int .i64 b]) ∧ (0 ≤ op ∧ op ≤ 5) ∧ (-1000 ≤ a ∧ a ≤ 1000) ∧ (-1000 ≤ b ∧ b ≤ 1000) ∧ Below w.heap.size w w'
set_option maxHeartbeats 1600000 in
theorem drawPrim (A : Option Addr) (n c : Nat) (w : World) (h : Code_ w A n c) :
    Calls Try.prog 7 #[.slice A n c] w (DrewP w) := by
  go_enter Try.func7, Try.ntmps7
  go_wp2_with fail
  refine (newReader_any A n c w.heap.size w h.1 h.2.1 h.2.2 (Nat.le_refl _)).mono ?_
  rintro e w1 ⟨g, rfl, hr, hB, hg⟩
  have hgl := hr.lt
  go_wp2_with fail
  refine (pick_any 2000 g 0 w1 hr (by omega)).mono ?_
  intro e w3 hP
  obtain ⟨x1, rfl, hx1, hr3, ho3⟩ := hP.some_ (by omega)
  clear hP
  go_wp2_with fail
  refine (pick_any 60 g 1 w3 hr3 (by omega)).mono ?_
  intro e w4 hP
  obtain ⟨x2, rfl, hx2, hr4, ho4⟩ := hP.some_ (by omega)
  clear hP
  have hgl4 := hr4.lt
  go_wp2_with fail
  refine (one_any [(x1 : Int) - 1000, (x2 : Int) - 30, 999, -999, 1000, 0] _ g 2 w4.heap.size (w4.heap.size + 1) _ (hr4.alloc _) (by omega) (ints_lit [(x1 : Int) - 1000, (x2 : Int) - 30, 999, -999, 1000, 0] (heap_alloc_new w4 _) (Nat.le_refl _) (by omega) (by simp)) hgl4 (by simp) (by simp)).mono ?_
  rintro e w5 ⟨y, hy, rfl, hr5, ho5⟩
  have hy1 : -1000 ≤ y ∧ y ≤ 1000 := by
    simp only [List.mem_cons, List.not_mem_nil, or_false] at hy
    omega
  clear hy
  have hA : w1.grownBy w5 (some g) := only_trans ho3 (only_trans ho4 (only_trans (only_alloc (World.grownBy.refl w4 _) _) ho5))
  clear ho3 ho4 ho5
  go_wp2_with fail
  refine (pick_any 2000 g 3 w5 hr5 (by omega)).mono ?_
  intro e w6 hP
  obtain ⟨x3, rfl, hx3, hr6, ho6⟩ := hP.some_ (by omega)
  clear hP
  go_wp2_with fail
  refine (pick_any 60 g 4 w6 hr6 (by omega)).mono ?_
  intro e w7 hP
  obtain ⟨x4, rfl, hx4, hr7, ho7⟩ := hP.some_ (by omega)
  clear hP
  have hgl7 := hr7.lt
  go_wp2_with fail
  refine (one_any [(x3 : Int) - 1000, (x4 : Int) - 30, 999, -999, -1000, 1] _ g 5 w7.heap.size (w7.heap.size + 1) _ (hr7.alloc _) (by omega) (ints_lit [(x3 : Int) - 1000, (x4 : Int) - 30, 999, -999, -1000, 1] (heap_alloc_new w7 _) (Nat.le_refl _) (by omega) (by simp)) hgl7 (by simp) (by simp)).mono ?_
  rintro e w8 ⟨z, hz, rfl, hr8, ho8⟩
  have hz1 : -1000 ≤ z ∧ z ≤ 1000 := by
    simp only [List.mem_cons, List.not_mem_nil, or_false] at hz
    omega
  clear hz
  have hA2 : w1.grownBy w8 (some g) := only_trans hA (only_trans ho6 (only_trans ho7 (only_trans (only_alloc (World.grownBy.refl w7 _) _) ho8)))
  clear hA ho6 ho7 ho8
  have hgl8 := hr8.lt
  go_wp2_with fail
  refine (one_any [1, 2, 3, 4, 5, 0] _ g 6 w8.heap.size (w8.heap.size + 1) _ (hr8.alloc _) (by omega) (ints_lit [1, 2, 3, 4, 5, 0] (heap_alloc_new w8 _) (Nat.le_refl _) (by omega) (by simp)) hgl8 (by simp) (by simp)).mono ?_
  rintro e w9 ⟨o, ho, rfl, hr9, ho9⟩
  have ho1 : 0 ≤ o ∧ o ≤ 5 := by
    simp only [List.mem_cons, List.not_mem_nil, or_false] at ho
    omega
  clear ho
  have hall : w1.grownBy w9 (some g) := only_trans hA2 (only_trans (only_alloc (World.grownBy.refl w8 _) _) ho9)
  have hf : DrewP w (.returned (.tuple #[.int .i64 o, .int .i64 y, .int .i64 z])) w9 := ⟨o, y, z, rfl, ho1, hy1, hz1, hB.grown hall hB.size (fun k e => by injection e; omega)⟩
  have HF := Lib.hid hf
  clear hf hall ho9 hA2 ho1 hy1 hz1
  go_wp2_with fail
  go_ret3
  exact HF.out
end Go.Proofs.Ytioinpghfcabnaa
