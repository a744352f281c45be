/- The draw of declarations and a constructor. -/
import Derived.Test.YtmahamlfdegkkaaL
namespace Go.Proofs.Ytmahamlfdegkkaa
open Go.RowKit Go.BigFrame
def DrewC (w : World) (e : Ending) (w' : World) : Prop := ∃ v ds, ∃ c : Int, e = .returned (.tuple #[v, .int .i64 c]) ∧ ds.length ≤ 6 ∧ -1 ≤ c ∧ c ≤ 12 ∧ Decs w' w.heap.size w'.heap.size v ds ∧ Below w.heap.size w w'
set_option maxHeartbeats 800000 in
theorem drawConType (A : Option Addr) (n c : Nat) (w : World) (h : Code_ w A n c) :
    Calls Try.prog 47 #[.slice A n c] w (DrewC w) := by
  go_enter Try.func47, Try.ntmps47
  go_wp2_with fail
  refine (newReader_any A n c w.heap.size w h.1 h.2.1 h.2.2 (Nat.le_refl _)).mono ?_
  rintro e w1 ⟨g, rfl, hr, hB, hg⟩
  go_wp2_with fail
  refine (anyDecls_any g 0 w1 hr (by omega)).mono ?_
  rintro e w2 ⟨v, ds, rfl, hl, hd, ⟨q, hq, hr2⟩, ho⟩
  obtain ⟨B, cc, rfl, _, _⟩ := hd.open_
  have hz := hB.size
  have hgl := hr.lt
  go_wp2_with fail
  refine (pick_any 8 g q w2 hr2 (by omega)).mono ?_
  intro e w3 hP
  obtain ⟨x1, rfl, hx1, hr3, ho3⟩ := hP.some_ (by omega)
  clear hP
  go_wp2_with fail
  refine (pick_any 4 g (q + 1) w3 hr3 (by omega)).mono ?_
  intro e w4 hP
  obtain ⟨x2, rfl, hx2, hr4, ho4⟩ := hP.some_ (by omega)
  clear hP
  go_wp2_with fail
  have hgl4 := hr4.lt
  refine (one_any [(x1 : Int), x2, 4, -1, 12] _ g (q + 2) w4.heap.size (w4.heap.size + 1) _ (hr4.alloc _) (by omega) (ints_lit [(x1 : Int), x2, 4, -1, 12] (heap_alloc_new w4 _) (Nat.le_refl _) (by omega) (by simp)) hgl4 (by simp) (by simp)).mono ?_
  rintro e w5 ⟨y, hy, rfl, hr5, ho5⟩
  have hy1 : -1 ≤ y ∧ y ≤ 12 := by
    simp only [List.mem_cons, List.not_mem_nil, or_false] at hy
    omega
  have hall : w2.grownBy w5 (some g) := only_trans ho3 (only_trans ho4 (only_trans (only_alloc (World.grownBy.refl w4 _) _) ho5))
  have hf : DrewC w (.returned (.tuple #[.slice B ds.length cc, .int .i64 y])) w5 :=
    ⟨_, ds, y, rfl, hl, hy1.1, hy1.2, ((hd.keep (Same.of_grown hall (Nat.le_refl _) (fun k e => by injection e; omega))).wide hz hall.size), (hB.grown ho hz (fun k e => by injection e; omega)).grown hall (by have := ho.size; omega) (fun k e => by injection e; omega)⟩
  have HF := Lib.hid hf
  clear hf hd ho hall ho3 ho4 ho5 hy
  go_wp2_with fail
  go_ret2
  exact HF.out
end Go.Proofs.Ytmahamlfdegkkaa
