/- Contracts of the generator's reader: made, asked, asked for one of a list. -/
import Derived.Test.YtgbeongiejppnaaR
import Derived.Test.YtgbeongiejppnaaGa
import Derived.Laws.ResultCell
import Derived.Maps.AppendAt
import Derived.Deep.AppendLies
namespace Go.Proofs.Ytgbeongiejppnaa
open Go.RowKit Go.BigFrame
theorem rd_new {w : World} {A : Option Addr} {n c U : Nat} (hn : n ≤ 2000) (hc : n ≤ c) (hb : Bytes w U A n) (hU : U ≤ w.heap.size) : Rd (w.alloc (.cells #[.slice A n c, .int .i64 0] 91)) w.heap.size 0 := by
  refine ⟨A, n, c, hn, hc, heap_alloc_new w _, fun h => ?_⟩
  obtain ⟨b, o, e, hl, hx⟩ := hb h
  refine ⟨b, o, e, by omega, fun i hi => ?_⟩
  obtain ⟨u, hu, hy⟩ := hx i hi
  exact ⟨u, hu, (World.cell?_alloc_lt w _ _ (by show b < _; omega)).trans hy⟩
set_option maxHeartbeats 400000 in
theorem newReader_any (A : Option Addr) (n c U : Nat) (w : World) (hn : n ≤ c) (hc : c ≤ 9223372036854775807) (hb : Bytes w U A n) (hU : U ≤ w.heap.size) :
    Calls Try.prog 42 #[.slice A n c] w fun e w' => ∃ g, e = .returned (.pointer (some ⟨g, 0, none⟩)) ∧ Rd w' g 0 ∧ Below w.heap.size w w' ∧ w.heap.size ≤ g := by
  by_cases h : n ≤ 2000
  · go_enter Try.func42, Try.ntmps42
    go_wp2_with fail
    go_ret
    exact ⟨_, rfl, rd_new h hn hb hU, (Below.refl _ _).alloc (Nat.le_refl _) _, Nat.le_refl _⟩
  · obtain ⟨b, o, rfl, hl, hx⟩ := hb (by omega)
    have h1 : (2000 : Int) ≤ (c : Int) := by omega
    have hb2 : Bytes w U (some ⟨b, o, none⟩) 2000 := fun _ => ⟨b, o, rfl, hl, fun i hi => hx i (by omega)⟩
    go_enter Try.func42, Try.ntmps42
    go_wp2_with fail
    go_ret
    exact ⟨_, rfl, rd_new (Nat.le_refl _) (by omega) hb2 hU, (Below.refl _ _).alloc (Nat.le_refl _) _, Nat.le_refl _⟩
theorem Picked.some_ {m : Int} {w : World} {g p : Nat} {e : Ending} {w' : World} (h : Picked m w g p e w') (hm : 1 ≤ m) : ∃ x : Nat, e = .returned (.int .i64 x) ∧ (x : Int) < m ∧ Rd w' g (p + 1) ∧ w.grownBy w' (some g) := by
  obtain ⟨x, h1, _, h2, h3, h4⟩ := h
  exact ⟨x, h1, h2 hm, h3, h4⟩
set_option maxHeartbeats 400000 in
theorem one_any (xs : List Int) (v : Value) (g p L U : Nat) (w : World) (hr : Rd w g p) (hp : p ≤ 1000000) (hv : Ints w L U v xs) (hg : g < L) (hU : U ≤ w.heap.size) (hx : 0 < xs.length) :
    Calls Try.prog 61 #[.pointer (some ⟨g, 0, none⟩), v] w fun e w' => ∃ x ∈ xs, e = .returned (.int .i64 x) ∧ Rd w' g (p + 1) ∧ w.grownBy w' (some g) := by
  obtain ⟨A, c, rfl, hl, hc⟩ := hv.open_
  go_enter Try.func61, Try.ntmps61
  go_wp2_with fail
  refine (pick_any _ g p w hr hp).mono ?_
  intro e w' hP
  obtain ⟨x, rfl, hxm, hr1, hg1⟩ := hP.some_ (by omega)
  obtain ⟨b, o, rfl, _, _, hcl⟩ := (hv.keep (Same.of_grown hg1 hU (fun k e => by injection e; omega))).at_ (k := x) (by omega)
  have hmem : xs[x]'(by omega) ∈ xs := List.getElem_mem _
  clear hv hP
  go_wp2_with fail
  go_ret
  exact ⟨_, hmem, rfl, hr1, hg1⟩
/-- Literals in memory. -/
theorem ints_lit {w : World} {b L U : Nat} {T : TypeId} (xs : List Int) (h : w.heap[b]? = some (.cells (xs.map (Value.int .i64)).toArray T (0, 0))) (hL : L ≤ b) (hU : b < U) (hs : xs.length ≤ 1000) :
    Ints w L U (.slice (some ⟨b, 0, none⟩) xs.length xs.length) xs := by
  refine ⟨_, _, rfl, Nat.le_refl _, by unfold maxLen; omega, (fun e => by cases e), fun _ => ⟨b, 0, rfl, hL, hU, fun i j hi hj => ?_⟩⟩
  obtain rfl : j = 0 := by omega
  rw [Nat.zero_add, Nat.mul_one, Nat.add_zero, cell_of_row w b i _ T (0, 0) h, nth_of hi]
  simp [hi]
end Go.Proofs.Ytgbeongiejppnaa
