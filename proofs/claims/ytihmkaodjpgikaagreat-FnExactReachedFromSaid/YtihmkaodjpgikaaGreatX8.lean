/- Marks on copies of declarations. -/
import Derived.Test.YtihmkaodjpgikaaGreatX7
namespace Go.Proofs.YtihmkaodjpgikaaGreat
open Go.RowKit Go.BigFrame Go.Deep
theorem Turn.within {L U g : Nat} {w w' : World} (h : Turn (some g) L U w w') (h1 : L ≤ g) (h2 : g < U) : Within L U w w' := by
  refine ⟨h.os, h.tape, h.output, h.size, fun b hb => ?_⟩
  rcases h.block b (by simp; omega) with e | ⟨l1, l2, _⟩
  · exact e
  · omega
theorem Turn.set {L U g o : Nat} {w : World} {u : Value} : Turn (some g) L U w (w.setCell ⟨g, o, none⟩ u) :=
  ⟨rfl, rfl, rfl, by simp, fun b hb => .inl (heap_setCell_other _ _ _ _ (by simpa using hb))⟩
/-- A row of declarations as it is being marked: its slices stay. -/
def Rowed (w : World) (g n : Nat) (V : Nat → Value) : Prop := ∃ a, w.heap[g]? = some (.cells a 73 (0, 0)) ∧ a.size = n * 3 ∧ ∀ i, i < n → a[i * 3 + 2]? = some (V i)
theorem Rowed.set {w : World} {g n o : Nat} {V : Nat → Value} {u : Value} (h : Rowed w g n V) (ho : o % 3 ≠ 2) : Rowed (w.setCell ⟨g, o, none⟩ u) g n V := by
  obtain ⟨a, h1, h2, h3⟩ := h
  refine ⟨a.setIfInBounds o u, heap_setCell_same w g o a _ u h1, by simpa using h2, fun i hi => ?_⟩
  rw [Array.getElem?_setIfInBounds_ne (by omega)]
  exact h3 i hi
theorem Rowed.turn {w w' : World} {L U g n : Nat} {V : Nat → Value} (h : Rowed w g n V) (t : Turn none L U w w') : Rowed w' g n V := by
  obtain ⟨a, h1, h2, h3⟩ := h
  rcases t.block g (by simp) with e | ⟨_, _, xs, ys, _, e1, _⟩
  · exact ⟨a, e.trans h1, h2, h3⟩
  · rw [h1] at e1
    injection e1 with e1
    injection e1 with _ e1 _
    cases e1
theorem Rowed.cell {w : World} {g n : Nat} {V : Nat → Value} (h : Rowed w g n V) {x : Nat} (hx : x < n * 3) : ∃ u, w.cell? ⟨g, x, none⟩ = some u := by
  obtain ⟨a, h1, h2, _⟩ := h
  exact ⟨a[x]'(by omega), by rw [cell_of_row w g x a _ (0, 0) h1, Array.getElem?_eq_getElem (by omega)]⟩
theorem Rowed.slice {w : World} {g n : Nat} {V : Nat → Value} (h : Rowed w g n V) {i : Nat} (hi : i < n) : w.cell? ⟨g, i * 3 + 2, none⟩ = some (V i) := by
  obtain ⟨a, h1, _, h3⟩ := h
  rw [cell_of_row w g _ a _ (0, 0) h1]
  exact h3 i hi
theorem Rowed.free {w : World} {g n : Nat} {V : Nat → Value} (h : Rowed w g n V) (x : Nat) : w.frozen? ⟨g, x, none⟩ = false := by
  obtain ⟨a, h1, _⟩ := h
  exact frozen_of_row w g x a _ h1
theorem Rowed.typed {w : World} {g n : Nat} {V : Nat → Value} (h : Rowed w g n V) : ∀ b, some g = some b → ∃ a, w.heap[b]? = some (.cells a 73 (0, 0)) := fun b e => by
  injection e with e
  subst e
  obtain ⟨a, h1, _⟩ := h
  exact ⟨a, h1⟩
theorem ODecs.rowed {w : World} {L U : Nat} {v : Value} {ds : List Dec} (h : ODecs w L U v ds) (hs : SmallD ds) : ∃ g V, v = .slice (some ⟨g, 0, none⟩) ds.length ds.length ∧ L ≤ g ∧ g < U ∧ Rowed w g ds.length V ∧ ∀ i, i < ds.length → ∃ n, n ≤ 1048576 ∧ SC w L U (V i) n := by
  obtain ⟨V, ⟨g, a, e, h1, h2, h3, h4, h5⟩, hc⟩ := h
  have hz : a.size = ds.length * 3 := by have := congrArg List.length h5; rw [length_cellsOf] at this; simpa using this
  refine ⟨g, V, e, h1, h2, ⟨a, h4, hz, fun i hi => ?_⟩, fun i hi => ⟨(nthD ds i).cons.length, (hs.2 i hi).1, (nthD ds i).cons, rfl, hs.2 i hi, hc i hi⟩⟩
  have := cellsOf_at (fun i j => decCell (nthD ds i) (V i) j) hi (show 2 < 3 by omega)
  rw [← h5] at this
  rw [← Array.getElem?_toList]
  exact this
set_option maxHeartbeats 400000 in
theorem markDeclS_any (L U : Nat) (ds : List Dec) (v : Value) (w : World) (hv : ODecs w L U v ds) (hs : SmallD ds) :
    Calls Tryz.prog 25 #[v, .int .i64 1] w fun e w' => ∃ r : Int, e = .returned (.int .i64 r) ∧ 0 ≤ r ∧ Within L U w w' := by
  obtain ⟨g, V, rfl, hL, hU, HR, HV⟩ := hv.rowed hs
  have hn := hs.1
  clear hs hv
  have HV := Lib.hid HV
  go_enter Tryz.func25, Tryz.ntmps25
  go_wp2_with fail
  go_loopw [1, 5] (fun q i wr => ∃ (j : Nat) (r : Int), j ≤ ds.length ∧ i = .int .i64 j ∧ q = .int .i64 r ∧ 1 ≤ r ∧ r ≤ 1 + j * 1099511627778 ∧ Turn (some g) L U w wr ∧ Rowed wr g ds.length V) (fun _ i _ => ds.length - (intOf i).toNat)
  case atStart => exact ⟨0, 1, by omega, rfl, rfl, by omega, by omega, Turn.refl _ _ _ _, HR⟩
  case round =>
    obtain ⟨j, r, hj, rfl, rfl, r0, r1, T, R⟩ := hrel
    by_cases hlt : j < ds.length
    · obtain ⟨n, hn1, hsc⟩ := HV.out j hlt
      obtain ⟨W2, hW2⟩ : ∃ W2, W2 = (wr.setCell ⟨g, j * 3, none⟩ (.int .i64 r)).setCell ⟨g, j * 3 + 1, none⟩ (.int .i64 (r + 1)) := ⟨_, rfl⟩
      have T2 : Turn (some g) L U w W2 := by rw [hW2]; exact (T.trans Turn.set).trans Turn.set
      have R2 : Rowed W2 g ds.length V := by rw [hW2]; exact (R.set (by omega)).set (by omega)
      have S2 : SC W2 L U (V j) n := hsc.turn T2 HR.typed
      obtain ⟨u0, q0⟩ := R.cell (x := j * 3) (by omega)
      obtain ⟨u1, q1⟩ := R.cell (x := j * 3 + 1) (by omega)
      have q2 := R2.slice hlt
      have f0 := R.free (j * 3)
      have f1 := R.free (j * 3 + 1)
      have hsl : ∃ x y, V j = .slice (some ⟨x, 0, none⟩) y y := by
        obtain ⟨cs, _, _, V', ⟨x, _, e, _⟩, _⟩ := S2
        exact ⟨x, _, e⟩
      obtain ⟨x, y, hVj⟩ := hsl
      rw [hVj] at q2 S2
      subst hW2
      have r2 : 0 ≤ r + 2 := by omega
      have r3 : r + 2 ≤ 2305843009213693952 := by omega
      have HH := Lib.hid (And.intro T2 (And.intro R2 S2))
      clear T2 R2 S2 T R hsc hVj
      go_wp2_with fail
      refine (markConS_any _ _ _ _ (r + 1 + 1) _ HH.out.2.2 (by omega) (by omega)).mono ?_
      rintro e w1 ⟨r', rfl, s0, s1, T1⟩
      have T3 := HH.out.1.trans (T1.weak _)
      have R3 := HH.out.2.1.turn T1
      have HJ := Lib.hid (And.intro T3 R3)
      clear HH T1 T3 R3 q0 q1 q2 f0 f1
      go_wp2_with fail
      go_roundw
      case rel => exact ⟨j + 1, r', by omega, by go_num, rfl, by omega, by omega, HJ.out.1, HJ.out.2⟩
      case measure => simp [intOf]; omega
    · go_wp2_with fail
      go_ret
      exact ⟨_, rfl, by omega, T.within hL hU⟩
end Go.Proofs.YtihmkaodjpgikaaGreat
