/- Marks on copies of expressions. -/
import Derived.Test.YtmahamlfdegkkabT5
namespace Go.Proofs.Ytmahamlfdegkkab
open Go.RowKit Go.BigFrame
/-- What marking turns: ops and nums in rows of expressions between L and U; the slices stay. -/
structure TurnX (L U : Nat) (w w' : World) : Prop where
  os : w'.os = w.os
  tape : w'.tape = w.tape
  output : w'.output = w.output
  size : w'.heap.size = w.heap.size
  block : ∀ b, w'.heap[b]? = w.heap[b]? ∨ (L ≤ b ∧ b < U ∧ ∃ a a' : Array Value, w.heap[b]? = some (.cells a 29 (0, 0)) ∧ w'.heap[b]? = some (.cells a' 29 (0, 0)) ∧ a'.size = a.size ∧ ∀ x, x % 3 = 2 → a'[x]? = a[x]?)
theorem TurnX.refl (L U : Nat) (w : World) : TurnX L U w w := ⟨rfl, rfl, rfl, rfl, fun _ => .inl rfl⟩
theorem TurnX.trans {L U : Nat} {a b c : World} (h : TurnX L U a b) (k : TurnX L U b c) : TurnX L U a c := by
  refine ⟨k.os.trans h.os, k.tape.trans h.tape, k.output.trans h.output, k.size.trans h.size, fun x => ?_⟩
  rcases h.block x with e1 | ⟨l1, l2, p, q, e1, e2, s1, s2⟩
  · rcases k.block x with e3 | ⟨l1, l2, p, q, e3, e4, s1, s2⟩
    · exact .inl (e3.trans e1)
    · exact .inr ⟨l1, l2, p, q, e1.symm.trans e3, e4, s1, s2⟩
  · rcases k.block x with e3 | ⟨_, _, p', q', e3, e4, s3, s4⟩
    · exact .inr ⟨l1, l2, p, q, e1, e3.trans e2, s1, s2⟩
    · rw [e2] at e3
      injection e3 with e3
      injection e3 with e3 _ _
      subst e3
      exact .inr ⟨l1, l2, p, q', e1, e4, s3.trans s1, fun x hx => (s4 x hx).trans (s2 x hx)⟩
theorem TurnX.within {L U : Nat} {w w' : World} (h : TurnX L U w w') : Within L U w w' :=
  ⟨h.os, h.tape, h.output, h.size, fun b hb => by
    rcases h.block b with e | ⟨l1, l2, _⟩
    · exact e
    · omega⟩
/-- The shape of rows of expressions: what marking keeps. -/
inductive PX (w : World) (L U : Nat) : Value → List Ex → Prop
  | mk (g : Nat) (a : Array Value) (V : Nat → Value) (es : List Ex) (h1 : L ≤ g) (h2 : g < U) (h3 : es.length ≤ maxLen) (h4 : w.heap[g]? = some (.cells a 29 (0, 0))) (h5 : a.size = es.length * 3) (h6 : ∀ i, i < es.length → a[i * 3 + 2]? = some (V i))
      (h : ∀ i, i < es.length → PX w L U (V i) (nthX es i).kids) : PX w L U (.slice (some ⟨g, 0, none⟩) es.length es.length) es
theorem PX.turn {w w' : World} {L U L' U' : Nat} {v : Value} {es : List Ex} (h : PX w L U v es) (t : TurnX L' U' w w') : PX w' L U v es := by
  induction h with
  | mk g a V es h1 h2 h3 h4 h5 h6 _ ih =>
    rcases t.block g with e | ⟨_, _, p, q, e1, e2, s1, s2⟩
    · exact .mk g a V es h1 h2 h3 (e.trans h4) h5 h6 ih
    · rw [h4] at e1
      injection e1 with e1
      injection e1 with e1 _ _
      subst e1
      exact .mk g q V es h1 h2 h3 e2 (s1.trans h5) (fun i hi => (s2 _ (by omega)).trans (h6 i hi)) ih
theorem PX.form {w : World} {L U : Nat} {v : Value} {es : List Ex} (h : PX w L U v es) : ∃ g, v = .slice (some ⟨g, 0, none⟩) es.length es.length := by
  cases h with
  | mk g _ _ _ _ _ _ _ _ _ _ => exact ⟨g, rfl⟩
theorem OExs.px {w : World} {L U : Nat} {v : Value} {es : List Ex} (h : OExs w L U v es) : PX w L U v es := by
  induction h with
  | mk v V es b _ ih =>
    obtain ⟨g, a, rfl, h1, h2, h3, h4, h5⟩ := b
    have hz : a.size = es.length * 3 := by have := congrArg List.length h5; rw [length_cellsOf] at this; simpa using this
    refine .mk g a V es h1 h2 h3 h4 hz (fun i hi => ?_) ih
    have := cellsOf_at (fun i j => exCell (nthX es i) (V i) j) hi (show 2 < 3 by omega)
    rw [← h5] at this
    rw [← Array.getElem?_toList]
    exact this
theorem turnX_set {w : World} {L U g o : Nat} {a : Array Value} {u : Value} (h1 : L ≤ g) (h2 : g < U) (h : w.heap[g]? = some (.cells a 29 (0, 0))) (ho : o % 3 ≠ 2) : TurnX L U w (w.setCell ⟨g, o, none⟩ u) := by
  refine ⟨rfl, rfl, rfl, by simp, fun b => ?_⟩
  by_cases e : b = g
  · subst e
    refine .inr ⟨h1, h2, a, _, h, heap_setCell_same w b o a _ u h, by simp, fun x hx => ?_⟩
    rw [Array.getElem?_setIfInBounds_ne (by omega)]
  · exact .inl (heap_setCell_other _ _ _ _ e)
set_option maxHeartbeats 800000 in
theorem markExprS_any {w0 : World} {L U : Nat} {v : Value} {es : List Ex} (h : PX w0 L U v es) : ∀ (k : Int) (w : World), TurnX L U w0 w → 0 ≤ k → k + 2 * sumL one_ es ≤ 4611686018427387904 → sumL one_ es ≤ 1048576 →
    Calls Try.prog 44 #[v, .int .i64 k] w fun e w' => ∃ r : Int, e = .returned (.int .i64 r) ∧ k ≤ r ∧ r ≤ k + 2 * sumL one_ es ∧ TurnX L U w w' := by
  induction h with
  | mk g a V es h1 h2 h3 h4 h5 h6 hk ih =>
    intro k w T0 k0 k1 hs
    have hlen := sumL_length es
    have hl1 : es.length ≤ 1048576 := by omega
    have IH := Lib.hid ih
    have HP := Lib.hid (PX.mk g a V es h1 h2 h3 h4 h5 h6 hk)
    have HF := Lib.hid fun i (hi : i < es.length) => (hk i hi).form
    have HV := Lib.hid h6
    have HS := Lib.hid hs
    clear ih hk h3 hs hlen h6
    go_enter Try.func44, Try.ntmps44
    go_wp2_with fail
    go_loopw [1, 5] (fun q i wr => ∃ (j : Nat) (r : Int), j ≤ es.length ∧ i = .int .i64 j ∧ q = .int .i64 r ∧ k ≤ r ∧ r ≤ k + 2 * sumL one_ (es.take j) ∧ TurnX L U w wr) (fun _ i _ => es.length - (intOf i).toNat)
    case atStart => exact ⟨0, k, by omega, rfl, rfl, by omega, by omega, TurnX.refl _ _ _⟩
    case round =>
      obtain ⟨j, r, hj, rfl, rfl, r0, r1, T⟩ := hrel
      by_cases hlt : j < es.length
      · obtain ⟨a', e4, e5, e6⟩ : ∃ a' : Array Value, wr.heap[g]? = some (.cells a' 29 (0, 0)) ∧ a'.size = es.length * 3 ∧ a'[j * 3 + 2]? = some (V j) := by
          rcases (T0.trans T).block g with e | ⟨_, _, p, q, e1, e2, s1, s2⟩
          · exact ⟨a, e.trans h4, h5, HV.out j hlt⟩
          · rw [h4] at e1
            injection e1 with e1
            injection e1 with e1 _ _
            subst e1
            exact ⟨q, e2, s1.trans h5, (s2 _ (by omega)).trans (HV.out j hlt)⟩
        obtain ⟨gk, hVj⟩ := HF.out j hlt
        have T1 : TurnX L U wr (wr.setCell ⟨g, j * 3, none⟩ (.int .i64 r)) := turnX_set h1 h2 e4 (by omega)
        have e7 := heap_setCell_same wr g (j * 3) a' _ (.int .i64 r) e4
        have T2 : TurnX L U (wr.setCell ⟨g, j * 3, none⟩ (.int .i64 r)) ((wr.setCell ⟨g, j * 3, none⟩ (.int .i64 r)).setCell ⟨g, j * 3 + 1, none⟩ (.int .i64 (r + 1))) := turnX_set h1 h2 e7 (by omega)
        have T3 := T.trans (T1.trans T2)
        have e8 := heap_setCell_same _ g (j * 3 + 1) _ _ (.int .i64 (r + 1)) e7
        obtain ⟨y0, q0⟩ : ∃ y, wr.cell? ⟨g, j * 3, none⟩ = some y := ⟨a'[j * 3]'(by omega), by rw [cell_of_row wr g _ a' _ (0, 0) e4, Array.getElem?_eq_getElem]⟩
        obtain ⟨y1, q1⟩ : ∃ y, wr.cell? ⟨g, j * 3 + 1, none⟩ = some y := ⟨a'[j * 3 + 1]'(by omega), by rw [cell_of_row wr g _ a' _ (0, 0) e4, Array.getElem?_eq_getElem]⟩
        have q2 : ((wr.setCell ⟨g, j * 3, none⟩ (.int .i64 r)).setCell ⟨g, j * 3 + 1, none⟩ (.int .i64 (r + 1))).cell? ⟨g, j * 3 + 2, none⟩ = some (V j) := by
          rw [cell_of_row _ g _ _ _ (0, 0) e8, Array.getElem?_setIfInBounds_ne (by omega), Array.getElem?_setIfInBounds_ne (by omega)]
          exact e6
        have f0 := frozen_of_row wr g (j * 3) a' _ e4
        have f1 := frozen_of_row wr g (j * 3 + 1) a' _ e4
        have st := sumL_step one_ hlt
        rw [sum_eq] at st
        have o1 : one_ (nthX es j).op (nthX es j).num = 1 := rfl
        have tk := sumL_take one_ es (j + 1)
        have ss := HS.out
        have CK := IH.out j hlt (r + 1 + 1) _ (T0.trans T3) (by omega) (by omega) (by omega)
        rw [hVj] at q2 CK
        obtain ⟨t, ht⟩ : ∃ t, sumL one_ (nthX es j).kids = t := ⟨_, rfl⟩
        rw [ht] at st CK
        have CK := Lib.hid CK
        have HT := Lib.hid T3
        have ST := Lib.hid (And.intro st (And.intro o1 r1))
        have rb : r ≤ 4611686018430000000 := by omega
        clear st o1 tk ss ht T T1 T2 T3 e4 e5 e6 e7 e8 hVj r1
        go_wp2_with fail
        refine CK.out.mono ?_
        rintro e w2 ⟨r', rfl, s0, s1, T4⟩
        have HT2 := Lib.hid (HT.out.trans T4)
        have HN : Hid (r' ≤ k + 2 * sumL one_ (es.take (j + 1))) := by
          show _ ≤ _
          obtain ⟨s2, s3, s4⟩ := ST.out
          omega
        clear T4 q0 q1 q2 f0 f1 CK s1
        go_wp2_with fail
        go_roundw
        case rel => exact ⟨j + 1, r', by omega, by go_num, rfl, by omega, HN.out, HT2.out⟩
        case measure => simp [intOf]; omega
      · rw [sumL_all one_ hlt] at r1
        go_wp2_with fail
        go_ret
        exact ⟨_, rfl, r0, r1, T⟩
theorem markExpr_any {w : World} {L U : Nat} {v : Value} {es : List Ex} (h : OExs w L U v es) (o n : Int) (hU : U ≤ w.heap.size) (hs : sumL one_ es ≤ 1048576) :
    Calls Try.prog 20 #[.agg #[.int .i64 o, .int .i64 n, v], .int .i64 1] w fun e w' => ∃ r : Int, e = .returned (.int .i64 r) ∧ 0 ≤ r ∧ Within L U (w.alloc (.cells #[.int .i64 o, .int .i64 n, v] 29)) w' := by
  obtain ⟨W0, hW0⟩ : ∃ W0, W0 = w.alloc (.cells #[.int .i64 o, .int .i64 n, v] 29) := ⟨_, rfl⟩
  have hB0 : Below w.heap.size w W0 := by rw [hW0]; exact (Below.refl _ w).alloc (Nat.le_refl _) _
  have HC := Lib.hid (markExprS_any (h.keep (Same.of_below hB0 hU)).px 1 W0 (TurnX.refl _ _ _) (by omega) (by omega) hs)
  obtain ⟨g, rfl⟩ := h.form
  rw [← hW0]
  clear h
  go_enter Try.func20, Try.ntmps20
  go_wp2_with fail
  rw [← hW0]
  clear hW0
  refine HC.out.mono ?_
  rintro e w2 ⟨r, rfl, r0, _, T⟩
  go_wp2_with fail
  go_ret
  exact ⟨_, rfl, by omega, T.within⟩
end Go.Proofs.Ytmahamlfdegkkab
