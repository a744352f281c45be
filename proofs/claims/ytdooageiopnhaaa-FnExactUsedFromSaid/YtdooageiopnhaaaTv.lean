/- Marks in general: what marking turns is numbers; slices stay. Marks on rows of ints. -/
import Derived.Test.YtdooageiopnhaaaOi
namespace Go.Proofs.Ytdooageiopnhaaa
open Go.RowKit Go.BigFrame
/-- Cells of two rows: slices are the same, numbers are numbers. -/
def Cs (a a' : Array Value) : Prop := a'.size = a.size ∧ (∀ (x : Nat) s n c, a[x]? = some (Value.slice s n c) → a'[x]? = some (Value.slice s n c)) ∧ ∀ (x : Nat) n, a[x]? = some (Value.int .i64 n) → ∃ m, a'[x]? = some (Value.int .i64 m)
theorem Cs.refl (a : Array Value) : Cs a a := ⟨rfl, fun _ _ _ _ h => h, fun _ n h => ⟨n, h⟩⟩
theorem Cs.trans {a b c : Array Value} (h : Cs a b) (k : Cs b c) : Cs a c := by
  refine ⟨k.1.trans h.1, fun x s n c e => k.2.1 x s n c (h.2.1 x s n c e), fun x n e => ?_⟩
  obtain ⟨m, e'⟩ := h.2.2 x n e
  exact k.2.2 x m e'
theorem Cs.set {a : Array Value} {o : Nat} {n m : Int} (h : a[o]? = some (.int .i64 n)) : Cs a (a.setIfInBounds o (.int .i64 m)) := by
  refine ⟨by simp, fun x s n' c e => ?_, fun x n' e => ?_⟩
  · by_cases hx : o = x
    · subst hx; rw [h] at e; cases e
    · rw [Array.getElem?_setIfInBounds_ne hx]; exact e
  · by_cases hx : o = x
    · subst hx
      have : o < a.size := (Array.getElem?_eq_some_iff.1 h).1
      exact ⟨m, by rw [Array.getElem?_setIfInBounds_self, if_pos this]⟩
    · exact ⟨n', by rw [Array.getElem?_setIfInBounds_ne hx]; exact e⟩
/-- What marking turns: numbers in rows between L and U. -/
structure TurnV (L U : Nat) (w w' : World) : Prop where
  os : w'.os = w.os
  tape : w'.tape = w.tape
  output : w'.output = w.output
  size : w'.heap.size = w.heap.size
  block : ∀ b, w'.heap[b]? = w.heap[b]? ∨ (L ≤ b ∧ b < U ∧ ∃ (T : TypeId) (a a' : Array Value), w.heap[b]? = some (.cells a T (0, 0)) ∧ w'.heap[b]? = some (.cells a' T (0, 0)) ∧ Cs a a')
theorem TurnV.refl (L U : Nat) (w : World) : TurnV L U w w := ⟨rfl, rfl, rfl, rfl, fun _ => .inl rfl⟩
theorem TurnV.trans {L U : Nat} {a b c : World} (h : TurnV L U a b) (k : TurnV L U b c) : TurnV L U a c := by
  refine ⟨k.os.trans h.os, k.tape.trans h.tape, k.output.trans h.output, k.size.trans h.size, fun x => ?_⟩
  rcases h.block x with e1 | ⟨l1, l2, T, p, q, e1, e2, s1⟩
  · rcases k.block x with e3 | ⟨l1, l2, T, p, q, e3, e4, s1⟩
    · exact .inl (e3.trans e1)
    · exact .inr ⟨l1, l2, T, p, q, e1.symm.trans e3, e4, s1⟩
  · rcases k.block x with e3 | ⟨_, _, T', p', q', e3, e4, s3⟩
    · exact .inr ⟨l1, l2, T, p, q, e1, e3.trans e2, s1⟩
    · rw [e2] at e3
      injection e3 with e3
      injection e3 with e3 e5 _
      subst e3 e5
      exact .inr ⟨l1, l2, T, p, q', e1, e4, s1.trans s3⟩
theorem TurnV.within {L U : Nat} {w w' : World} (h : TurnV L U w w') : Within L U w w' :=
  ⟨h.os, h.tape, h.output, h.size, fun b hb => by
    rcases h.block b with e | ⟨l1, l2, _⟩
    · exact e
    · omega⟩
theorem TurnV.row {L U g : Nat} {w w' : World} {a : Array Value} {T : TypeId} (t : TurnV L U w w') (h : w.heap[g]? = some (.cells a T (0, 0))) : ∃ a', w'.heap[g]? = some (.cells a' T (0, 0)) ∧ Cs a a' := by
  rcases t.block g with e | ⟨_, _, T', p, q, e1, e2, s⟩
  · exact ⟨a, e.trans h, Cs.refl a⟩
  · rw [h] at e1
    injection e1 with e1
    injection e1 with e1 e5 _
    subst e1 e5
    exact ⟨q, e2, s⟩
theorem TurnV.set {w : World} {L U g o : Nat} {a : Array Value} {T : TypeId} {n m : Int} (h1 : L ≤ g) (h2 : g < U) (h : w.heap[g]? = some (.cells a T (0, 0))) (ho : a[o]? = some (.int .i64 n)) : TurnV L U w (w.setCell ⟨g, o, none⟩ (.int .i64 m)) := by
  refine ⟨rfl, rfl, rfl, by simp, fun b => ?_⟩
  by_cases e : b = g
  · subst e
    exact .inr ⟨h1, h2, T, a, _, h, heap_setCell_same w b o a _ _ h, Cs.set ho⟩
  · exact .inl (heap_setCell_other _ _ _ _ e)
/-- A row of numbers, by its shape. -/
def PI (w : World) (L U : Nat) (v : Value) (n : Nat) : Prop := ∃ (g : Nat) (a : Array Value) (T : TypeId), v = .slice (some ⟨g, 0, none⟩) n n ∧ L ≤ g ∧ g < U ∧ n ≤ maxLen ∧ w.heap[g]? = some (.cells a T (0, 0)) ∧ a.size = n ∧ ∀ x, x < n → ∃ m, a[x]? = some (Value.int .i64 m)
theorem PI.turn {w w' : World} {L U L' U' n : Nat} {v : Value} (h : PI w L U v n) (t : TurnV L' U' w w') : PI w' L U v n := by
  obtain ⟨g, a, T, e, h1, h2, h3, h4, h5, h6⟩ := h
  obtain ⟨a', e', s⟩ := t.row h4
  exact ⟨g, a', T, e, h1, h2, h3, e', s.1.trans h5, fun x hx => by obtain ⟨m, hm⟩ := h6 x hx; exact s.2.2 x m hm⟩
theorem OInts.pi {w : World} {L U : Nat} {v : Value} {xs : List Int} (h : OInts w L U v xs) : PI w L U v xs.length := by
  obtain ⟨g, a, rfl, h1, h2, h3, h4, h5⟩ := h
  have hz : a.size = xs.length := by have := congrArg List.length h5; simpa using this
  refine ⟨g, a, _, rfl, h1, h2, h3, h4, hz, fun x hx => ⟨xs[x], ?_⟩⟩
  rw [← Array.getElem?_toList, h5]; simp [hx]
set_option maxHeartbeats 400000 in
theorem markI_any (L U n : Nat) (v : Value) (k : Int) (w : World) (hv : PI w L U v n) (h0 : 0 ≤ k) (h1 : k ≤ 4611686018427387904) (hs : n ≤ 1048576) :
    Calls Try.prog 12 #[v, .int .i64 k] w fun e w' => e = .returned (.int .i64 (k + (n : Int))) ∧ TurnV L U w w' := by
  have hv0 := hv
  obtain ⟨g, a, T, rfl, l1, l2, l3, l4, l5, l6⟩ := hv0
  clear l4 l5 l6
  go_enter Try.func12, Try.ntmps12
  go_wp2_with fail
  go_loopw [1, 5] (fun q i wr => ∃ j : Nat, j ≤ n ∧ i = .int .i64 j ∧ q = .int .i64 (k + (j : Int)) ∧ TurnV L U w wr) (fun _ i _ => n - (intOf i).toNat)
  case atStart => exact ⟨0, by omega, rfl, by simp, TurnV.refl _ _ _⟩
  case round =>
    obtain ⟨j, hj, rfl, rfl, T0⟩ := hrel
    by_cases hlt : j < n
    · obtain ⟨g', a', T', e', _, _, _, d4, d5, d6⟩ := hv.turn T0
      injection e' with e1 _ _
      injection e1 with e1
      injection e1 with e1 _ _
      subst e1
      obtain ⟨m, hm⟩ := d6 j hlt
      have q1 : wr.cell? ⟨g, j, none⟩ = some (.int .i64 m) := by rw [cell_of_row wr g _ a' _ (0, 0) d4]; exact hm
      have f1 := frozen_of_row wr g j a' _ d4
      have T2 := Lib.hid (T0.trans (TurnV.set (m := k + (j : Int)) l1 l2 d4 hm))
      clear d4 d5 d6 hm T0
      go_wp2_with fail
      go_roundw
      case rel => exact ⟨j + 1, by omega, by go_num, by rw [show k + ((j + 1 : Nat) : Int) = k + (j : Int) + 1 by omega], T2.out⟩
      case measure => simp [intOf]; omega
    · go_wp2_with fail
      go_ret
      obtain rfl : j = n := by omega
      exact ⟨rfl, T0⟩
end Go.Proofs.Ytdooageiopnhaaa
