/- Marks on copies of declarations; marks that are looked for. -/
import Derived.Test.YtgbeongiejppnaaGd
import Derived.Test.YtgbeongiejppnaaGa
namespace Go.Proofs.Ytgbeongiejppnaa
open Go.RowKit Go.BigFrame Go.Deep
/-- What marking turns: rows of ints between L and U, and whatever block G names. -/
structure Turn (G : Option Nat) (L U : Nat) (w w' : World) : Prop where
  os : w'.os = w.os
  tape : w'.tape = w.tape
  output : w'.output = w.output
  size : w'.heap.size = w.heap.size
  block : ∀ b, some b ≠ G → w'.heap[b]? = w.heap[b]? ∨ (L ≤ b ∧ b < U ∧ ∃ xs ys : List Int, ys.length = xs.length ∧ w.heap[b]? = some (.cells (xs.map (Value.int .i64)).toArray 3 (0, 0)) ∧ w'.heap[b]? = some (.cells (ys.map (Value.int .i64)).toArray 3 (0, 0)))
theorem Turn.refl (G : Option Nat) (L U : Nat) (w : World) : Turn G L U w w := ⟨rfl, rfl, rfl, rfl, fun _ _ => .inl rfl⟩
theorem Turn.trans {G : Option Nat} {L U : Nat} {a b c : World} (h : Turn G L U a b) (k : Turn G L U b c) : Turn G L U a c := by
  refine ⟨k.os.trans h.os, k.tape.trans h.tape, k.output.trans h.output, k.size.trans h.size, fun x hx => ?_⟩
  rcases h.block x hx with e1 | ⟨l1, l2, xs, ys, hl, e1, e2⟩
  · rcases k.block x hx with e3 | ⟨l1, l2, xs, ys, hl, e3, e4⟩
    · exact .inl (e3.trans e1)
    · exact .inr ⟨l1, l2, xs, ys, hl, e1.symm.trans e3, e4⟩
  · rcases k.block x hx with e3 | ⟨_, _, xs', ys', hl', e3, e4⟩
    · exact .inr ⟨l1, l2, xs, ys, hl, e1, e3.trans e2⟩
    · refine .inr ⟨l1, l2, xs, ys', ?_, e1, e4⟩
      rw [e2] at e3
      injection e3 with e3
      injection e3 with e3 _ _
      have := congrArg Array.size e3
      simp at this
      omega
theorem Turn.weak {L U : Nat} {w w' : World} (h : Turn none L U w w') (G : Option Nat) : Turn G L U w w' := ⟨h.os, h.tape, h.output, h.size, fun b _ => h.block b (by simp)⟩
theorem OInts.turn {G : Option Nat} {w w' : World} {L U L' U' : Nat} {v : Value} {xs : List Int} (h : OInts w L U v xs) (t : Turn G L' U' w w') (hG : ∀ g, G = some g → ∃ a, w.heap[g]? = some (.cells a 30 (0, 0))) : ∃ ys, ys.length = xs.length ∧ OInts w' L U v ys := by
  obtain ⟨g, a, rfl, h1, h2, h3, h4, h5⟩ := h
  have hne : some g ≠ G := fun e => by
    obtain ⟨a', ha⟩ := hG g e.symm
    rw [h4] at ha
    injection ha with ha
    injection ha with _ ha _
    cases ha
  rcases t.block g hne with e | ⟨_, _, xs', ys, hl, e1, e2⟩
  · exact ⟨xs, rfl, g, a, rfl, h1, h2, h3, e.trans h4, h5⟩
  · rw [h4] at e1
    injection e1 with e1
    injection e1 with e1 _ _
    have hz : xs'.length = xs.length := by
      have z1 := congrArg Array.size e1
      have z2 := congrArg List.length h5
      simp at z1 z2
      omega
    exact ⟨ys, by omega, g, _, by rw [show ys.length = xs.length by omega], h1, h2, by omega, e2, rfl⟩
def SC (w : World) (L U : Nat) (v : Value) (n : Nat) : Prop := ∃ cs, cs.length = n ∧ SmallC cs ∧ OCons w L U v cs
theorem SC.turn {G : Option Nat} {w w' : World} {L U L' U' n : Nat} {v : Value} (h : SC w L U v n) (t : Turn G L' U' w w') (hG : ∀ g, G = some g → ∃ a, w.heap[g]? = some (.cells a 30 (0, 0))) : SC w' L U v n := by
  obtain ⟨cs, hn, hs, V, hb, hi⟩ := h
  obtain ⟨Y, hY⟩ := choose_lt fun i (hi' : i < cs.length) => (hi i hi').turn t hG
  have hlen : ((List.range cs.length).map Y).length = cs.length := by simp
  refine ⟨(List.range cs.length).map Y, by rw [hlen, hn], ⟨by rw [hlen]; exact hs.1, fun i hi' => ?_⟩, V, ?_, fun i hi' => ?_⟩
  · rw [hlen] at hi'
    rw [nthL_of (by rw [hlen]; exact hi'), List.getElem_map, List.getElem_range, (hY i hi').1]
    exact hs.2 i hi'
  · rw [hlen]
    obtain ⟨g, a, e, h1, h2, h3, h4, h5⟩ := hb
    refine ⟨g, a, e, h1, h2, h3, ?_, h5⟩
    have hne : some g ≠ G := fun e => by
      obtain ⟨a', ha⟩ := hG g e.symm
      rw [h4] at ha
      injection ha with ha
      injection ha with _ ha _
      cases ha
    rcases t.block g hne with e | ⟨_, _, xs', ys, hl, e1, e2⟩
    · exact e.trans h4
    · rw [h4] at e1
      injection e1 with e1
      injection e1 with _ e1 _
      cases e1
  · rw [hlen] at hi'
    rw [nthL_of (by rw [hlen]; exact hi'), List.getElem_map, List.getElem_range]
    exact (hY i hi').2
end Go.Proofs.Ytgbeongiejppnaa
