/- Marks on copies of declarations; marks that are looked for. -/
import Derived.Test.YtihmkaodjpgikaaGreatGd
import Derived.Test.YtihmkaodjpgikaaGreatGa
namespace Go.Proofs.YtihmkaodjpgikaaGreat
open Go.RowKit Go.BigFrame Go.Deep
/-- What marking turns: rows of ints between L and U, and whatever block G names. -/
structure Turn (G : Option Nat) (L U : Nat) (w w' : World) : Prop where
  os : w'.os = w.os
  tape : w'.tape = w.tape
  output : w'.output = w.output
  size : w'.heap.size = w.heap.size
  block : ∀ b, some b ≠ G → w'.heap[b]? = w.heap[b]? ∨ (L ≤ b ∧ b < U ∧ ∃ xs ys : List Int, ys.length = xs.length ∧ w.heap[b]? = some (.cells (xs.map (Value.int .i64)).toArray 3 (0, 0)) ∧ w'.heap[b]? = some (.cells (ys.map (Value.int .i64)).toArray 3 (0, 0)))
theorem Turn.refl (G : Option Nat) (L U : Nat) (w : World) : Turn G L U w w := ⟨rfl, rfl, rfl, rfl, fun _ _ => .inl rfl⟩
theorem Turn.trans {G : Option Nat} {L U : Nat} {a b c : World} (h : Turn G L U a b) (k : Turn G L U b c) : Turn G L U a c := by
  refine ⟨k.os.trans h.os, k.tape.trans h.tape, k.output.trans h.output, k.size.trans h.size, fun x hx => ?_⟩
  rcases h.block x hx with e1 | ⟨l1, l2, xs, ys, hl, e1, e2⟩
  · rcases k.block x hx with e3 | ⟨l1, l2, xs, ys, hl, e3, e4⟩
    · exact .inl (e3.trans e1)
    · exact .inr ⟨l1, l2, xs, ys, hl, e1.symm.trans e3, e4⟩
  · rcases k.block x hx with e3 | ⟨_, _, xs', ys', hl', e3, e4⟩
    · exact .inr ⟨l1, l2, xs, ys, hl, e1, e3.trans e2⟩
    · refine .inr ⟨l1, l2, xs, ys', ?_, e1, e4⟩
      rw [e2] at e3
      injection e3 with e3
      injection e3 with e3 _ _
      have := congrArg Array.size e3
      simp at this
      omega
theorem Turn.weak {L U : Nat} {w w' : World} (h : Turn none L U w w') (G : Option Nat) : Turn G L U w w' := ⟨h.os, h.tape, h.output, h.size, fun b _ => h.block b (by simp)⟩
/-- A mark over a row that fills its block. -/
theorem markOne (L U : Nat) (xs : List Int) (v : Value) (k : Int) (w : World) (hv : OInts w L U v xs) (h0 : 0 ≤ k) (h1 : k ≤ 4611686018427387904) (hs : xs.length ≤ 1048576) :
    Calls Tryz.prog 11 #[v, .int .i64 k] w fun e w' => e = .returned (.int .i64 (k + xs.length)) ∧ Turn none L U w w' := by
  refine (markIntS_any L xs v k w hv.own h0 h1 hs).mono ?_
  rintro e w' ⟨rfl, ho, hg, hz⟩
  refine ⟨rfl, hg.os, hg.tape, hg.output, hz, fun b _ => ?_⟩
  obtain ⟨g, a, rfl, l1, l2, l3, l4, l5⟩ := hv
  by_cases e : b = g
  · subst e
    refine .inr ⟨l1, l2, xs, mk xs k xs.length, length_mk _ _ _, ?_, ?_⟩
    · rw [l4, ← l5]
    · rcases ho.2 with ⟨h', _⟩ | ⟨g', cap, cur, h', _, hgc, _, _, hcs, htake⟩
      · cases h'
      · injection h' with e1 e2 e3
        injection e1 with e1
        injection e1 with e1 _ _
        subst e1 e3
        rw [hgc, ← htake, List.take_of_length_le (by rw [Array.length_toList, hcs, length_mk]; exact Nat.le_refl _)]
  · by_cases hb : b < w.heap.size
    · exact .inl (hg.block b hb (by simp [Value.ownBlock]; exact e))
    · left
      rw [Array.getElem?_eq_none (by omega), Array.getElem?_eq_none (by omega)]
theorem OInts.turn {G : Option Nat} {w w' : World} {L U L' U' : Nat} {v : Value} {xs : List Int} (h : OInts w L U v xs) (t : Turn G L' U' w w') (hG : ∀ g, G = some g → ∃ a, w.heap[g]? = some (.cells a 73 (0, 0))) : ∃ ys, ys.length = xs.length ∧ OInts w' L U v ys := by
  obtain ⟨g, a, rfl, h1, h2, h3, h4, h5⟩ := h
  have hne : some g ≠ G := fun e => by
    obtain ⟨a', ha⟩ := hG g e.symm
    rw [h4] at ha
    injection ha with ha
    injection ha with _ ha _
    cases ha
  rcases t.block g hne with e | ⟨_, _, xs', ys, hl, e1, e2⟩
  · exact ⟨xs, rfl, g, a, rfl, h1, h2, h3, e.trans h4, h5⟩
  · rw [h4] at e1
    injection e1 with e1
    injection e1 with e1 _ _
    have hz : xs'.length = xs.length := by
      have z1 := congrArg Array.size e1
      have z2 := congrArg List.length h5
      simp at z1 z2
      omega
    exact ⟨ys, by omega, g, _, by rw [show ys.length = xs.length by omega], h1, h2, by omega, e2, rfl⟩
def SC (w : World) (L U : Nat) (v : Value) (n : Nat) : Prop := ∃ cs, cs.length = n ∧ SmallC cs ∧ OCons w L U v cs
theorem SC.turn {G : Option Nat} {w w' : World} {L U L' U' n : Nat} {v : Value} (h : SC w L U v n) (t : Turn G L' U' w w') (hG : ∀ g, G = some g → ∃ a, w.heap[g]? = some (.cells a 73 (0, 0))) : SC w' L U v n := by
  obtain ⟨cs, hn, hs, V, hb, hi⟩ := h
  obtain ⟨Y, hY⟩ := choose_lt fun i (hi' : i < cs.length) => (hi i hi').turn t hG
  have hlen : ((List.range cs.length).map Y).length = cs.length := by simp
  refine ⟨(List.range cs.length).map Y, by rw [hlen, hn], ⟨by rw [hlen]; exact hs.1, fun i hi' => ?_⟩, V, ?_, fun i hi' => ?_⟩
  · rw [hlen] at hi'
    rw [nthL_of (by rw [hlen]; exact hi'), List.getElem_map, List.getElem_range, (hY i hi').1]
    exact hs.2 i hi'
  · rw [hlen]
    obtain ⟨g, a, e, h1, h2, h3, h4, h5⟩ := hb
    refine ⟨g, a, e, h1, h2, h3, ?_, h5⟩
    have hne : some g ≠ G := fun e => by
      obtain ⟨a', ha⟩ := hG g e.symm
      rw [h4] at ha
      injection ha with ha
      injection ha with _ ha _
      cases ha
    rcases t.block g hne with e | ⟨_, _, xs', ys, hl, e1, e2⟩
    · exact e.trans h4
    · rw [h4] at e1
      injection e1 with e1
      injection e1 with _ e1 _
      cases e1
  · rw [hlen] at hi'
    rw [nthL_of (by rw [hlen]; exact hi'), List.getElem_map, List.getElem_range]
    exact (hY i hi').2
set_option maxHeartbeats 400000 in
theorem markConS_any (L U n : Nat) (v : Value) (k : Int) (w : World) (hv : SC w L U v n) (h0 : 0 ≤ k) (h1 : k ≤ 2305843009213693952) :
    Calls Tryz.prog 42 #[v, .int .i64 k] w fun e w' => ∃ r : Int, e = .returned (.int .i64 r) ∧ k ≤ r ∧ r ≤ k + 1099511627776 ∧ Turn none L U w w' := by
  obtain ⟨cs, hn, hs, ho⟩ := hv
  have hs1 := hs.1
  obtain ⟨B, d, hB, hl, hd⟩ := ho.cons.open_
  rw [hn] at hB hl
  subst hB
  have HV := Lib.hid (show SC w L U _ n from ⟨cs, hn, hs, ho⟩)
  clear hs ho
  have hn2 : n ≤ 1048576 := by omega
  clear hn hs1
  go_enter Tryz.func42, Tryz.ntmps42
  go_wp2_with fail
  go_loopw [1, 5] (fun q i wr => ∃ (j : Nat) (r : Int), j ≤ n ∧ i = .int .i64 j ∧ q = .int .i64 r ∧ k ≤ r ∧ r ≤ k + j * 1048576 ∧ Turn none L U w wr) (fun _ i _ => n - (intOf i).toNat)
  case atStart => exact ⟨0, k, by omega, rfl, rfl, by omega, by omega, Turn.refl _ _ _ _⟩
  case round =>
    obtain ⟨j, r, hj, rfl, rfl, r0, r1, T⟩ := hrel
    by_cases hlt : j < n
    · obtain ⟨cs', hn', hs', ho'⟩ := HV.out.turn T (fun g e => by cases e)
      obtain ⟨V, hb', hi'⟩ := ho'
      have hoj := hi' j (by omega)
      have hc' := (show OCons wr L U _ cs' from ⟨V, hb', hi'⟩).cons
      have hsj := hs'.2 j (by omega)
      have hc3 : ∃ b o, B = some ⟨b, o, none⟩ ∧ wr.cell? ⟨b, o + j, none⟩ = some (V j) := by
        obtain ⟨g, e, row⟩ := hb'.row
        injection e with e1 e2 e3
        obtain ⟨b, o, eb, _, _, hcell⟩ := row.place (by omega)
        exact ⟨b, o, e1.trans eb, by have := hcell j 0 (by omega) (by omega); rwa [Nat.mul_one, Nat.add_zero] at this⟩
      obtain ⟨b, o, rfl, hc⟩ := hc3
      obtain ⟨g, a, hVj, _, _, _, _, _⟩ := hoj
      have hoj := hi' j (by omega)
      rw [hVj] at hc hoj
      have r2 : 0 ≤ r := by omega
      have r3 : r ≤ 4611686018427387904 := by omega
      have Hs := Lib.hid hsj
      clear hb' hi' hc' hs' hsj hVj
      go_wp2_with fail
      refine (markOne _ _ _ _ _ _ hoj r2 r3 Hs.out).mono ?_
      rintro e w1 ⟨rfl, T1⟩
      have T2 := T.trans T1
      have r4 := Hs.out
      clear T T1 hoj hc
      obtain ⟨z, hz⟩ : ∃ z, z = (nthL cs' j).length := ⟨_, rfl⟩
      rw [← hz] at r4 ⊢
      have HT := Lib.hid T2
      clear T2 hz Hs
      go_wp2_with fail
      go_roundw
      case rel => exact ⟨j + 1, _, by omega, by go_num, rfl, by omega, by omega, HT.out⟩
      case measure => simp [intOf]; omega
    · go_wp2_with fail
      go_ret
      exact ⟨_, rfl, r0, by omega, T⟩
end Go.Proofs.YtihmkaodjpgikaaGreat
