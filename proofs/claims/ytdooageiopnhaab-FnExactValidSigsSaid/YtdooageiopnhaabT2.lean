/- Contracts of chapter 2: the number of nodes, as the model counts it; the functions that are called from outside. -/
import Derived.Test.YtdooageiopnhaabT1
namespace Go.Proofs.Ytdooageiopnhaab
open Go.RowKit Go.BigFrame
set_option maxHeartbeats 400000 in
theorem nodesLeft_any {w0 : World} {L U : Nat} {u : Value} {ks : List Ex} (h : Exs w0 L U u ks) : ∀ (o n : Int) (left : Nat) (w : World), Same L U w0 w → U ≤ w.heap.size → left ≤ 1000000 →
    Calls Try.prog 68 #[.agg #[.int .i64 o, .int .i64 n, u], .int .i64 left] w fun e w' => e = .returned (.int .i64 (leftV left (1 + sumL one_ ks))) ∧ Below w.heap.size w w' := by
  induction h with
  | mk A c V es r hk ih =>
    intro o n left w hS hU hlim
    have hl := r.le
    have hc : c ≤ 9223372036854775807 := r.cap
    have hsub := fun i (hi : i < es.length) => (hk i hi).open_
    obtain ⟨W0, hW0⟩ : ∃ W0, W0 = w.alloc (.cells #[.int .i64 o, .int .i64 n, .slice A es.length c] 28) := ⟨_, rfl⟩
    have hB0 : Below w.heap.size w W0 := by rw [hW0]; exact (Below.refl _ w).alloc (Nat.le_refl _) _
    have hz0 : W0.heap.size = w.heap.size + 1 := by rw [hW0]; simp
    have hbox : W0.heap[w.heap.size]? = some (.cells #[.int .i64 o, .int .i64 n, .slice A es.length c] 28 (0, 0)) := by rw [hW0]; exact alloc_last _ _ _ rfl
    have IH := Lib.hid ih
    have HS := Lib.hid hsub
    have HX := Lib.hid hbox
    clear ih hsub hk hbox
    by_cases h1 : 1 ≤ left
    · go_enter Try.func68, Try.ntmps68
      go_wp2_with fail
      rw [← hW0]
      go_loopw [1, 5] (fun m i wr => ∃ k q : Nat, k ≤ es.length ∧ i = .int .i64 k ∧ m = .int .i64 q ∧ q + (1 + sumL one_ (es.take k)) = left ∧ Below W0.heap.size W0 wr) (fun _ i _ => es.length - (intOf i).toNat)
      case atStart => exact ⟨0, left - 1, by omega, rfl, by exact congrArg (Value.int .i64) (by omega), by simp [sumL]; omega, Below.refl _ _⟩
      case round =>
        obtain ⟨k, q, hk, rfl, rfl, hq, hB⟩ := hrel
        have hz := hB.size
        have hw : Below w.heap.size w wr := hB0.trans (hB.mono (by omega))
        have cb := cell_of_row wr w.heap.size 2 _ _ (0, 0) ((hB.block _ (by omega)).trans HX.out)
        simp only [List.getElem?_toArray, List.getElem?_cons_zero, List.getElem?_cons_succ] at cb
        by_cases hlt : k < es.length
        · have hS1 : Same L U w0 wr := hS.trans (Same.of_below hw hU)
          obtain ⟨b, oo, rfl, _, hb, c0, c1, c2⟩ := row_at (r.keep hS1) hlt
          obtain ⟨A', c', hV, _, _⟩ := HS.out k hlt
          have st := sumL_step one_ hlt
          have tot := sumL_take one_ es (k + 1)
          have IHk := Lib.hid (IH.out k hlt (nthX es k).op (nthX es k).num q wr hS1 (by omega) (by omega))
          have hn : (nthX es k).sum one_ = 1 + sumL one_ (nthX es k).kids := by rw [sum_eq]; rfl
          rw [hV] at c2 IHk
          rw [← hn] at IHk
          obtain ⟨s, hs⟩ : ∃ s, sumL one_ (es.take k) = s := ⟨_, rfl⟩
          obtain ⟨t, ht⟩ : ∃ t, (nthX es k).sum one_ = t := ⟨_, rfl⟩
          obtain ⟨s', hs'⟩ : ∃ s', sumL one_ (es.take (k + 1)) = s' := ⟨_, rfl⟩
          obtain ⟨T, hT⟩ : ∃ T, sumL one_ es = T := ⟨_, rfl⟩
          rw [hs, ht, hs'] at st
          rw [hs', hT] at tot
          rw [hs] at hq
          rw [ht] at IHk
          have HT := Lib.hid hT
          have HH := Lib.hid hs'
          clear hs hn hs' hT ht
          by_cases hle : t ≤ q
          · obtain ⟨x, hx⟩ : ∃ x : Nat, leftV q t = (x : Int) := ⟨q - t, by unfold leftV; rw [if_pos hle]; omega⟩
            have hx2 : x + t = q := by unfold leftV at hx; rw [if_pos hle] at hx; omega
            rw [hx] at IHk
            clear hx
            go_wp2_with fail
            refine IHk.out.mono ?_
            rintro e w2 ⟨rfl, hB2⟩
            have hB5 := Lib.hid (hB.trans (hB2.mono hz))
            clear hB2 hB hw hS1
            go_wp2_with fail
            go_roundw
            case rel => exact ⟨k + 1, x, by omega, by go_num, rfl, by rw [HH.out]; omega, hB5.out⟩
            case measure => simp [intOf]; omega
          · rw [show leftV q t = -1 by unfold leftV; rw [if_neg hle]] at IHk
            go_wp2_with fail
            refine IHk.out.mono ?_
            rintro e w2 ⟨rfl, hB2⟩
            have hB5 := Lib.hid (hw.trans (hB2.mono hw.size))
            clear hB2 hB hw hS1
            go_wp2_with fail
            go_ret
            exact ⟨ret_int (by unfold leftV; rw [HT.out, if_neg (by omega)]), hB5.out⟩
        · rw [sumL_all one_ hlt] at hq
          go_wp2_with fail
          go_ret
          exact ⟨ret_int (by unfold leftV; rw [if_pos (by omega)]; omega), hw⟩
    · go_enter Try.func68, Try.ntmps68
      go_wp2_with fail
      rw [← hW0]
      go_ret
      exact ⟨ret_int (by unfold leftV; rw [if_neg (by omega)]), hB0⟩
theorem nodesUpTo_is {w : World} {L U : Nat} {u : Value} {ks : List Ex} (h : Exs w L U u ks) (o n : Int) (hU : U ≤ w.heap.size) {x : Nat} (hx : min (1 + sumL one_ ks) (30 + 1) = x) :
    Calls Try.prog 70 #[.agg #[.int .i64 o, .int .i64 n, u], .int .i64 30] w fun e w' => e = .returned (.int .i64 (x : Int)) ∧ Below w.heap.size w w' := by
  subst hx
  exact nodesUpTo_any h o n 30 w (Same.refl _ _ _) hU (by omega)
theorem nodesTop {w : World} {L U : Nat} {u : Value} {ks : List Ex} (h : Exs w L U u ks) (o n : Int) (hU : U ≤ w.heap.size) :
    Calls Try.prog 40 #[.agg #[.int .i64 o, .int .i64 n, u]] w fun e w' => e = .returned (.int .i64 (nodesOfV ks)) ∧ Below w.heap.size w w' := by
  by_cases h30 : 1 + sumL one_ ks ≤ 30
  · obtain ⟨x, hx⟩ : ∃ x, min (1 + sumL one_ ks) (30 + 1) = x := ⟨_, rfl⟩
    have hx2 : x ≤ 30 := by omega
    rw [show nodesOfV ks = (x : Int) by unfold nodesOfV; rw [if_pos h30]; omega]
    have HX := Lib.hid fun O => nodesUpTo_is (h.keep (Same.of_below ((Below.refl w.heap.size w).alloc (Nat.le_refl _) O) hU)) o n (by simp; omega) hx
    clear h hx h30
    go_enter Try.func40, Try.ntmps40
    go_wp2_with fail
    refine (HX.out _).mono ?_
    rintro e w' ⟨rfl, hB⟩
    go_wp2_with fail
    go_ret
    exact ⟨rfl, ((Below.refl _ w).alloc (Nat.le_refl _) _).trans (hB.mono (by simp))⟩
  · rw [show nodesOfV ks = -1 by unfold nodesOfV; rw [if_neg h30]]
    have HX := Lib.hid fun O => nodesUpTo_is (h.keep (Same.of_below ((Below.refl w.heap.size w).alloc (Nat.le_refl _) O) hU)) o n (by simp; omega) (x := 31) (by omega)
    clear h h30
    go_enter Try.func40, Try.ntmps40
    go_wp2_with fail
    refine (HX.out _).mono ?_
    rintro e w' ⟨rfl, hB⟩
    go_wp2_with fail
    go_ret
    exact ⟨rfl, ((Below.refl _ w).alloc (Nat.le_refl _) _).trans (hB.mono (by simp))⟩
theorem nodesLeft_is {w : World} {L U : Nat} {u : Value} {ks : List Ex} (h : Exs w L U u ks) (o n : Int) (hU : U ≤ w.heap.size) {x : Int} (hx : leftV 30 (1 + sumL one_ ks) = x) :
    Calls Try.prog 68 #[.agg #[.int .i64 o, .int .i64 n, u], .int .i64 30] w fun e w' => e = .returned (.int .i64 x) ∧ Below w.heap.size w w' := by
  subst hx
  exact nodesLeft_any h o n 30 w (Same.refl _ _ _) hU (by omega)
theorem sNodes_any {w : World} {L U : Nat} {u : Value} {ks : List Ex} (h : Exs w L U u ks) (o n : Int) (hU : U ≤ w.heap.size) :
    Calls Try.prog 35 #[.agg #[.int .i64 o, .int .i64 n, u]] w fun e w' => e = .returned (.int .i64 (nodesOfV ks)) ∧ Below w.heap.size w w' := by
  by_cases h30 : 1 + sumL one_ ks ≤ 30
  · obtain ⟨x, hx⟩ : ∃ x : Nat, leftV 30 (1 + sumL one_ ks) = (x : Int) := ⟨30 - (1 + sumL one_ ks), by unfold leftV; rw [if_pos h30]; omega⟩
    have hx2 : x ≤ 30 := by unfold leftV at hx; rw [if_pos h30] at hx; omega
    rw [show nodesOfV ks = 30 - (x : Int) by unfold nodesOfV; rw [if_pos h30]; unfold leftV at hx; rw [if_pos h30] at hx; omega]
    have HX := Lib.hid fun O => nodesLeft_is (h.keep (Same.of_below ((Below.refl w.heap.size w).alloc (Nat.le_refl _) O) hU)) o n (by simp; omega) hx
    clear h hx h30
    go_enter Try.func35, Try.ntmps35
    go_wp2_with fail
    refine (HX.out _).mono ?_
    rintro e w' ⟨rfl, hB⟩
    go_wp2_with fail
    go_ret
    exact ⟨rfl, ((Below.refl _ w).alloc (Nat.le_refl _) _).trans (hB.mono (by simp))⟩
  · rw [show nodesOfV ks = -1 by unfold nodesOfV; rw [if_neg h30]]
    have HX := Lib.hid fun O => nodesLeft_is (h.keep (Same.of_below ((Below.refl w.heap.size w).alloc (Nat.le_refl _) O) hU)) o n (by simp; omega) (x := -1) (by unfold leftV; rw [if_neg h30])
    clear h h30
    go_enter Try.func35, Try.ntmps35
    go_wp2_with fail
    refine (HX.out _).mono ?_
    rintro e w' ⟨rfl, hB⟩
    go_wp2_with fail
    go_ret
    exact ⟨rfl, ((Below.refl _ w).alloc (Nat.le_refl _) _).trans (hB.mono (by simp))⟩
end Go.Proofs.Ytdooageiopnhaab