/- Contracts of chapter 3: mentions of a variable, as the model counts them; the functions that are called from outside. -/
import Derived.Test.YthbingbbimikhaaT6
namespace Go.Proofs.Ythbingbbimikhaa
open Go.RowKit Go.BigFrame
set_option maxHeartbeats 800000 in
theorem sMentions_any {w0 : World} {L U : Nat} {u : Value} {ks : List Ex} (h : Exs w0 L U u ks) (v : Int) : ∀ (o n : Int) (w : World), Same L U w0 w → U ≤ w.heap.size → sumL one_ ks ≤ 1000000 →
    Calls Try.prog 55 #[.agg #[.int .i64 o, .int .i64 n, u], .int .i64 v] w fun e w' => e = .returned (.int .i64 ((ment v o n + sumL (ment v) ks : Nat) : Int)) ∧ Below w.heap.size w w' := by
  induction h with
  | mk A c V es r hk ih =>
    intro o n w hS hU hlim
    have hl := r.le
    have hc : c ≤ 9223372036854775807 := r.cap
    have HS := Lib.hid fun i (hi : i < es.length) => (hk i hi).open_
    have HL := Lib.hid hlim
    obtain ⟨W0, hW0⟩ : ∃ W0, W0 = w.alloc (.cells #[.int .i64 o, .int .i64 n, .slice A es.length c] 41) := ⟨_, rfl⟩
    have hB0 : Below w.heap.size w W0 := by rw [hW0]; exact (Below.refl _ w).alloc (Nat.le_refl _) _
    have hz0 : W0.heap.size = w.heap.size + 1 := by rw [hW0]; simp
    have hbox : W0.heap[w.heap.size]? = some (.cells #[.int .i64 o, .int .i64 n, .slice A es.length c] 41 (0, 0)) := by rw [hW0]; exact alloc_last _ _ _ rfl
    have HX := Lib.hid hbox
    have IH := Lib.hid ih
    clear hbox
    have hm1 := ment_le v o n
    clear ih hk hlim
    have hcase : (o = 12 ∧ v = n ∧ Hid (ment v o n = 1)) ∨ (o = 12 ∧ (n == v) = false ∧ Hid (ment v o n = 0)) ∨ (¬ o = 12 ∧ Hid (ment v o n = 0)) := by
      unfold ment
      by_cases h1 : o = 12
      · by_cases h2 : n = v
        · exact .inl ⟨h1, h2.symm, by show _ = _; simp [h1, h2]⟩
        · exact .inr (.inl ⟨h1, by simpa using h2, by show _ = _; simp [h2]⟩)
      · exact .inr (.inr ⟨h1, by show _ = _; simp [h1]⟩)
    obtain ⟨m0, hm0⟩ : ∃ m0, ment v o n = m0 := ⟨_, rfl⟩
    rw [hm0] at hcase hm1 ⊢
    clear hm0
    go_enter Try.func55, Try.ntmps55
    rcases hcase with ⟨rfl, rfl, HM⟩ | ⟨rfl, hne, HM⟩ | ⟨hne, HM⟩
    all_goals (
      go_wp2_with fail
      rw [← hW0]
      go_loopw [5, 6] (fun m i wr => ∃ k q : Nat, k ≤ es.length ∧ i = .int .i64 k ∧ m = .int .i64 (q : Int) ∧ Hid (q = m0 + sumL (ment v) (es.take k)) ∧ Below W0.heap.size W0 wr) (fun _ i _ => es.length - (intOf i).toNat)
      case atStart => exact ⟨0, m0, by omega, rfl, by rw [HM.out]; rfl, by show _ = _; simp [sumL], Below.refl _ _⟩
      case round =>
        obtain ⟨k, q, hk, rfl, rfl, HQ, hB⟩ := hrel
        have hz := hB.size
        have hw : Below w.heap.size w wr := hB0.trans (hB.mono (by omega))
        have cb := cell_of_row wr w.heap.size 2 _ _ (0, 0) ((hB.block _ (by omega)).trans HX.out)
        simp only [List.getElem?_toArray, List.getElem?_cons_zero, List.getElem?_cons_succ] at cb
        by_cases hlt : k < es.length
        · have hS1 : Same L U w0 wr := hS.trans (Same.of_below hw hU)
          obtain ⟨b, oo, rfl, _, hb, c0, c1, c2⟩ := row_at (r.keep hS1) hlt
          obtain ⟨A', c', hV, _, _⟩ := HS.out k hlt
          have st := sumL_step (ment v) hlt
          rw [sum_eq] at st
          have tot := sumL_take (ment v) es (k + 1)
          have lim := sumL_le (ment v) (ment_le v) es
          have lim2 := HL.out
          have mem := sumL_mem one_ hlt
          rw [sum_eq] at mem
          have IHk := IH.out k hlt (nthX es k).op (nthX es k).num
          rw [hV] at c2 IHk
          obtain ⟨t, ht⟩ : ∃ t, ment v (nthX es k).op (nthX es k).num + sumL (ment v) (nthX es k).kids = t := ⟨_, rfl⟩
          rw [ht] at IHk st
          have hq := HQ.out
          have CK := Lib.hid (IHk wr hS1 (by omega) (by omega))
          have hq2 : q ≤ 2000000 := by omega
          have ht2 : t ≤ 2000000 := by omega
          have HN : Hid (q + t = m0 + sumL (ment v) (es.take (k + 1))) := by show _ = _; omega
          clear st tot lim lim2 mem hq ht IHk hS1 hV
          go_wp2_with fail
          refine CK.out.mono ?_
          rintro e w2 ⟨rfl, hB2⟩
          have hB5 := Lib.hid (hB.trans (hB2.mono hz))
          clear hB2 hB hw CK
          go_wp2_with fail
          go_roundw
          case rel => exact ⟨k + 1, q + t, by omega, by go_num, by go_num, HN, hB5.out⟩
          case measure => simp [intOf]; omega
        · have hq := HQ.out
          rw [sumL_all (ment v) hlt] at hq
          have HQ := Lib.hid hq
          clear hq
          go_wp2_with fail
          go_ret
          exact ⟨ret_int (by rw [HQ.out]), hw⟩)
end Go.Proofs.Ythbingbbimikhaa
