/- Contracts of chapter 3: mentions of a variable. -/
import Derived.Test.YthbingbbimikhaaGb
namespace Go.Proofs.Ythbingbbimikhaa
open Go.RowKit Go.BigFrame
def ment (v o n : Int) : Nat := if o = 12 ∧ n = v then 1 else 0
theorem ment_le (v o n : Int) : ment v o n ≤ 1 := by unfold ment; split <;> omega
mutual
theorem sum_le (f : Int → Int → Nat) (hf : ∀ o n, f o n ≤ 1) : (e : Ex) → e.sum f ≤ e.sum one_
  | .node o n ks => by
    have h1 := sumL_le f hf ks
    have h2 := hf o n
    simp only [Ex.sum, one_]
    omega
theorem sumL_le (f : Int → Int → Nat) (hf : ∀ o n, f o n ≤ 1) : (es : List Ex) → sumL f es ≤ sumL one_ es
  | [] => by simp [sumL]
  | e :: es => by
    have h1 := sum_le f hf e
    have h2 := sumL_le f hf es
    simp only [sumL]
    omega
end
def mentV (v o n : Int) (ks : List Ex) : Int := if 1 + sumL one_ ks ≤ 30 then ((ment v o n + sumL (ment v) ks : Nat) : Int) else -1
set_option maxHeartbeats 800000 in
theorem mentionsIn_any {w0 : World} {L U : Nat} {u : Value} {ks : List Ex} (h : Exs w0 L U u ks) (v : Int) : ∀ (o n : Int) (w : World), Same L U w0 w → U ≤ w.heap.size → sumL one_ ks ≤ 1000000 →
    Calls Try.prog 56 #[.agg #[.int .i64 o, .int .i64 n, u], .int .i64 v] w fun e w' => e = .returned (.int .i64 ((ment v o n + sumL (ment v) ks : Nat) : Int)) ∧ Below w.heap.size w w' := by
  induction h with
  | mk A c V es r hk ih =>
    intro o n w hS hU hlim
    have hl := r.le
    have hc : c ≤ 9223372036854775807 := r.cap
    have HS := Lib.hid fun i (hi : i < es.length) => (hk i hi).open_
    have HL := Lib.hid hlim
    obtain ⟨W0, hW0⟩ : ∃ W0, W0 = w.alloc (.cells #[.int .i64 o, .int .i64 n, .slice A es.length c] 41) := ⟨_, rfl⟩
    have hB0 : Below w.heap.size w W0 := by rw [hW0]; exact (Below.refl _ w).alloc (Nat.le_refl _) _
    have hz0 : W0.heap.size = w.heap.size + 1 := by rw [hW0]; simp
    have IH := Lib.hid ih
    have hm1 := ment_le v o n
    clear ih hk hlim
    have hcase : (o = 12 ∧ v = n ∧ Hid (ment v o n = 1)) ∨ (o = 12 ∧ (n == v) = false ∧ Hid (ment v o n = 0)) ∨ (¬ o = 12 ∧ Hid (ment v o n = 0)) := by
      unfold ment
      by_cases h1 : o = 12
      · by_cases h2 : n = v
        · exact .inl ⟨h1, h2.symm, by show _ = _; simp [h1, h2]⟩
        · exact .inr (.inl ⟨h1, by simpa using h2, by show _ = _; simp [h2]⟩)
      · exact .inr (.inr ⟨h1, by show _ = _; simp [h1]⟩)
    obtain ⟨m0, hm0⟩ : ∃ m0, ment v o n = m0 := ⟨_, rfl⟩
    rw [hm0] at hcase hm1 ⊢
    clear hm0
    go_enter Try.func56, Try.ntmps56
    rcases hcase with ⟨rfl, rfl, HM⟩ | ⟨rfl, hne, HM⟩ | ⟨hne, HM⟩
    all_goals (
      go_wp2_with fail
      rw [← hW0]
      go_loopw [5, 20] (fun m i wr => ∃ k q : Nat, k ≤ es.length ∧ i = .int .i64 k ∧ m = .int .i64 (q : Int) ∧ Hid (q = m0 + sumL (ment v) (es.take k)) ∧ Below W0.heap.size W0 wr) (fun _ i _ => es.length - (intOf i).toNat)
      case atStart => exact ⟨0, m0, by omega, rfl, by rw [HM.out]; rfl, by show _ = _; simp [sumL], Below.refl _ _⟩
      case round =>
        obtain ⟨k, q, hk, rfl, rfl, HQ, hB⟩ := hrel
        have hz := hB.size
        have hw : Below w.heap.size w wr := hB0.trans (hB.mono (by omega))
        by_cases hlt : k < es.length
        · have hS1 : Same L U w0 wr := hS.trans (Same.of_below hw hU)
          obtain ⟨b, oo, rfl, _, hb, c0, c1, c2⟩ := row_at (r.keep hS1) hlt
          obtain ⟨A', c', hV, _, _⟩ := HS.out k hlt
          have st := sumL_step (ment v) hlt
          rw [sum_eq] at st
          have tot := sumL_take (ment v) es (k + 1)
          have lim := sumL_le (ment v) (ment_le v) es
          have lim2 := HL.out
          have mem := sumL_mem one_ hlt
          rw [sum_eq] at mem
          have IHk := IH.out k hlt (nthX es k).op (nthX es k).num
          rw [hV] at c2 IHk
          obtain ⟨t, ht⟩ : ∃ t, ment v (nthX es k).op (nthX es k).num + sumL (ment v) (nthX es k).kids = t := ⟨_, rfl⟩
          rw [ht] at IHk st
          have hq := HQ.out
          have hB3 := hw.alloc (show w.heap.size ≤ wr.heap.size by omega) (.cells #[.int .i64 (nthX es k).op, .int .i64 (nthX es k).num, .slice A' (nthX es k).kids.length c'] 41)
          have hB4 := hB.alloc hz (.cells #[.int .i64 (nthX es k).op, .int .i64 (nthX es k).num, .slice A' (nthX es k).kids.length c'] 41)
          have CK := Lib.hid (IHk _ (hS.trans (Same.of_below hB3 hU)) (by simp; omega) (by omega))
          have hq2 : q ≤ 2000000 := by omega
          have ht2 : t ≤ 2000000 := by omega
          have HN : Hid (q + t = m0 + sumL (ment v) (es.take (k + 1))) := by show _ = _; omega
          clear st tot lim lim2 mem hq ht IHk hS1 hV
          go_wp2_with fail
          refine CK.out.mono ?_
          rintro e w2 ⟨rfl, hB2⟩
          have hB5 := Lib.hid (hB4.trans (hB2.mono hB4.size))
          clear hB2 hB3 hB4 hB hw CK
          go_wp2_with fail
          go_roundw
          case rel => exact ⟨k + 1, q + t, by omega, by go_num, by go_num, HN, hB5.out⟩
          case measure => simp [intOf]; omega
        · have hq := HQ.out
          rw [sumL_all (ment v) hlt] at hq
          have HQ := Lib.hid hq
          clear hq
          go_wp2_with fail
          go_ret
          exact ⟨ret_int (by rw [HQ.out]), hw⟩)
end Go.Proofs.Ythbingbbimikhaa
