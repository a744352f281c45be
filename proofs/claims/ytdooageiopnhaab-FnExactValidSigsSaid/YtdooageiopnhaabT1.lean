/- Contracts of chapter 2: the number of nodes. -/
import Derived.Test.YtdooageiopnhaabT0
import Derived.Test.YtdooageiopnhaabA0
import Derived.Test.YtdooageiopnhaabNm
namespace Go.Proofs.Ytdooageiopnhaab
open Go.RowKit Go.BigFrame
set_option maxHeartbeats 400000 in
theorem nodesUpTo_any {w0 : World} {L U : Nat} {u : Value} {ks : List Ex} (h : Exs w0 L U u ks) : ∀ (o n : Int) (limit : Nat) (w : World), Same L U w0 w → U ≤ w.heap.size → limit ≤ 1000000 →
    Calls Try.prog 70 #[.agg #[.int .i64 o, .int .i64 n, u], .int .i64 limit] w fun e w' => e = .returned (.int .i64 ((min (1 + sumL one_ ks) (limit + 1) : Nat) : Int)) ∧ Below w.heap.size w w' := by
  induction h with
  | mk A c V es r hk ih =>
    intro o n limit w hS hU hlim
    have hl := r.le
    have hc : c ≤ 9223372036854775807 := r.cap
    have hsub := fun i (hi : i < es.length) => (hk i hi).open_
    obtain ⟨W0, hW0⟩ : ∃ W0, W0 = w.alloc (.cells #[.int .i64 o, .int .i64 n, .slice A es.length c] 28) := ⟨_, rfl⟩
    have hB0 : Below w.heap.size w W0 := by rw [hW0]; exact (Below.refl _ w).alloc (Nat.le_refl _) _
    have hz0 : W0.heap.size = w.heap.size + 1 := by rw [hW0]; simp
    have IH := Lib.hid ih
    have HS := Lib.hid hsub
    clear ih hsub hk
    go_enter Try.func70, Try.ntmps70
    go_wp2_with fail
    rw [← hW0]
    go_loopw [5, 11] (fun m i wr => ∃ k : Nat, k ≤ es.length ∧ i = .int .i64 k ∧ m = .int .i64 ((min (1 + sumL one_ (es.take k)) (limit + 1) : Nat) : Int) ∧ Below W0.heap.size W0 wr) (fun _ i _ => es.length - (intOf i).toNat)
    case atStart => exact ⟨0, by omega, rfl, by simp [sumL], Below.refl _ _⟩
    case round =>
      obtain ⟨k, hk, rfl, rfl, hB⟩ := hrel
      have hz := hB.size
      have hw : Below w.heap.size w wr := hB0.trans (hB.mono (by omega))
      by_cases hlt : k < es.length
      · have hS1 : Same L U w0 wr := hS.trans (Same.of_below hw hU)
        obtain ⟨b, oo, rfl, _, hb, c0, c1, c2⟩ := row_at (r.keep hS1) hlt
        obtain ⟨A', c', hV, _, _⟩ := HS.out k hlt
        have st := sumL_step one_ hlt
        have tot := sumL_take one_ es (k + 1)
        have IHk := Lib.hid (IH.out k hlt)
        rw [hV] at c2 IHk
        obtain ⟨s, hs⟩ : ∃ s, sumL one_ (es.take k) = s := ⟨_, rfl⟩
        obtain ⟨t, ht⟩ : ∃ t, sumL one_ (nthX es k).kids = t := ⟨_, rfl⟩
        have hn : (nthX es k).sum one_ = t + 1 := by rw [sum_eq, ht]; simp [one_]; omega
        obtain ⟨s', hs'⟩ : ∃ s', sumL one_ (es.take (k + 1)) = s' := ⟨_, rfl⟩
        obtain ⟨T, hT⟩ : ∃ T, sumL one_ es = T := ⟨_, rfl⟩
        rw [hs, hn, hs'] at st
        rw [hs', hT] at tot
        rw [hs]
        have HH := Lib.hid (And.intro hs' hT)
        have HT := Lib.hid ht
        clear hs hn hs' hT ht
        by_cases hle : 1 + s ≤ limit
        · rw [show min (1 + s) (limit + 1) = 1 + s by omega]
          obtain ⟨m, hm⟩ : ∃ m, 1 + s = m := ⟨_, rfl⟩
          rw [hm] at hle ⊢
          obtain ⟨l2, hl2⟩ : ∃ l2 : Nat, (limit : Int) - (m : Int) = (l2 : Int) := ⟨limit - m, by omega⟩
          go_wp2_with fail
          have hB3 := hw.alloc (show w.heap.size ≤ wr.heap.size by omega) (.cells #[.int .i64 (nthX es k).op, .int .i64 (nthX es k).num, .slice A' (nthX es k).kids.length c'] 28)
          have hB4 := hB.alloc hz (.cells #[.int .i64 (nthX es k).op, .int .i64 (nthX es k).num, .slice A' (nthX es k).kids.length c'] 28)
          refine (IHk.out _ _ l2 _ (hS.trans (Same.of_below hB3 hU)) (by simp; omega) (by omega)).mono ?_
          rintro e w2 ⟨rfl, hB2⟩
          rw [HT.out]
          have hB5 := Lib.hid (hB4.trans (hB2.mono hB4.size))
          obtain ⟨q, hq⟩ : ∃ q, min (1 + t) (l2 + 1) = q := ⟨_, rfl⟩
          have hq2 : q ≤ 1000000 := by omega
          rw [hq]
          have HQ := Lib.hid hq
          clear hB2 hB3 hB4 hB hw hq hS1
          go_wp2_with fail
          go_roundw
          case rel => exact ⟨k + 1, by omega, by go_num, by rw [HH.out.1]; have := HQ.out; exact congrArg (Value.int .i64) (by omega), hB5.out⟩
          case measure => simp [intOf]; omega
        · rw [show min (1 + s) (limit + 1) = limit + 1 by omega]
          go_wp2_with fail
          go_ret
          exact ⟨ret_int (by rw [HH.out.2]; congr 1; omega), hw.alloc (by omega) _⟩
      · go_wp2_with fail
        go_ret
        exact ⟨ret_int (by rw [sumL_all one_ hlt]), hw⟩
end Go.Proofs.Ytdooageiopnhaab
