/- Contracts of chapter 5: the number of steps, as the model counts it; the functions that are called from outside. -/
import Derived.Test.YtdooageiopnhaaaY1
namespace Go.Proofs.Ytdooageiopnhaaa
open Go.RowKit Go.BigFrame
theorem two {W : World} {g : Nat} {T : TypeId} {a b : Value} (h : W.heap[g]? = some (.cells #[a, b] T (0, 0))) : W.cell? ⟨g, 0, none⟩ = some a ∧ W.cell? ⟨g, 1, none⟩ = some b := by
  refine ⟨?_, ?_⟩ <;> rw [cell_of_row W g _ _ _ (0, 0) h] <;> rfl
set_option maxHeartbeats 1600000 in
theorem stepsLeft_any {w0 : World} {L U : Nat} {u : Value} {ss : List St} (h : Sts w0 L U u ss) : ∀ (res : Int) (left : Nat) (w : World), Same L U w0 w → U ≤ w.heap.size → left ≤ 1000000 →
    Calls Try.prog 28 #[.agg #[u, .int .i64 res], .int .i64 left] w fun e w' => e = .returned (.int .i64 (leftV left (sumS W1 ss))) ∧ Below w.heap.size w w' := by
  induction h with
  | mk A c VA KA KC KV ss r ha hk h ih =>
    intro res left w hS hU hm
    have hl := r.le
    have hc : c ≤ 9223372036854775807 := r.cap
    obtain ⟨W0, hW0⟩ : ∃ W0, W0 = w.alloc (.cells #[.slice A ss.length c, .int .i64 res] 30) := ⟨_, rfl⟩
    have hB0 : Below w.heap.size w W0 := by rw [hW0]; exact (Below.refl _ w).alloc (Nat.le_refl _) _
    have hz0 : W0.heap.size = w.heap.size + 1 := by rw [hW0]; simp
    have hbox : W0.heap[w.heap.size]? = some (.cells #[.slice A ss.length c, .int .i64 res] 30 (0, 0)) := by rw [hW0]; exact alloc_last _ _ _ rfl
    have HX := Lib.hid hbox
    have IH := Lib.hid ih
    have HK := Lib.hid hk
    have HA := Lib.hid fun i (hi : i < ss.length) => (ha i hi).open_
    have HH := Lib.hid h
    clear ih hk ha h hbox
    go_enter Try.func28, Try.ntmps28
    go_wp2_with fail
    rw [← hW0]
    go_loopw [1, 5] (fun q i wr => ∃ k n : Nat, k ≤ ss.length ∧ i = .int .i64 k ∧ q = .int .i64 (n : Int) ∧ n + sumS W1 (ss.take k) = left ∧ Below W0.heap.size W0 wr) (fun _ i _ => ss.length - (intOf i).toNat)
    case atStart => exact ⟨0, left, by omega, rfl, rfl, by simp [sumS], Below.refl _ _⟩
    case round =>
      obtain ⟨k, n, hk, rfl, rfl, hn, hB⟩ := hrel
      have hz := hB.size
      have hw : Below w.heap.size w wr := hB0.trans (hB.mono (by omega))
      obtain ⟨cb, _⟩ := two ((hB.block _ (by omega)).trans HX.out)
      by_cases hlt : k < ss.length
      · have hS1 : Same L U w0 wr := hS.trans (Same.of_below hw hU)
        have st := sumS_step W1 hlt
        have se : (nthS ss k).sum W1 = 1 + sumB W1 (nthS ss k).kids := by rw [st_sum]; rfl
        rw [se] at st
        have tot := sumS_take W1 ss (k + 1)
        by_cases hle : 1 ≤ n
        · obtain ⟨ks, hks⟩ : ∃ ks, (nthS ss k).kids = ks := ⟨_, rfl⟩
          rw [hks] at st
          have ST := Lib.hid (And.intro st (And.intro tot hn))
          have HKk := Lib.hid (HK.out k hlt)
          have HHk := Lib.hid (HH.out k hlt)
          have IHk := Lib.hid (IH.out k hlt)
          rw [hks] at HKk HHk IHk
          have kc := HKk.out.le
          have kc2 : KC k ≤ 9223372036854775807 := HKk.out.cap
          have HKS := Lib.hid hks
          have nb : n ≤ 1000000 := by omega
          clear st se hn hks tot
          go_wp2_with fail
          go_loopw [1, 6] (fun q i wq => ∃ j n2 : Nat, j ≤ ks.length ∧ i = .int .i64 j ∧ q = .int .i64 (n2 : Int) ∧ n2 + 1 + sumB W1 (ks.take j) = n ∧ Below W0.heap.size W0 wq) (fun _ i _ => ks.length - (intOf i).toNat)
          case atStart => exact ⟨0, n - 1, by omega, rfl, by exact congrArg (Value.int .i64) (by omega), by simp [sumB]; omega, hB⟩
          case round =>
            obtain ⟨j, n2, hj, rfl, rfl, hn2, hBq⟩ := hrel
            have hzq := hBq.size
            have hwq : Below w.heap.size w wr := hB0.trans (hBq.mono (by omega))
            have hSq : Same L U w0 wr := hS.trans (Same.of_below hwq hU)
            obtain ⟨cbq, _⟩ := two ((hBq.block _ (by omega)).trans HX.out)
            obtain ⟨b, oo, rfl, _, hb, c0, c1, c2, c3, c4⟩ := srow_at (r.keep hSq) hlt
            rw [HKS.out] at c4
            obtain ⟨A1, c1', hV, _, _⟩ := HA.out k hlt
            rw [hV] at c3
            by_cases hjt : j < ks.length
            · obtain ⟨bb, ob, hKA, _, hbb, d0, d1⟩ := brow_at (HKk.out.keep hSq) hjt
              obtain ⟨A2, c2', hV2, _, _⟩ := (HHk.out j hjt).open_
              have sb := sumB_step W1 hjt
              rw [bl_sum] at sb
              have sw : W1.b (nthB ks j).result = 0 := rfl
              rw [sw, Nat.add_zero] at sb
              have sl := sumB_take W1 ks (j + 1)
              have IHj := IHk.out j hjt (nthB ks j).result n2 wr hSq (by omega) (by have := ST.out; omega)
              rw [hV2] at d0 IHj
              obtain ⟨t, ht⟩ : ∃ t, sumS W1 (nthB ks j).steps = t := ⟨_, rfl⟩
              rw [ht] at IHj sb
              have CK := Lib.hid IHj
              rw [hKA] at c4
              have stn : n ≤ 1000000 := by have := ST.out; omega
              by_cases hle2 : t ≤ n2
              · obtain ⟨x, hx⟩ : ∃ x : Nat, leftV n2 t = (x : Int) := ⟨n2 - t, by unfold leftV; rw [if_pos hle2]; omega⟩
                have hx2 : x + t = n2 := by unfold leftV at hx; rw [if_pos hle2] at hx; omega
                rw [hx] at CK
                have HN : Hid (x + 1 + sumB W1 (ks.take (j + 1)) = n) := by show _ = _; omega
                clear hx sb sw sl IHj ht hn2 hV2 hV
                go_wp2_with fail
                refine CK.out.mono ?_
                rintro e w2 ⟨rfl, hB2⟩
                have hB5 := Lib.hid (hBq.trans (hB2.mono hzq))
                clear hB2 hBq CK c0 c1 c2 c3 c4 d0 d1 cb cbq hSq hwq hB hw hS1
                go_wp2_with fail
                go_roundw
                case rel => exact ⟨j + 1, x, by omega, by go_num, rfl, HN.out, hB5.out⟩
                case measure => simp [intOf]; omega
              · rw [show leftV n2 t = -1 by unfold leftV; rw [if_neg hle2]] at CK
                have HN : Hid (¬ sumS W1 ss ≤ left) := by
                  show ¬ _
                  have := ST.out
                  omega
                clear sb sw sl IHj ht hn2 hV2 hV
                go_wp2_with fail
                refine CK.out.mono ?_
                rintro e w2 ⟨rfl, hB2⟩
                have hB5 := Lib.hid (hwq.trans (hB2.mono hwq.size))
                clear hB2 hBq CK c0 c1 c2 c3 c4 d0 d1 cb cbq hSq hwq hB hw hS1
                go_wp2_with fail
                go_ret
                exact ⟨ret_int (by unfold leftV; rw [if_neg HN.out]), hB5.out⟩
            · rw [sumB_all W1 hjt] at hn2
              have HN : Hid (n2 + sumS W1 (ss.take (k + 1)) = left) := by
                show _ = _
                have := ST.out
                omega
              clear hn2 hV cb
              go_wp2_with fail
              go_roundw
              case rel => exact ⟨k + 1, n2, by omega, by go_num, rfl, HN.out, hBq⟩
              case measure => simp [intOf]; omega
        · have HN : Hid (¬ sumS W1 ss ≤ left) := by
            show ¬ _
            omega
          clear st se tot hn
          go_wp2_with fail
          go_ret
          exact ⟨ret_int (by unfold leftV; rw [if_neg HN.out]), hw⟩
      · rw [sumS_all W1 hlt] at hn
        go_wp2_with fail
        go_ret
        exact ⟨ret_int (by unfold leftV; rw [if_pos (by omega)]; omega), hw⟩
end Go.Proofs.Ytdooageiopnhaaa
