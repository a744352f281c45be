/- Contracts of chapter 5: the number of steps. -/
import Derived.Test.YtdooageiopnhaaaY0
import Derived.Test.YtdooageiopnhaaaA0
import Derived.Test.YtdooageiopnhaaaNm
namespace Go.Proofs.Ytdooageiopnhaaa
open Go.RowKit Go.BigFrame
set_option maxHeartbeats 1600000 in
theorem stepsUpTo_any {w0 : World} {L U : Nat} {u : Value} {ss : List St} (h : Sts w0 L U u ss) : ∀ (res lim : Int) (m : Nat) (w : World), Same L U w0 w → U ≤ w.heap.size → lim + 1 = (m : Int) → m ≤ 1000000 →
    Calls Try.prog 34 #[.agg #[u, .int .i64 res], .int .i64 lim] w fun e w' => e = .returned (.int .i64 ((min (sumS W1 ss) m : Nat) : Int)) ∧ Below w.heap.size w w' := by
  induction h with
  | mk A c VA KA KC KV ss r ha hk h ih =>
    intro res lim m w hS hU hm hm2
    have hlim0 : -1 ≤ lim := by omega
    have hlim1 : lim ≤ 1000000 := by omega
    have hl := r.le
    have hc : c ≤ 9223372036854775807 := r.cap
    obtain ⟨W0, hW0⟩ : ∃ W0, W0 = w.alloc (.cells #[.slice A ss.length c, .int .i64 res] 30) := ⟨_, rfl⟩
    have hB0 : Below w.heap.size w W0 := by rw [hW0]; exact (Below.refl _ w).alloc (Nat.le_refl _) _
    have hz0 : W0.heap.size = w.heap.size + 1 := by rw [hW0]; simp
    have IH := Lib.hid ih
    have HK := Lib.hid hk
    have HA := Lib.hid fun i (hi : i < ss.length) => (ha i hi).open_
    have HH := Lib.hid h
    clear ih hk ha h
    go_enter Try.func34, Try.ntmps34
    go_wp2_with fail
    rw [← hW0]
    go_loopw [5, 13] (fun q i wr => ∃ k n : Nat, k ≤ ss.length ∧ i = .int .i64 k ∧ q = .int .i64 (n : Int) ∧ n = min (sumS W1 (ss.take k)) m ∧ Below W0.heap.size W0 wr) (fun _ i _ => ss.length - (intOf i).toNat)
    case atStart => exact ⟨0, 0, by omega, rfl, rfl, by simp [sumS], Below.refl _ _⟩
    case round =>
      obtain ⟨k, n, hk, rfl, rfl, hn, hB⟩ := hrel
      have hz := hB.size
      have hw : Below w.heap.size w wr := hB0.trans (hB.mono (by omega))
      by_cases hlt : k < ss.length
      · have hS1 : Same L U w0 wr := hS.trans (Same.of_below hw hU)
        obtain ⟨b, oo, rfl, _, hb, c0, c1, c2, c3, c4⟩ := srow_at (r.keep hS1) hlt
        obtain ⟨A1, c1', hV, _, _⟩ := HA.out k hlt
        rw [hV] at c3
        by_cases hle : n < m
        · have hgt : (n : Int) ≤ lim := by omega
          have hn0 : n = sumS W1 (ss.take k) := by omega
          have st := sumS_step W1 hlt
          have se : (nthS ss k).sum W1 = 1 + sumB W1 (nthS ss k).kids := by rw [st_sum]; rfl
          rw [se, ← hn0] at st
          have ST := Lib.hid st
          obtain ⟨ks, hks⟩ : ∃ ks, (nthS ss k).kids = ks := ⟨_, rfl⟩
          rw [hks] at ST
          have HKk := Lib.hid (HK.out k hlt)
          have HHk := Lib.hid (HH.out k hlt)
          have IHk := Lib.hid (IH.out k hlt)
          rw [hks] at HKk HHk IHk c4
          have kc := HKk.out.le
          have kc2 : KC k ≤ 9223372036854775807 := HKk.out.cap
          clear st se hn hn0 hks hV
          go_wp2_with fail
          go_loopw [5, 26] (fun q i wq => ∃ j n2 : Nat, j ≤ ks.length ∧ i = .int .i64 j ∧ q = .int .i64 (n2 : Int) ∧ n2 = min (n + 1 + sumB W1 (ks.take j)) m ∧ Below W0.heap.size W0 wq) (fun _ i _ => ks.length - (intOf i).toNat)
          case atStart => exact ⟨0, n + 1, by omega, rfl, by go_num, by simp [sumB]; omega, hB.alloc hz _⟩
          case round =>
            obtain ⟨j, n2, hj, rfl, rfl, hn2, hBq⟩ := hrel
            have hzq := hBq.size
            have hwq : Below w.heap.size w wr := hB0.trans (hBq.mono (by omega))
            by_cases hjt : j < ks.length
            · have hSq : Same L U w0 wr := hS.trans (Same.of_below hwq hU)
              obtain ⟨bb, ob, hKA, _, hbb, d0, d1⟩ := brow_at (HKk.out.keep hSq) hjt
              obtain ⟨A2, c2', hV2, _, _⟩ := (HHk.out j hjt).open_
              have sb := sumB_step W1 hjt
              rw [bl_sum] at sb
              have sw : W1.b (nthB ks j).result = 0 := rfl
              rw [sw, Nat.add_zero] at sb
              have IHj := IHk.out j hjt (nthB ks j).result (lim - (n2 : Int)) (m - n2)
              rw [hV2] at d0 IHj
              obtain ⟨t, ht⟩ : ∃ t, sumS W1 (nthB ks j).steps = t := ⟨_, rfl⟩
              rw [ht] at IHj sb
              have hB3 := hBq.alloc hzq (.cells #[.slice A2 (nthB ks j).steps.length c2', .int .i64 (nthB ks j).result] 30)
              have hn2m : n2 ≤ m := by omega
              have CK := Lib.hid (IHj _ (hS.trans (Same.of_below (hB0.trans (hB3.mono (by omega))) hU)) (by simp; omega) (by omega) (by omega))
              obtain ⟨q, hq⟩ : ∃ q, min t (m - n2) = q := ⟨_, rfl⟩
              rw [hq] at CK
              have hqm : q ≤ 1000000 := by omega
              have HN : Hid (n2 + q = min (n + 1 + sumB W1 (ks.take (j + 1))) m) := by show _ = _; omega
              rw [hKA]
              clear sb sw IHj ht hq hn2 hV2 hSq hwq
              go_wp2_with fail
              refine CK.out.mono ?_
              rintro e w2 ⟨rfl, hB2⟩
              have hB5 := Lib.hid (hB3.trans (hB2.mono hB3.size))
              clear hB2 hB3 hBq CK
              go_wp2_with fail
              go_roundw
              case rel => exact ⟨j + 1, n2 + q, by omega, by go_num, by go_num, HN.out, hB5.out⟩
              case measure => simp [intOf]; omega
            · rw [sumB_all W1 hjt] at hn2
              have HN : Hid (n2 = min (sumS W1 (ss.take (k + 1))) m) := by
                show _ = _
                have := ST.out
                omega
              clear hn2
              go_wp2_with fail
              go_roundw
              case rel => exact ⟨k + 1, n2, by omega, by go_num, rfl, HN.out, hBq⟩
              case measure => simp [intOf]; omega
        · have st := sumS_step W1 hlt
          have tot := sumS_take W1 ss (k + 1)
          have hgt : lim < (n : Int) := by omega
          have HN : Hid (n = min (sumS W1 ss) m) := by
            show _ = _
            have := sumS_take W1 ss k
            omega
          clear st tot hn
          go_wp2_with fail
          go_ret
          exact ⟨ret_int (by rw [HN.out]), hw.alloc (by omega) _⟩
      · rw [sumS_all W1 hlt] at hn
        go_wp2_with fail
        go_ret
        exact ⟨ret_int (by rw [hn]), hw⟩
end Go.Proofs.Ytdooageiopnhaaa
