/- Contracts of chapter 2, as the model counts: the functions that an expression names. -/
import Derived.Test.YtihmkaodjpgikaaGreatPn1
namespace Go.Proofs.YtihmkaodjpgikaaGreat
open Go.RowKit Go.BigFrame
set_option maxHeartbeats 1600000 in
theorem sCallees_any {w0 : World} {L U : Nat} {u : Value} {ks : List Ex} (base : Nat) (h : Exs w0 L U u ks) : ∀ (o n : Int) (xs : List Int) (v : Value) (w : World), Same L U w0 w → U ≤ w.heap.size → LsI base w v xs → Asc xs → xs.length + (1 + sumL one_ ks) ≤ 900000 →
    Calls Tryz.prog 33 #[.agg #[.int .i64 o, .int .i64 n, u], v] w fun e w' => ∃ v2, e = .returned v2 ∧ Below w.heap.size w w' ∧ LsI base w' v2 (namL ks (cond (isCF o) (ins n xs) xs)) := by
  induction h with
  | mk A c V es r hk ih =>
    intro o n xs v w hS hU hx ha hlim
    have hl := r.le
    have hc : c ≤ 9223372036854775807 := r.cap
    have HS := Lib.hid fun i (hi : i < es.length) => (hk i hi).open_
    have HR := Lib.hid r
    obtain ⟨W0, hW0⟩ : ∃ W0, W0 = w.alloc (.cells #[.int .i64 o, .int .i64 n, .slice A es.length c] 64) := ⟨_, rfl⟩
    have hB0 : Below w.heap.size w W0 := by rw [hW0]; exact (Below.refl _ w).alloc (Nat.le_refl _) _
    have hz0 : w.heap.size < W0.heap.size := by rw [hW0]; simp
    have hbox : W0.heap[w.heap.size]? = some (.cells #[.int .i64 o, .int .i64 n, .slice A es.length c] 64 (0, 0)) := by rw [hW0]; exact alloc_last _ _ _ rfl
    have HX := Lib.hid fun W (hB : Below W0.heap.size W0 W) => three ((hB.block w.heap.size hz0).trans hbox)
    have IH := Lib.hid ih
    obtain ⟨hy1, hy2⟩ := head_ok o n ha
    have hx0 : LsI base W0 v xs := hx.up hB0
    have hS0 : Same L U w0 W0 := hS.trans (Same.of_below hB0 hU)
    have CI := Lib.hid (insert_any base W0.heap.size xs v n W0 hx0.2.ints (Nat.le_refl _) ha (by omega))
    obtain ⟨E0, E1, E2⟩ := HX.out W0 (Below.refl _ _)
    have hl0 := sumL_length es
    obtain ⟨zs, hzs⟩ : ∃ zs, cond (isCF o) (ins n xs) xs = zs := ⟨_, rfl⟩
    rw [hzs] at hy1 hy2 ⊢
    have HY := Lib.hid (And.intro hy1 hy2)
    have hlen : es.length ≤ 900000 := by omega
    have HLIM := Lib.hid hlim
    clear ih hk hbox hx ha r hS hy1 hy2 hlim hl0
    rcases cf_cases o with ⟨t1, HC⟩ | ⟨t1, t2, HC⟩ | ⟨t1, t2, HC⟩
    all_goals (
      rw [HC.out] at hzs
      have HZ := Lib.hid hzs
      clear hzs HC
      go_enter Tryz.func33, Tryz.ntmps33
      go_wp2_with fail
      rw [← hW0]
      clear hW0)
    rotate_left 2
    · have HQ := Lib.hid (And.intro (Below.refl W0.heap.size W0) (show LsI base W0 v zs by rw [← HZ.out]; exact hx0))
      clear CI
      go_loopw [1, 5] (fun q i wr => ∃ (k : Nat) (ys : List Int), k ≤ es.length ∧ i = .int .i64 k ∧ Hid (ys = namL (es.take k) zs) ∧ LsI base wr q ys ∧ Below W0.heap.size W0 wr) (fun _ i _ => es.length - (intOf i).toNat)
      case atStart => exact ⟨0, zs, by omega, rfl, by show _ = _; simp [namL], HQ.out.2, HQ.out.1⟩
      case round =>
        obtain ⟨k, ys, hk, rfl, HYS, hq, hB⟩ := hrel
        have hzr := hB.size
        by_cases hlt : k < es.length
        · have hSr : Same L U w0 wr := hS0.trans (Same.of_below (hB.mono (Nat.le_of_lt hz0)) hU)
          obtain ⟨b, oo, rfl, _, hb, c0, c1, c2⟩ := row_at (HR.out.keep hSr) hlt
          obtain ⟨A', c', hV, _, _⟩ := HS.out k hlt
          obtain ⟨ha1, ha2⟩ := namL_ok (es.take k) zs HY.out.1
          rw [← HYS.out] at ha1 ha2
          have st := sumL_step one_ hlt
          have tk := sumL_take one_ es (k + 1)
          rw [sum_eq] at st
          have e1 : one_ (nthX es k).op (nthX es k).num = 1 := rfl
          rw [e1] at st
          have lm := HLIM.out
          have ly := HY.out.2
          have IHk := IH.out k hlt (nthX es k).op (nthX es k).num ys
          rw [hV] at c2 IHk
          have CK := Lib.hid (IHk _ wr hSr (by omega) hq ha1 (by omega))
          have HN : Hid (namL (nthX es k).kids (cond (isCF (nthX es k).op) (ins (nthX es k).num ys) ys) = namL (es.take (k + 1)) zs) := by
            show _ = _
            rw [namL_step hlt, nam_eq, ← HYS.out]
          have HB3 := Lib.hid hB
          obtain ⟨X0, X1, X2⟩ := HX.out wr hB
          clear IHk hV hSr hq hB st tk lm ly ha1 ha2 HYS e1
          go_wp2_with fail
          refine CK.out.mono ?_
          rintro e w2 ⟨u2, rfl, hB2, hO2⟩
          have HF := Lib.hid (And.intro (HB3.out.trans (hB2.mono HB3.out.size)) hO2)
          clear hB2 hO2 CK HB3 X0 X1 X2
          go_wp2_with fail
          go_roundw
          case rel => exact ⟨k + 1, _, by omega, by go_num, HN, HF.out.2, HF.out.1⟩
          case measure => simp [intOf]; omega
        · have HN : Hid (ys = namL es zs) := by
            show _ = _
            rw [HYS.out, namL_all hlt]
          obtain ⟨X0, X1, X2⟩ := HX.out wr hB
          go_wp2_with fail
          go_ret
          exact ⟨_, rfl, hB0.trans (hB.mono (Nat.le_of_lt hz0)), by rw [← HN.out]; exact hq⟩
    all_goals (
      refine CI.out.mono ?_
      rintro e w1 ⟨u1, rfl, hB1, hO1⟩
      have HQ := Lib.hid (And.intro hB1 (show LsI base w1 u1 zs by rw [← HZ.out]; exact LsI.of_own hx0.1 hB1.size hO1))
      have q := HX.out w1 hB1
      obtain ⟨F0, F1, F2⟩ := q
      clear hB1 hO1 CI E0 E1 E2
      go_wp2_with fail)
    all_goals (
      go_loopw [1, 5] (fun q i wr => ∃ (k : Nat) (ys : List Int), k ≤ es.length ∧ i = .int .i64 k ∧ Hid (ys = namL (es.take k) zs) ∧ LsI base wr q ys ∧ Below W0.heap.size W0 wr) (fun _ i _ => es.length - (intOf i).toNat)
      case atStart => exact ⟨0, zs, by omega, rfl, by show _ = _; simp [namL], HQ.out.2, HQ.out.1⟩
      case round =>
        obtain ⟨k, ys, hk, rfl, HYS, hq, hB⟩ := hrel
        have hzr := hB.size
        by_cases hlt : k < es.length
        · have hSr : Same L U w0 wr := hS0.trans (Same.of_below (hB.mono (Nat.le_of_lt hz0)) hU)
          obtain ⟨b, oo, rfl, _, hb, c0, c1, c2⟩ := row_at (HR.out.keep hSr) hlt
          obtain ⟨A', c', hV, _, _⟩ := HS.out k hlt
          obtain ⟨ha1, ha2⟩ := namL_ok (es.take k) zs HY.out.1
          rw [← HYS.out] at ha1 ha2
          have st := sumL_step one_ hlt
          have tk := sumL_take one_ es (k + 1)
          rw [sum_eq] at st
          have e1 : one_ (nthX es k).op (nthX es k).num = 1 := rfl
          rw [e1] at st
          have lm := HLIM.out
          have ly := HY.out.2
          have IHk := IH.out k hlt (nthX es k).op (nthX es k).num ys
          rw [hV] at c2 IHk
          have CK := Lib.hid (IHk _ wr hSr (by omega) hq ha1 (by omega))
          have HN : Hid (namL (nthX es k).kids (cond (isCF (nthX es k).op) (ins (nthX es k).num ys) ys) = namL (es.take (k + 1)) zs) := by
            show _ = _
            rw [namL_step hlt, nam_eq, ← HYS.out]
          have HB3 := Lib.hid hB
          obtain ⟨X0, X1, X2⟩ := HX.out wr hB
          clear IHk hV hSr hq hB st tk lm ly ha1 ha2 HYS e1
          go_wp2_with fail
          refine CK.out.mono ?_
          rintro e w2 ⟨u2, rfl, hB2, hO2⟩
          have HF := Lib.hid (And.intro (HB3.out.trans (hB2.mono HB3.out.size)) hO2)
          clear hB2 hO2 CK HB3 X0 X1 X2
          go_wp2_with fail
          go_roundw
          case rel => exact ⟨k + 1, _, by omega, by go_num, HN, HF.out.2, HF.out.1⟩
          case measure => simp [intOf]; omega
        · have HN : Hid (ys = namL es zs) := by
            show _ = _
            rw [HYS.out, namL_all hlt]
          obtain ⟨X0, X1, X2⟩ := HX.out wr hB
          go_wp2_with fail
          go_ret
          exact ⟨_, rfl, hB0.trans (hB.mono (Nat.le_of_lt hz0)), by rw [← HN.out]; exact hq⟩)
end Go.Proofs.YtihmkaodjpgikaaGreat
