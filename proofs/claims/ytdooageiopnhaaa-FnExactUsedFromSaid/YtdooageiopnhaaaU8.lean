/- Contracts of addStepUses and addUses: uses put into an ascending list, as the model counts them. -/
import Derived.Test.YtdooageiopnhaaaU7b
import Derived.Test.YtdooageiopnhaaaU2
namespace Go.Proofs.Ytdooageiopnhaaa
open Go.RowKit Go.BigFrame
/-- A list of ints somewhere in the world. -/
def Lst (w : World) (v : Value) (xs : List Int) : Prop := Ints w 0 w.heap.size v xs
theorem Lst.up {w w' : World} {v : Value} {xs : List Int} (h : Lst w v xs) (b : Below w.heap.size w w') : Lst w' v xs := (h.keep (Same.of_below b (Nat.le_refl _))).wide (Nat.le_refl _) b.size
theorem Lst.of_own {w : World} {base : Nat} {v : Value} {xs : List Int} (h : Own w base v xs) : Lst w v xs := h.ints.wide (Nat.zero_le _) (Nat.le_refl _)
theorem take_drop_step {ss : List St} {k j : Nat} (hk : k ≤ j) (hj : j < ss.length) : usesS ((ss.take (j + 1)).drop k) = usesS ((ss.take j).drop k) ++ (nthS ss j).uses := by
  rw [List.take_succ_eq_append_getElem hj, List.drop_append_of_le_length (by simp; omega), usesS_append, nthS_of hj]
  simp [usesS]
theorem take_drop_all {ss : List St} {k j : Nat} (hj : ¬ j < ss.length) : (ss.take j).drop k = ss.drop k := by rw [List.take_of_length_le (by omega)]
theorem setL_len {n : Int} {acc : List Int} (xs : List Int) (h : Asc acc) : (setL n acc xs).length ≤ acc.length + xs.length := (setL_ok n xs acc h).2.1
theorem setL_asc {n : Int} {acc : List Int} (xs : List Int) (h : Asc acc) : Asc (setL n acc xs) := (setL_ok n xs acc h).1
set_option maxHeartbeats 1600000 in
theorem sAddStepUses_of {w0 : World} {L U : Nat} {A1 K1 : Option Addr} {c1 k1 : Nat} {KV : Nat → Value} (s : St) (n : Int) (xs : List Int) (v : Value) (w : World) (hI : Ints w0 L U (.slice A1 s.args.length c1) s.args) (r : Row w0 L U 2 K1 s.kids.length k1 (fun j x => blCell (nthB s.kids j) (KV j) x)) (hS : Same L U w0 w) (hU : U ≤ w.heap.size) (hx : Lst w v xs) (ha : Asc xs) (hs : xs.length + s.sum Wz ≤ 1900000)
    (hV : ∀ j, j < s.kids.length → ∃ A c, KV j = .slice A (nthB s.kids j).steps.length c)
    (C : ∀ j, j < s.kids.length → ∀ (res : Int) (ys : List Int) (v' : Value) (W : World), Same L U w0 W → U ≤ W.heap.size → Lst W v' ys → Asc ys → ys.length + (sumS Wz (nthB s.kids j).steps + 1) ≤ 1900000 →
      Calls Try.prog 23 #[.agg #[KV j, .int .i64 res], .int .i64 n, .int .i64 0, v'] W fun e w' => ∃ v2, e = .returned v2 ∧ Below W.heap.size W w' ∧ Lst w' v2 (setL n ys (usesS (nthB s.kids j).steps ++ [res]))) :
    Calls Try.prog 32 #[.agg #[.int .i64 s.op, .int .i64 s.num, .int .i64 s.into, .slice A1 s.args.length c1, .slice K1 s.kids.length k1], .int .i64 n, v] w fun e w' => ∃ v2, e = .returned v2 ∧ Below w.heap.size w w' ∧ Lst w' v2 (setL n xs s.uses) := by
  have hl := r.le
  have hc : k1 ≤ 9223372036854775807 := r.cap
  obtain ⟨_, _, eI, hl1, hc1⟩ := hI.open_
  cases eI
  obtain ⟨W0, hW0⟩ : ∃ W0, W0 = w.alloc (.cells #[.int .i64 s.op, .int .i64 s.num, .int .i64 s.into, .slice A1 s.args.length c1, .slice K1 s.kids.length k1] 54) := ⟨_, rfl⟩
  have hB0 : Below w.heap.size w W0 := by rw [hW0]; exact (Below.refl _ w).alloc (Nat.le_refl _) _
  have hz0 : W0.heap.size = w.heap.size + 1 := by rw [hW0]; simp
  have hbox : W0.heap[w.heap.size]? = some (.cells #[.int .i64 s.op, .int .i64 s.num, .int .i64 s.into, .slice A1 s.args.length c1, .slice K1 s.kids.length k1] 54 (0, 0)) := by rw [hW0]; exact alloc_last _ _ _ rfl
  have cb0 := cell_of_row W0 w.heap.size 0 _ _ (0, 0) hbox
  have cb3 := cell_of_row W0 w.heap.size 3 _ _ (0, 0) hbox
  have cb4 := cell_of_row W0 w.heap.size 4 _ _ (0, 0) hbox
  simp only [List.getElem?_toArray, List.getElem?_cons_zero, List.getElem?_cons_succ] at cb0 cb3 cb4
  have hS0 : Same L U w0 W0 := hS.trans (Same.of_below hB0 hU)
  have hx0 : Lst W0 v xs := hx.up hB0
  have HC := Lib.hid C
  have HV := Lib.hid hV
  have HA := Lib.hid ha
  have HR := Lib.hid r
  have HI := Lib.hid hI
  have H3 := Lib.hid fun W (hB : Below W0.heap.size W0 W) => (hB.cell (p := ⟨w.heap.size, 3, none⟩) (by show w.heap.size < _; omega)).trans cb3
  have H4 := Lib.hid fun W (hB : Below W0.heap.size W0 W) => (hB.cell (p := ⟨w.heap.size, 4, none⟩) (by show w.heap.size < _; omega)).trans cb4
  rw [st_uses]
  rw [st_sum] at hs
  have e1 : Wz.s s.op s.args = 1 + s.args.length := rfl
  have e2 : cond (Wz.k s.op) (sumB Wz s.kids) 0 = sumB Wz s.kids := rfl
  rw [e1, e2] at hs
  clear C hV hbox ha r hI hx e1 e2 cb3 cb4 hS
  rcases hcnt : isC s.op with _ | _
  · rw [cond_false]
    have HN := Lib.hid hcnt
    clear hcnt
    go_enter Try.func32, Try.ntmps32
    go_wp2_with fail
    rw [← hW0]
    clear hW0
    refine (sIsCounting_is _ _ W0 HN.out).mono ?_
    rintro e w1 ⟨rfl, rfl⟩
    go_wp2_with fail
    go_loopw [2, 7] (fun q i wr => ∃ (k : Nat) (ys : List Int), k ≤ s.args.length ∧ i = .int .i64 k ∧ Hid (ys = setL n xs (s.args.take k)) ∧ Lst wr q ys ∧ Below W0.heap.size W0 wr) (fun _ i _ => s.args.length - (intOf i).toNat)
    case atStart => exact ⟨0, xs, by omega, rfl, rfl, hx0, Below.refl _ _⟩
    case round =>
      obtain ⟨k, ys, hk, rfl, HY, hq, hB⟩ := hrel
      have hzr := hB.size
      have hya : Asc ys := by rw [HY.out]; exact setL_asc _ HA.out
      have hyl : ys.length ≤ xs.length + s.args.length := by
        have := setL_len (n := n) (s.args.take k) HA.out
        rw [← HY.out, List.length_take] at this
        omega
      have hSr : Same L U w0 wr := hS0.trans (Same.of_below (hB.mono (by omega)) hU)
      by_cases hlt : k < s.args.length
      · obtain ⟨b, o, rfl, _, _, hc⟩ := (HI.out.keep hSr).at_ hlt
        have c3 := H3.out wr hB
        have hst := setL_step n xs hlt
        rw [← HY.out] at hst
        by_cases g1 : 0 ≤ s.args[k]
        · by_cases g2 : s.args[k] < n
          · rw [inB_yes g1 g2, cond_true] at hst
            have HN2 : Hid (ins s.args[k] ys = setL n xs (s.args.take (k + 1))) := hst.symm
            have CI := Lib.hid (insert_any 0 wr.heap.size ys _ s.args[k] wr hq (Nat.le_refl _) hya (by omega))
            have HB := Lib.hid hB
            clear hst HY hya hSr hq hB
            go_wp2_with fail
            refine CI.out.mono ?_
            rintro e w2 ⟨u2, rfl, hB2, hO2⟩
            have HF := Lib.hid (And.intro (HB.out.trans (hB2.mono hzr)) (Lst.of_own hO2))
            clear hB2 hO2 c3 hc CI
            go_wp2_with fail
            go_roundw
            case rel => exact ⟨k + 1, _, by omega, by go_num, HN2, HF.out.2, HF.out.1⟩
            case measure => simp [intOf]; omega
          · rw [inB_no (fun _ => g2), cond_false] at hst
            have HN2 : Hid (ys = setL n xs (s.args.take (k + 1))) := hst.symm
            clear hst HY hya hSr
            go_wp2_with fail
            go_roundw
            case rel => exact ⟨k + 1, _, by omega, by go_num, HN2, hq, hB⟩
            case measure => simp [intOf]; omega
        · rw [inB_no (fun h => absurd h g1), cond_false] at hst
          have HN2 : Hid (ys = setL n xs (s.args.take (k + 1))) := hst.symm
          clear hst HY hya hSr
          go_wp2_with fail
          go_roundw
          case rel => exact ⟨k + 1, _, by omega, by go_num, HN2, hq, hB⟩
          case measure => simp [intOf]; omega
      · have c3 := H3.out wr hB
        have HY2 : Hid (ys = setL n xs s.args) := by
          show _ = _
          rw [HY.out, setL_all n xs hlt]
        have HYA := Lib.hid hya
        clear HY hya hSr
        go_wp2_with fail
        clear c3
        go_loopw [2, 8] (fun q i wq => ∃ (j : Nat) (zs : List Int), j ≤ s.kids.length ∧ i = .int .i64 j ∧ Hid (zs = setL n ys (usesB (s.kids.take j))) ∧ Lst wq q zs ∧ Below W0.heap.size W0 wq) (fun _ i _ => s.kids.length - (intOf i).toNat)
        case atStart => exact ⟨0, ys, by omega, rfl, rfl, hq, hB⟩
        case round =>
          obtain ⟨j, zs, hj, rfl, HZ, hq2, hB2⟩ := hrel
          have hzq := hB2.size
          have hza : Asc zs := by rw [HZ.out]; exact setL_asc _ HYA.out
          have hSr : Same L U w0 wr := hS0.trans (Same.of_below (hB2.mono (by omega)) hU)
          have c4 := H4.out wr hB2
          by_cases hjt : j < s.kids.length
          · obtain ⟨bb, ob, hKA, _, hbb, d0, d1⟩ := brow_at (HR.out.keep hSr) hjt
            obtain ⟨A2, c2', hV2⟩ := HV.out j hjt
            have hzl : zs.length + (sumS Wz (nthB s.kids j).steps + 1) ≤ 1900000 := by
              have h1 := setL_len (n := n) (usesB (s.kids.take j)) HYA.out
              have h2 := usesB_len (s.kids.take j)
              have h3 := sumB_step Wz hjt
              have h4 := sumB_take Wz s.kids (j + 1)
              rw [bl_sum] at h3
              have e3 : Wz.b (nthB s.kids j).result = 1 := rfl
              rw [e3] at h3
              rw [← HZ.out] at h1
              omega
            have CC := HC.out j hjt (nthB s.kids j).result zs
            rw [hV2] at d0 CC
            have CK := Lib.hid (CC _ wr hSr (by omega) hq2 hza hzl)
            have HN2 : Hid (setL n zs (usesS (nthB s.kids j).steps ++ [(nthB s.kids j).result]) = setL n ys (usesB (s.kids.take (j + 1)))) := by
              show _ = _
              rw [usesB_step hjt, bl_uses, setL_append n ys, ← HZ.out]
            have HB := Lib.hid hB2
            clear CC hV2 hSr HZ hzl hza hq2 hB2
            rw [hKA] at c4 ⊢
            go_wp2_with fail
            refine CK.out.mono ?_
            rintro e w2 ⟨u2, rfl, hB3, hO3⟩
            have HF := Lib.hid (And.intro (HB.out.trans (hB3.mono hzq)) hO3)
            clear hB3 hO3 c4 CK d0 d1
            go_wp2_with fail
            go_roundw
            case rel => exact ⟨j + 1, _, by omega, by go_num, HN2, HF.out.2, HF.out.1⟩
            case measure => simp [intOf]; omega
          · have HN2 : Hid (zs = setL n xs (s.args ++ usesB s.kids)) := by
              show _ = _
              rw [HZ.out, usesB_all hjt, setL_append, ← HY2.out]
            clear HZ hza hSr
            go_wp2_with fail
            go_ret
            exact ⟨_, rfl, hB0.trans (hB2.mono (by omega)), by rw [← HN2.out]; exact hq2⟩
  · rw [cond_true]
    have HN := Lib.hid hcnt
    clear hcnt
    go_enter Try.func32, Try.ntmps32
    go_wp2_with fail
    rw [← hW0]
    clear hW0
    refine (sIsCounting_is _ _ W0 HN.out).mono ?_
    rintro e w1 ⟨rfl, rfl⟩
    go_wp2_with fail
    go_ret
    exact ⟨_, rfl, hB0, hx0⟩
end Go.Proofs.Ytdooageiopnhaaa
