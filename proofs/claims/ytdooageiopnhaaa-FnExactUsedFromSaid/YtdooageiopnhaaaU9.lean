/- Contracts of addUses, UsedIn and UsedFrom, as the model counts them. -/
import Derived.Test.YtdooageiopnhaaaU8
namespace Go.Proofs.Ytdooageiopnhaaa
open Go.RowKit Go.BigFrame
set_option maxHeartbeats 1600000 in
theorem sAddUses_any {w0 : World} {L U : Nat} {u : Value} {ss : List St} (h : Sts w0 L U u ss) (n : Int) : ∀ (res : Int) (k : Nat) (xs : List Int) (v : Value) (w : World), Same L U w0 w → U ≤ w.heap.size → Lst w v xs → Asc xs → xs.length + (sumS Wz ss + 1) ≤ 1900000 → k ≤ ss.length →
    Calls Try.prog 23 #[.agg #[u, .int .i64 res], .int .i64 n, .int .i64 k, v] w fun e w' => ∃ v2, e = .returned v2 ∧ Below w.heap.size w w' ∧ Lst w' v2 (setL n xs (usesS (ss.drop k) ++ [res])) := by
  induction h with
  | mk A c VA KA KC KV ss r ha hk h ih =>
    intro res k xs v w hS hU hx hxa hsz hkl
    have hl := r.le
    have hc : c ≤ 9223372036854775807 := r.cap
    have HS := Lib.hid fun i (hlt : i < ss.length) ys v' A1 c1 (hI : Ints w0 L U (.slice A1 (nthS ss i).args.length c1) (nthS ss i).args) (W : World) (a1 : Same L U w0 W) (a2 : U ≤ W.heap.size) (a3 : Lst W v' ys) (a4 : Asc ys) (a5 : ys.length + (nthS ss i).sum Wz ≤ 1900000) =>
      sAddStepUses_of (nthS ss i) n ys v' W hI (hk i hlt) a1 a2 a3 a4 a5 (fun j hj => by obtain ⟨A, c, e, _⟩ := (h i hlt j hj).open_; exact ⟨A, c, e⟩) (fun j hj res zs v2 W b1 b2 b3 b4 b5 => by
        have := ih i hlt j hj res 0 zs v2 W b1 b2 b3 b4 b5 (by omega)
        rw [List.drop_zero] at this
        exact this)
    have HA := Lib.hid ha
    have HXA := Lib.hid hxa
    have HR := Lib.hid r
    obtain ⟨W0, hW0⟩ : ∃ W0, W0 = w.alloc (.cells #[.slice A ss.length c, .int .i64 res] 30) := ⟨_, rfl⟩
    have hB0 : Below w.heap.size w W0 := by rw [hW0]; exact (Below.refl _ w).alloc (Nat.le_refl _) _
    have hz0 : W0.heap.size = w.heap.size + 1 := by rw [hW0]; simp
    have hbox : W0.heap[w.heap.size]? = some (.cells #[.slice A ss.length c, .int .i64 res] 30 (0, 0)) := by rw [hW0]; exact alloc_last _ _ _ rfl
    have hx0 : Lst W0 v xs := hx.up hB0
    have hS0 : Same L U w0 W0 := hS.trans (Same.of_below hB0 hU)
    have HX := Lib.hid fun W (hB : Below W0.heap.size W0 W) => two ((hB.block w.heap.size (by omega)).trans hbox)
    have hl0 := sumS_len' ss
    have hl1 : ss.length ≤ 1900000 := by omega
    clear ih hk ha h hbox hxa hx r hS hl0
    go_enter Try.func23, Try.ntmps23
    go_wp2_with fail
    rw [← hW0]
    clear hW0
    go_loopw [3, 9] (fun q i wr => ∃ (j : Nat) (ys : List Int), j ≤ ss.length ∧ Hid (k ≤ j) ∧ i = .int .i64 j ∧ Hid (ys = setL n xs (usesS ((ss.take j).drop k))) ∧ Lst wr q ys ∧ Below W0.heap.size W0 wr) (fun _ i _ => ss.length - (intOf i).toNat)
    case atStart => exact ⟨k, xs, hkl, Nat.le_refl _, rfl, by show _ = _; rw [List.drop_eq_nil_of_le (by simp; omega)]; rfl, hx0, Below.refl _ _⟩
    case round =>
      obtain ⟨j, ys, hj, HK, rfl, HY, hq, hB⟩ := hrel
      have hzr := hB.size
      have hya : Asc ys := by rw [HY.out]; exact setL_asc _ HXA.out
      have hSr : Same L U w0 wr := hS0.trans (Same.of_below (hB.mono (by omega)) hU)
      obtain ⟨x0, x1⟩ := HX.out wr hB
      have hyl : ys.length + sumS Wz (ss.drop j) + 1 ≤ 1900000 := by
        have h1 := setL_len (n := n) (usesS ((ss.take j).drop k)) HXA.out
        have h2 := usesS_len ((ss.take j).drop k)
        have h3 := sumS_drop Wz (ss.take j) k
        have h4 := sumS_append Wz (ss.take j) (ss.drop j)
        rw [List.take_append_drop] at h4
        rw [← HY.out] at h1
        omega
      by_cases hlt : j < ss.length
      · obtain ⟨b, oo, rfl, _, hb, c0, c1, c2, c3, c4⟩ := srow_at (HR.out.keep hSr) hlt
        have hI := HA.out j hlt
        obtain ⟨A1, c1', hV, _, _⟩ := hI.open_
        rw [hV] at c3 hI
        have hst : setL n ys (nthS ss j).uses = setL n xs (usesS ((ss.take (j + 1)).drop k)) := by
          rw [take_drop_step HK.out hlt, setL_append, ← HY.out]
        have hw : ys.length + (nthS ss j).sum Wz ≤ 1900000 := by
          have h4 : (nthS (ss.drop j) 0).sum Wz ≤ sumS Wz (ss.drop j) := sumS_mem Wz (by simp; omega)
          rw [nthS_drop (by simp; omega), Nat.add_zero] at h4
          omega
        have CK := Lib.hid (HS.out j hlt ys _ A1 c1' hI wr hSr (by omega) hq hya hw)
        have HN : Hid (setL n ys (nthS ss j).uses = setL n xs (usesS ((ss.take (j + 1)).drop k))) := hst
        have HK2 : Hid (k ≤ j + 1) := by show _ ≤ _; have := HK.out; omega
        have HB := Lib.hid hB
        clear hst hw hI hV hSr hya HY hq hB hyl
        go_wp2_with fail
        refine CK.out.mono ?_
        rintro e w2 ⟨u2, rfl, hB2, hO2⟩
        have HF := Lib.hid (And.intro (HB.out.trans (hB2.mono hzr)) hO2)
        clear hB2 hO2 CK x0 x1 c0 c1 c2 c3 c4
        go_wp2_with fail
        go_roundw
        case rel => exact ⟨j + 1, _, by omega, HK2, by go_num, HN, HF.out.2, HF.out.1⟩
        case measure => simp [intOf]; omega
      · have hst : setL n xs (usesS (ss.drop k) ++ [res]) = cond (inB n res) (ins res ys) ys := by
          rw [setL_append, HY.out, take_drop_all hlt]; rfl
        clear HY hSr
        by_cases g1 : 0 ≤ res
        · by_cases g2 : res < n
          · rw [inB_yes g1 g2, cond_true] at hst
            have HST := Lib.hid hst
            clear hst
            have CI := Lib.hid (insert_any 0 wr.heap.size ys _ res wr hq (Nat.le_refl _) hya (by omega))
            have HB := Lib.hid hB
            clear hq hB hya hyl
            go_wp2_with fail
            refine CI.out.mono ?_
            rintro e w2 ⟨u2, rfl, hB2, hO2⟩
            have HF := Lib.hid (And.intro (HB.out.trans (hB2.mono hzr)) (Lst.of_own hO2))
            clear hB2 hO2 x0 x1 CI
            go_wp2_with fail
            go_ret
            exact ⟨_, rfl, hB0.trans (HF.out.1.mono (by omega)), by rw [HST.out]; exact HF.out.2⟩
          · rw [inB_no (fun _ => g2), cond_false] at hst
            have HST := Lib.hid hst
            clear hst
            go_wp2_with fail
            go_ret
            exact ⟨_, rfl, hB0.trans (hB.mono (by omega)), by rw [HST.out]; exact hq⟩
        · rw [inB_no (fun h => absurd h g1), cond_false] at hst
          have HST := Lib.hid hst
          clear hst
          go_wp2_with fail
          go_ret
          exact ⟨_, rfl, hB0.trans (hB.mono (by omega)), by rw [HST.out]; exact hq⟩
theorem lst_lit (w : World) : Lst (w.alloc (.cells #[] 3)) (.slice (some ⟨w.heap.size, 0, none⟩) 0 0) [] :=
  Lst.of_own (Own.of (n := 0) (World.ownsRow_lit (base := w.heap.size) (e := 3) (size := 1) w #[] 0 (Nat.le_refl _) (by simp [maxLen]) rfl))
theorem lst_nil (w : World) : Lst w (.slice none 0 0) [] := Lst.of_own (Own.nil w 0)
set_option maxHeartbeats 800000 in
theorem sUsedFrom_any {w : World} {L U : Nat} {u : Value} {ss : List St} (h : Sts w L U u ss) (res n k : Int) (hU : U ≤ w.heap.size) (hz : sumS Wz ss ≤ 1048576) :
    Calls Try.prog 14 #[.agg #[u, .int .i64 res], .int .i64 n, .int .i64 k] w fun e w' => ∃ v, e = .returned v ∧ Below w.heap.size w w' ∧ Lst w' v (usedV n k ss res) := by
  obtain ⟨A, c, rfl, hl, hc⟩ := h.open_
  obtain ⟨W0, hW0⟩ : ∃ W0, W0 = w.alloc (.cells #[.slice A ss.length c, .int .i64 res] 30) := ⟨_, rfl⟩
  have hB0 : Below w.heap.size w W0 := by rw [hW0]; exact (Below.refl _ w).alloc (Nat.le_refl _) _
  have hz0 : w.heap.size < W0.heap.size := by rw [hW0]; simp
  have hbox : W0.heap[w.heap.size]? = some (.cells #[.slice A ss.length c, .int .i64 res] 30 (0, 0)) := by rw [hW0]; exact alloc_last _ _ _ rfl
  have h0 := h.keep (Same.of_below hB0 hU)
  have HX := Lib.hid hbox
  have HN := Lib.hid (sSteps_any h0 res (by omega))
  have hl0 := sumS_len' ss
  obtain ⟨q0, q1⟩ := two hbox
  clear hbox
  have hU0 : U ≤ W0.heap.size := by omega
  by_cases h30 : sumS W1 ss ≤ 600
  · obtain ⟨x, hx⟩ : ∃ x : Nat, stepsOfV ss = (x : Int) := ⟨sumS W1 ss, by unfold stepsOfV; rw [if_pos h30]⟩
    rw [hx] at HN
    rcases hg : (decide (0 ≤ k) && decide (k ≤ (ss.length : Int))) with _ | _
    · have hno : ¬ (0 ≤ k ∧ k ≤ (ss.length : Int)) := fun ⟨a, b⟩ => by rw [decide_eq_true a, decide_eq_true b] at hg; cases hg
      rw [show usedV n k ss res = [] by unfold usedV; rw [if_neg (fun h => hno ⟨h.1, h.2.1⟩)]]
      have HR := Lib.hid fun W => sInRange_any k 0 ss.length W
      rw [hg] at HR
      clear hg hno hx h30 h h0 hl0 hU hz
      go_enter Try.func14, Try.ntmps14
      go_wp2_with fail
      rw [← hW0]
      clear hW0
      refine HN.out.mono ?_
      rintro e w1 ⟨rfl, hB1⟩
      obtain ⟨q0, q1⟩ := two ((hB1.block w.heap.size hz0).trans HX.out)
      have HB := Lib.hid hB1
      clear hB1
      go_wp2_with (go_at_call 22; refine (HR.out _).mono ?_; rintro e w2 ⟨rfl, rfl⟩)
      go_ret
      exact ⟨_, rfl, hB0.trans (HB.out.mono (by omega)), lst_nil _⟩
    · obtain ⟨g0, g1⟩ := Bool.and_eq_true_iff.1 hg
      have g0 := of_decide_eq_true g0
      have g1 := of_decide_eq_true g1
      obtain ⟨k, rfl⟩ := Int.eq_ofNat_of_zero_le g0
      have hV : usedV n k ss res = setL n [] (usesS (ss.drop k) ++ [res]) := by
        unfold usedV; rw [if_pos ⟨by omega, by omega, h30⟩]; rfl
      rw [hV]
      have HR := Lib.hid fun W => sInRange_any k 0 ss.length W
      rw [hg] at HR
      have HM := Lib.hid fun (W : World) (hB : Below W0.heap.size W0 W) => sAddUses_any h0 n res k [] (.slice (some ⟨W.heap.size, 0, none⟩) 0 0) (W.alloc (.cells #[] 3)) ((Same.of_below hB hU0).trans (Same.of_below ((Below.refl _ W).alloc (Nat.le_refl _) _) (by have := hB.size; omega))) (by have := hB.size; simp; omega) (lst_lit W) asc_nil' (by show 0 + _ ≤ _; omega) (by omega)
      clear hg hx hV h30 h h0 hl0 hU hz g0 g1
      go_enter Try.func14, Try.ntmps14
      go_wp2_with fail
      rw [← hW0]
      clear hW0
      refine HN.out.mono ?_
      rintro e w1 ⟨rfl, hB1⟩
      obtain ⟨q0, q1⟩ := two ((hB1.block w.heap.size hz0).trans HX.out)
      have HB := Lib.hid hB1
      clear hB1
      go_wp2_with (go_at_call 22; refine (HR.out _).mono ?_; rintro e w2 ⟨rfl, rfl⟩)
      refine (HM.out _ HB.out).mono ?_
      rintro e w2 ⟨u2, rfl, hB2, hO2⟩
      have HH := Lib.hid (And.intro (((Below.refl _ _).alloc (Nat.le_refl _) _).trans (hB2.mono (by simp))) hO2)
      clear hB2 hO2
      go_wp2_with fail
      go_ret
      have z1 := HB.out.size
      exact ⟨_, rfl, hB0.trans ((HB.out.mono (by omega)).trans (HH.out.1.mono (by omega))), HH.out.2⟩
  · rw [show usedV n k ss res = [] by unfold usedV; rw [if_neg (by omega)]]
    rw [show stepsOfV ss = -1 by unfold stepsOfV; rw [if_neg h30]] at HN
    clear HX h h0 hl0 hU hz h30
    go_enter Try.func14, Try.ntmps14
    go_wp2_with fail
    rw [← hW0]
    clear hW0
    refine HN.out.mono ?_
    rintro e w1 ⟨rfl, hB1⟩
    have HB := Lib.hid hB1
    clear hB1
    go_wp2_with fail
    go_ret
    exact ⟨_, rfl, hB0.trans (HB.out.mono (by omega)), lst_nil _⟩
set_option maxHeartbeats 800000 in
theorem sUsedInner_any {w : World} {L U : Nat} {u : Value} {ss : List St} (h : Sts w L U u ss) (res n : Int) (hU : U ≤ w.heap.size) (hz : sumS Wz ss ≤ 1048576) :
    Calls Try.prog 18 #[.agg #[u, .int .i64 res], .int .i64 n] w fun e w' => ∃ v, e = .returned v ∧ Below w.heap.size w w' ∧ Lst w' v (setL n [] (usesS ss ++ [res])) := by
  obtain ⟨A, c, rfl, hl, hc⟩ := h.open_
  obtain ⟨W0, hW0⟩ : ∃ W0, W0 = w.alloc (.cells #[.slice A ss.length c, .int .i64 res] 30) := ⟨_, rfl⟩
  have hB0 : Below w.heap.size w W0 := by rw [hW0]; exact (Below.refl _ w).alloc (Nat.le_refl _) _
  have hz0 : w.heap.size < W0.heap.size := by rw [hW0]; simp
  have hbox : W0.heap[w.heap.size]? = some (.cells #[.slice A ss.length c, .int .i64 res] 30 (0, 0)) := by rw [hW0]; exact alloc_last _ _ _ rfl
  have hB1 := hB0.alloc hB0.size (.cells #[] 3)
  have hz1 : W0.heap.size = w.heap.size + 1 := by rw [hW0]; simp
  have hlit := lst_lit W0
  rw [hz1] at hlit
  have HM := sAddUses_any h n res 0 [] (.slice (some ⟨w.heap.size + 1, 0, none⟩) 0 0) (W0.alloc (.cells #[] 3)) (Same.of_below hB1 hU) (Nat.le_trans hU hB1.size) hlit asc_nil' (by rw [List.length_nil]; omega) (Nat.zero_le _)
  rw [List.drop_zero, show ((0 : Nat) : Int) = (0 : Int) from rfl] at HM
  have HM := Lib.hid HM
  obtain ⟨q0, q1⟩ := two hbox
  clear h hz hU hbox hz0 hz1 hlit
  go_enter Try.func18, Try.ntmps18
  go_wp2_with fail
  rw [← hW0]
  clear hW0
  refine HM.out.mono ?_
  rintro e w1 ⟨v, rfl, hB2, hO1⟩
  have HF := Lib.hid (And.intro hB2 hO1)
  clear hB2 hO1
  go_wp2_with fail
  go_ret
  exact ⟨_, rfl, hB1.trans (HF.out.1.mono hB1.size), HF.out.2⟩
theorem sUsedIn_any {w : World} {L U : Nat} {u : Value} {ss : List St} (h : Sts w L U u ss) (res n : Int) (hU : U ≤ w.heap.size) (hz : sumS Wz ss ≤ 1048576) :
    Calls Try.prog 6 #[.agg #[u, .int .i64 res], .int .i64 n] w fun e w' => ∃ v, e = .returned v ∧ Below w.heap.size w w' ∧ Lst w' v (usedV n 0 ss res) := by
  obtain ⟨A, c, rfl, hl, hc⟩ := h.open_
  obtain ⟨W0, hW0⟩ : ∃ W0, W0 = w.alloc (.cells #[.slice A ss.length c, .int .i64 res] 30) := ⟨_, rfl⟩
  have hB0 : Below w.heap.size w W0 := by rw [hW0]; exact (Below.refl _ w).alloc (Nat.le_refl _) _
  have hz0 : w.heap.size < W0.heap.size := by rw [hW0]; simp
  have hbox : W0.heap[w.heap.size]? = some (.cells #[.slice A ss.length c, .int .i64 res] 30 (0, 0)) := by rw [hW0]; exact alloc_last _ _ _ rfl
  have h0 := h.keep (Same.of_below hB0 hU)
  have HX := Lib.hid hbox
  have hU0 : U ≤ W0.heap.size := by omega
  have HN := Lib.hid (sSteps_any h0 res hU0)
  have HM := Lib.hid fun (W : World) (hB : Below W0.heap.size W0 W) => sUsedInner_any (h0.keep (Same.of_below hB hU0)) res n (by have := hB.size; omega) hz
  obtain ⟨q0, q1⟩ := two hbox
  clear hbox h h0
  by_cases h30 : sumS W1 ss ≤ 600
  · obtain ⟨x, hx⟩ : ∃ x : Nat, stepsOfV ss = (x : Int) := ⟨sumS W1 ss, by unfold stepsOfV; rw [if_pos h30]⟩
    rw [hx] at HN
    have hV : usedV n 0 ss res = setL n [] (usesS ss ++ [res]) := by
      unfold usedV; rw [if_pos ⟨by omega, by omega, h30⟩]; simp
    rw [hV]
    clear hx hV h30 hU hz
    go_enter Try.func6, Try.ntmps6
    go_wp2_with fail
    rw [← hW0]
    clear hW0
    refine HN.out.mono ?_
    rintro e w1 ⟨rfl, hB1⟩
    obtain ⟨q0, q1⟩ := two ((hB1.block w.heap.size hz0).trans HX.out)
    have HB := Lib.hid hB1
    clear hB1
    go_wp2_with fail
    refine (HM.out _ HB.out).mono ?_
    rintro e w2 ⟨u2, rfl, hB2, hO2⟩
    have HH := Lib.hid (And.intro hB2 hO2)
    clear hB2 hO2
    go_wp2_with fail
    go_ret
    have z1 := HB.out.size
    exact ⟨_, rfl, hB0.trans ((HB.out.mono (by omega)).trans (HH.out.1.mono (by omega))), HH.out.2⟩
  · rw [show usedV n 0 ss res = [] by unfold usedV; rw [if_neg (by omega)]]
    rw [show stepsOfV ss = -1 by unfold stepsOfV; rw [if_neg h30]] at HN
    clear HX hU hz h30
    go_enter Try.func6, Try.ntmps6
    go_wp2_with fail
    rw [← hW0]
    clear hW0
    refine HN.out.mono ?_
    rintro e w1 ⟨rfl, hB1⟩
    have HB := Lib.hid hB1
    clear hB1
    go_wp2_with fail
    go_ret
    exact ⟨_, rfl, hB0.trans (HB.out.mono (by omega)), lst_nil _⟩
end Go.Proofs.Ytdooageiopnhaaa
