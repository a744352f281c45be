/- Contracts of chapter 6: UsesOf and LastUse from outside. -/
import Derived.Test.YtmahamlfdegkkabU2
import Derived.Test.YtmahamlfdegkkabY3
namespace Go.Proofs.Ytmahamlfdegkkab
open Go.RowKit Go.BigFrame
theorem steps_le (ss : List St) : sumS W1 ss ≤ sumS Wz ss := sumS_le ⟨fun _ _ => by show 1 ≤ 1 + _; omega, fun _ _ => rfl, fun _ => Nat.zero_le _⟩ ss
set_option maxHeartbeats 400000 in
theorem usesTop {w : World} {L U : Nat} {u : Value} {ss : List St} (h : Sts w L U u ss) (res v : Int) (hU : U ≤ w.heap.size) (hz : sumS Wz ss ≤ 1048576) :
    Calls Try.prog 32 #[.agg #[u, .int .i64 res], .int .i64 v] w fun e w' => e = .returned (.int .i64 (usesV v ss res)) ∧ Below w.heap.size w w' := by
  obtain ⟨A, c, rfl, _, _⟩ := h.open_
  have HB := Lib.hid fun O => (Below.refl w.heap.size w).alloc (Nat.le_refl _) O
  have HN := Lib.hid fun O => stepsTop (h.keep (Same.of_below ((Below.refl w.heap.size w).alloc (Nat.le_refl _) O) hU)) res (by simp; omega)
  have HM := Lib.hid fun (W : World) (hB : Below w.heap.size w W) => usesIn_any h v res W (Same.of_below hB hU) (by have := hB.size; omega) hz
  clear h
  by_cases h30 : sumS W1 ss ≤ 600
  · obtain ⟨x, hx⟩ : ∃ x : Nat, stepsOfV ss = (x : Int) := ⟨sumS W1 ss, by unfold stepsOfV; rw [if_pos h30]⟩
    have hV : usesV v ss res = ((sumS (Wu v) ss + (Wu v).b res : Nat) : Int) := by unfold usesV; rw [if_pos h30]
    rw [hV]
    rw [hx] at HN
    obtain ⟨y, hy⟩ : ∃ y, sumS (Wu v) ss + (Wu v).b res = y := ⟨_, rfl⟩
    rw [hy] at HM ⊢
    clear hx hV h30 hy
    go_enter Try.func32, Try.ntmps32
    go_wp2_with fail
    refine (HN.out _).mono ?_
    rintro e w1 ⟨rfl, hB1⟩
    have B1 := (HB.out _).trans (hB1.mono (HB.out _).size)
    obtain ⟨q0, q1⟩ := two ((hB1.block w.heap.size (by simp)).trans (alloc_last _ _ _ rfl))
    clear hB1
    go_wp2_with fail
    refine (HM.out w1 B1).mono ?_
    rintro e w2 ⟨rfl, hB2⟩
    have B2 := B1.trans (hB2.mono B1.size)
    go_wp2_with fail
    go_ret
    exact ⟨rfl, B2⟩
  · rw [show usesV v ss res = -1 by unfold usesV; rw [if_neg h30]]
    rw [show stepsOfV ss = -1 by unfold stepsOfV; rw [if_neg h30]] at HN
    go_enter Try.func32, Try.ntmps32
    go_wp2_with fail
    refine (HN.out _).mono ?_
    rintro e w1 ⟨rfl, hB1⟩
    have B1 := (HB.out _).trans (hB1.mono (HB.out _).size)
    go_wp2_with fail
    go_ret
    exact ⟨rfl, B1⟩
set_option maxHeartbeats 400000 in
theorem sUsesTop {w : World} {L U : Nat} {u : Value} {ss : List St} (h : Sts w L U u ss) (res v : Int) (hU : U ≤ w.heap.size) (hz : sumS Wz ss ≤ 1048576) :
    Calls Try.prog 31 #[.agg #[u, .int .i64 res], .int .i64 v] w fun e w' => e = .returned (.int .i64 (usesV v ss res)) ∧ Below w.heap.size w w' := by
  obtain ⟨A, c, rfl, _, _⟩ := h.open_
  have HB := Lib.hid fun O => (Below.refl w.heap.size w).alloc (Nat.le_refl _) O
  have HN := Lib.hid fun O => sSteps_any (h.keep (Same.of_below ((Below.refl w.heap.size w).alloc (Nat.le_refl _) O) hU)) res (by simp; omega)
  have HM := Lib.hid fun (W : World) (hB : Below w.heap.size w W) => sUsesIn_any h v res W (Same.of_below hB hU) (by have := hB.size; omega) hz
  clear h
  by_cases h30 : sumS W1 ss ≤ 600
  · obtain ⟨x, hx⟩ : ∃ x : Nat, stepsOfV ss = (x : Int) := ⟨sumS W1 ss, by unfold stepsOfV; rw [if_pos h30]⟩
    have hV : usesV v ss res = ((sumS (Wu v) ss + (Wu v).b res : Nat) : Int) := by unfold usesV; rw [if_pos h30]
    rw [hV]
    rw [hx] at HN
    obtain ⟨y, hy⟩ : ∃ y, sumS (Wu v) ss + (Wu v).b res = y := ⟨_, rfl⟩
    rw [hy] at HM ⊢
    clear hx hV h30 hy
    go_enter Try.func31, Try.ntmps31
    go_wp2_with fail
    refine (HN.out _).mono ?_
    rintro e w1 ⟨rfl, hB1⟩
    have B1 := (HB.out _).trans (hB1.mono (HB.out _).size)
    obtain ⟨q0, q1⟩ := two ((hB1.block w.heap.size (by simp)).trans (alloc_last _ _ _ rfl))
    clear hB1
    go_wp2_with fail
    refine (HM.out w1 B1).mono ?_
    rintro e w2 ⟨rfl, hB2⟩
    have B2 := B1.trans (hB2.mono B1.size)
    go_wp2_with fail
    go_ret
    exact ⟨rfl, B2⟩
  · rw [show usesV v ss res = -1 by unfold usesV; rw [if_neg h30]]
    rw [show stepsOfV ss = -1 by unfold stepsOfV; rw [if_neg h30]] at HN
    go_enter Try.func31, Try.ntmps31
    go_wp2_with fail
    refine (HN.out _).mono ?_
    rintro e w1 ⟨rfl, hB1⟩
    have B1 := (HB.out _).trans (hB1.mono (HB.out _).size)
    go_wp2_with fail
    go_ret
    exact ⟨rfl, B1⟩
set_option maxHeartbeats 800000 in
theorem lastUseTop {w : World} {L U : Nat} {u : Value} {ss : List St} (h : Sts w L U u ss) (res v : Int) (hU : U ≤ w.heap.size) (hz : sumS Wz ss ≤ 1048576) :
    Calls Try.prog 34 #[.agg #[u, .int .i64 res], .int .i64 v] w fun e w' => e = .returned (.int .i64 (lastUseV v ss res)) ∧ Below w.heap.size w w' := by
  have HN := Lib.hid fun O => stepsTop (h.keep (Same.of_below ((Below.refl w.heap.size w).alloc (Nat.le_refl _) O) hU)) res (by simp; omega)
  cases h with
  | mk A c VA KA KC KV ss r ha hk h =>
  have hl := r.le
  have hc : c ≤ 9223372036854775807 := r.cap
  have HB := Lib.hid fun O => (Below.refl w.heap.size w).alloc (Nat.le_refl _) O
  have small : ∀ k, k < ss.length → (nthS ss k).sum Wz ≤ 1048576 := fun k hlt => by have := sumS_mem Wz hlt; omega
  have HS := Lib.hid fun k (hlt : k < ss.length) A1 c1 (hI : Ints w L U (.slice A1 (nthS ss k).args.length c1) (nthS ss k).args) (W : World) (a1 : Same L U w W) (a2 : U ≤ W.heap.size) => usesAt_of (nthS ss k) v W hI (hk k hlt) a1 a2 (small k hlt) (fun j hj => by obtain ⟨A, c, e, _⟩ := (h k hlt j hj).open_; exact ⟨A, c, e⟩) (fun j hj res W b1 b2 => usesIn_any (h k hlt j hj) v res W b1 b2 (by
    have h1 := sumB_mem Wz hj
    rw [bl_sum] at h1
    have h2 := small k hlt
    rw [st_sum] at h2
    have h3 : cond (Wz.k (nthS ss k).op) (sumB Wz (nthS ss k).kids) 0 = sumB Wz (nthS ss k).kids := rfl
    rw [h3] at h2
    omega))
  have HA := Lib.hid ha
  have HZ := Lib.hid fun k (hlt : k < ss.length) => Nat.le_trans (st_le (wu_le v) (nthS ss k)) (small k hlt)
  clear hk ha h small
  by_cases h30 : sumS W1 ss ≤ 600
  · obtain ⟨x, hx⟩ : ∃ x : Nat, stepsOfV ss = (x : Int) := ⟨sumS W1 ss, by unfold stepsOfV; rw [if_pos h30]⟩
    rw [hx] at HN
    by_cases hr : res = v
    · rw [show lastUseV v ss res = (ss.length : Int) by unfold lastUseV; rw [if_pos h30, if_pos hr]]
      have heb : (res == v) = true := by simp [hr]
      clear hr hx h30 HS HA HZ
      go_enter Try.func34, Try.ntmps34
      go_wp2_with fail
      refine (HN.out _).mono ?_
      rintro e w1 ⟨rfl, hB1⟩
      have B1 := (HB.out _).trans (hB1.mono (HB.out _).size)
      obtain ⟨q0, q1⟩ := two ((hB1.block w.heap.size (by simp)).trans (alloc_last _ _ _ rfl))
      clear hB1
      go_wp2_with fail
      go_ret
      exact ⟨rfl, B1⟩
    · rw [show lastUseV v ss res = lastIx (fun k => decide (0 < (nthS ss k).sum (Wu v))) ss.length by unfold lastUseV; rw [if_pos h30, if_neg hr]]
      have heb : (res == v) = false := by simp [hr]
      obtain ⟨P, hP⟩ : ∃ P : Nat → Bool, P = fun k => decide (0 < (nthS ss k).sum (Wu v)) := ⟨_, rfl⟩
      rw [← hP]
      have HP := Lib.hid hP
      clear hr hx h30 hP
      go_enter Try.func34, Try.ntmps34
      go_wp2_with fail
      refine (HN.out _).mono ?_
      rintro e w1 ⟨rfl, hB1⟩
      have B1 := (HB.out _).trans (hB1.mono (HB.out _).size)
      have hbox := (hB1.block w.heap.size (by simp)).trans (alloc_last _ _ _ rfl)
      obtain ⟨q0, q1⟩ := two hbox
      have hz1 : w.heap.size < w1.heap.size := by have := hB1.size; simp at this; omega
      have HX := Lib.hid hbox
      clear hB1 hbox
      go_wp2_with fail
      go_loopw [5] (fun i wr => ∃ k : Nat, k ≤ ss.length ∧ i = .int .i64 ((k : Int) - 1) ∧ Hid (lastIx P ss.length = lastIx P k) ∧ Below w1.heap.size w1 wr) (fun i _ => (intOf i + 1).toNat)
      case atStart => exact ⟨ss.length, Nat.le_refl _, rfl, rfl, Below.refl _ _⟩
      case round =>
        obtain ⟨k, hk, rfl, HL, hB⟩ := hrel
        have hz := hB.size
        have hw : Below w.heap.size w wr := B1.trans (hB.mono (by omega))
        rcases k with _ | k
        · go_wp2_with fail
          go_ret
          exact ⟨ret_int (by rw [HL.out]; rfl), hw⟩
        · have hlt : k < ss.length := by omega
          have hS1 : Same L U w wr := Same.of_below hw hU
          obtain ⟨cb, _⟩ := two ((hB.block _ hz1).trans HX.out)
          obtain ⟨b, oo, rfl, _, hb, c0, c1, c2, c3, c4⟩ := srow_at (r.keep hS1) hlt
          have hI := HA.out k hlt
          obtain ⟨A1, c1', hV, _, _⟩ := hI.open_
          rw [hV] at c3 hI
          obtain ⟨t, ht⟩ : ∃ t, (nthS ss k).sum (Wu v) = t := ⟨_, rfl⟩
          have CK := HS.out k hlt A1 c1' hI wr hS1 (by omega)
          have tb := HZ.out k hlt
          rw [ht] at CK tb
          have CK := Lib.hid CK
          have k1 : ((k + 1 : Nat) : Int) - 1 = (k : Int) := by omega
          have PK : Hid (P k = decide (0 < t)) := by show _ = _; rw [HP.out, ← ht]
          clear ht hV hS1 hI
          by_cases h0 : 0 < t
          · have HE : Hid (lastIx P ss.length = (k : Int)) := by show _ = _; rw [HL.out]; show cond (P k) (k : Int) (lastIx P k) = _; rw [PK.out, decide_eq_true h0]; rfl
            rw [k1]
            clear k1
            go_wp2_with fail
            refine CK.out.mono ?_
            rintro e w2 ⟨rfl, hB2⟩
            have hB5 := Lib.hid (hw.trans (hB2.mono hw.size))
            clear hB2 hB CK cb hw
            go_wp2_with fail
            go_ret
            exact ⟨ret_int (by rw [HE.out]), hB5.out⟩
          · have HE : Hid (lastIx P ss.length = lastIx P k) := by show _ = _; rw [HL.out]; show cond (P k) (k : Int) (lastIx P k) = _; rw [PK.out, decide_eq_false h0]; rfl
            rw [k1]
            clear k1
            go_wp2_with fail
            refine CK.out.mono ?_
            rintro e w2 ⟨rfl, hB2⟩
            have hB5 := Lib.hid (hB.trans (hB2.mono hz))
            clear hB2 hB CK cb hw
            go_wp2_with fail
            go_roundw
            case rel => exact ⟨k, by omega, by go_num, HE, hB5.out⟩
            case measure => simp [intOf]
  · rw [show lastUseV v ss res = -1 by unfold lastUseV; rw [if_neg h30]]
    rw [show stepsOfV ss = -1 by unfold stepsOfV; rw [if_neg h30]] at HN
    clear HS HA HZ
    go_enter Try.func34, Try.ntmps34
    go_wp2_with fail
    refine (HN.out _).mono ?_
    rintro e w1 ⟨rfl, hB1⟩
    have B1 := (HB.out _).trans (hB1.mono (HB.out _).size)
    go_wp2_with fail
    go_ret
    exact ⟨rfl, B1⟩
set_option maxHeartbeats 800000 in
theorem sLastUseTop {w : World} {L U : Nat} {u : Value} {ss : List St} (h : Sts w L U u ss) (res v : Int) (hU : U ≤ w.heap.size) (hz : sumS Wz ss ≤ 1048576) :
    Calls Try.prog 33 #[.agg #[u, .int .i64 res], .int .i64 v] w fun e w' => e = .returned (.int .i64 (lastUseV v ss res)) ∧ Below w.heap.size w w' := by
  have HN := Lib.hid fun O => sSteps_any (h.keep (Same.of_below ((Below.refl w.heap.size w).alloc (Nat.le_refl _) O) hU)) res (by simp; omega)
  cases h with
  | mk A c VA KA KC KV ss r ha hk h =>
  have hl := r.le
  have hc : c ≤ 9223372036854775807 := r.cap
  have HB := Lib.hid fun O => (Below.refl w.heap.size w).alloc (Nat.le_refl _) O
  have small : ∀ k, k < ss.length → (nthS ss k).sum Wz ≤ 1048576 := fun k hlt => by have := sumS_mem Wz hlt; omega
  have HS := Lib.hid fun k (hlt : k < ss.length) A1 c1 (hI : Ints w L U (.slice A1 (nthS ss k).args.length c1) (nthS ss k).args) (W : World) (a1 : Same L U w W) (a2 : U ≤ W.heap.size) => sUsesAt_of (nthS ss k) v W hI (hk k hlt) a1 a2 (small k hlt) (fun j hj => by obtain ⟨A, c, e, _⟩ := (h k hlt j hj).open_; exact ⟨A, c, e⟩) (fun j hj res W b1 b2 => sUsesIn_any (h k hlt j hj) v res W b1 b2 (by
    have h1 := sumB_mem Wz hj
    rw [bl_sum] at h1
    have h2 := small k hlt
    rw [st_sum] at h2
    have h3 : cond (Wz.k (nthS ss k).op) (sumB Wz (nthS ss k).kids) 0 = sumB Wz (nthS ss k).kids := rfl
    rw [h3] at h2
    omega))
  have HA := Lib.hid ha
  have HZ := Lib.hid fun k (hlt : k < ss.length) => Nat.le_trans (st_le (wu_le v) (nthS ss k)) (small k hlt)
  clear hk ha h small
  by_cases h30 : sumS W1 ss ≤ 600
  · obtain ⟨x, hx⟩ : ∃ x : Nat, stepsOfV ss = (x : Int) := ⟨sumS W1 ss, by unfold stepsOfV; rw [if_pos h30]⟩
    rw [hx] at HN
    by_cases hr : res = v
    · rw [show lastUseV v ss res = (ss.length : Int) by unfold lastUseV; rw [if_pos h30, if_pos hr]]
      have heb : (res == v) = true := by simp [hr]
      clear hr hx h30 HS HA HZ
      go_enter Try.func33, Try.ntmps33
      go_wp2_with fail
      refine (HN.out _).mono ?_
      rintro e w1 ⟨rfl, hB1⟩
      have B1 := (HB.out _).trans (hB1.mono (HB.out _).size)
      obtain ⟨q0, q1⟩ := two ((hB1.block w.heap.size (by simp)).trans (alloc_last _ _ _ rfl))
      clear hB1
      go_wp2_with fail
      go_ret
      exact ⟨rfl, B1⟩
    · rw [show lastUseV v ss res = lastIx (fun k => decide (0 < (nthS ss k).sum (Wu v))) ss.length by unfold lastUseV; rw [if_pos h30, if_neg hr]]
      have heb : (res == v) = false := by simp [hr]
      obtain ⟨P, hP⟩ : ∃ P : Nat → Bool, P = fun k => decide (0 < (nthS ss k).sum (Wu v)) := ⟨_, rfl⟩
      rw [← hP]
      have HP := Lib.hid hP
      clear hr hx h30 hP
      go_enter Try.func33, Try.ntmps33
      go_wp2_with fail
      refine (HN.out _).mono ?_
      rintro e w1 ⟨rfl, hB1⟩
      have B1 := (HB.out _).trans (hB1.mono (HB.out _).size)
      have hbox := (hB1.block w.heap.size (by simp)).trans (alloc_last _ _ _ rfl)
      obtain ⟨q0, q1⟩ := two hbox
      have hz1 : w.heap.size < w1.heap.size := by have := hB1.size; simp at this; omega
      have HX := Lib.hid hbox
      clear hB1 hbox
      go_wp2_with fail
      go_loopw [5] (fun i wr => ∃ k : Nat, k ≤ ss.length ∧ i = .int .i64 ((k : Int) - 1) ∧ Hid (lastIx P ss.length = lastIx P k) ∧ Below w1.heap.size w1 wr) (fun i _ => (intOf i + 1).toNat)
      case atStart => exact ⟨ss.length, Nat.le_refl _, rfl, rfl, Below.refl _ _⟩
      case round =>
        obtain ⟨k, hk, rfl, HL, hB⟩ := hrel
        have hz := hB.size
        have hw : Below w.heap.size w wr := B1.trans (hB.mono (by omega))
        rcases k with _ | k
        · go_wp2_with fail
          go_ret
          exact ⟨ret_int (by rw [HL.out]; rfl), hw⟩
        · have hlt : k < ss.length := by omega
          have hS1 : Same L U w wr := Same.of_below hw hU
          obtain ⟨cb, _⟩ := two ((hB.block _ hz1).trans HX.out)
          obtain ⟨b, oo, rfl, _, hb, c0, c1, c2, c3, c4⟩ := srow_at (r.keep hS1) hlt
          have hI := HA.out k hlt
          obtain ⟨A1, c1', hV, _, _⟩ := hI.open_
          rw [hV] at c3 hI
          obtain ⟨t, ht⟩ : ∃ t, (nthS ss k).sum (Wu v) = t := ⟨_, rfl⟩
          have CK := HS.out k hlt A1 c1' hI wr hS1 (by omega)
          have tb := HZ.out k hlt
          rw [ht] at CK tb
          have CK := Lib.hid CK
          have k1 : ((k + 1 : Nat) : Int) - 1 = (k : Int) := by omega
          have PK : Hid (P k = decide (0 < t)) := by show _ = _; rw [HP.out, ← ht]
          clear ht hV hS1 hI
          by_cases h0 : 0 < t
          · have HE : Hid (lastIx P ss.length = (k : Int)) := by show _ = _; rw [HL.out]; show cond (P k) (k : Int) (lastIx P k) = _; rw [PK.out, decide_eq_true h0]; rfl
            rw [k1]
            clear k1
            go_wp2_with fail
            refine CK.out.mono ?_
            rintro e w2 ⟨rfl, hB2⟩
            have hB5 := Lib.hid (hw.trans (hB2.mono hw.size))
            clear hB2 hB CK cb hw
            go_wp2_with fail
            go_ret
            exact ⟨ret_int (by rw [HE.out]), hB5.out⟩
          · have HE : Hid (lastIx P ss.length = lastIx P k) := by show _ = _; rw [HL.out]; show cond (P k) (k : Int) (lastIx P k) = _; rw [PK.out, decide_eq_false h0]; rfl
            rw [k1]
            clear k1
            go_wp2_with fail
            refine CK.out.mono ?_
            rintro e w2 ⟨rfl, hB2⟩
            have hB5 := Lib.hid (hB.trans (hB2.mono hz))
            clear hB2 hB CK cb hw
            go_wp2_with fail
            go_roundw
            case rel => exact ⟨k, by omega, by go_num, HE, hB5.out⟩
            case measure => simp [intOf]
  · rw [show lastUseV v ss res = -1 by unfold lastUseV; rw [if_neg h30]]
    rw [show stepsOfV ss = -1 by unfold stepsOfV; rw [if_neg h30]] at HN
    clear HS HA HZ
    go_enter Try.func33, Try.ntmps33
    go_wp2_with fail
    refine (HN.out _).mono ?_
    rintro e w1 ⟨rfl, hB1⟩
    have B1 := (HB.out _).trans (hB1.mono (HB.out _).size)
    go_wp2_with fail
    go_ret
    exact ⟨rfl, B1⟩
end Go.Proofs.Ytmahamlfdegkkab
