/- Contracts of chapter 5: StepsOf from outside; contracts of the sizes of blocks that the exact laws ask for. -/
import Derived.Test.YtdooageiopnhaaaY2
import Derived.Test.YtdooageiopnhaaaOi
namespace Go.Proofs.Ytdooageiopnhaaa
open Go.RowKit Go.BigFrame
theorem stepsUpTo_is {w : World} {L U : Nat} {u : Value} {ss : List St} (h : Sts w L U u ss) (res : Int) (hU : U ≤ w.heap.size) {x : Nat} (hx : min (sumS W1 ss) 601 = x) :
    Calls Try.prog 34 #[.agg #[u, .int .i64 res], .int .i64 600] w fun e w' => e = .returned (.int .i64 (x : Int)) ∧ Below w.heap.size w w' := by
  subst hx
  exact stepsUpTo_any h res 600 601 w (Same.refl _ _ _) hU (by omega) (by omega)
theorem stepsTop {w : World} {L U : Nat} {u : Value} {ss : List St} (h : Sts w L U u ss) (res : Int) (hU : U ≤ w.heap.size) :
    Calls Try.prog 24 #[.agg #[u, .int .i64 res]] w fun e w' => e = .returned (.int .i64 (stepsOfV ss)) ∧ Below w.heap.size w w' := by
  by_cases h6 : sumS W1 ss ≤ 600
  · obtain ⟨x, hx⟩ : ∃ x, min (sumS W1 ss) 601 = x := ⟨_, rfl⟩
    have hx2 : x ≤ 600 := by omega
    rw [show stepsOfV ss = (x : Int) by unfold stepsOfV; rw [if_pos h6]; omega]
    have HX := Lib.hid fun O => stepsUpTo_is (h.keep (Same.of_below ((Below.refl w.heap.size w).alloc (Nat.le_refl _) O) hU)) res (by simp; omega) hx
    clear h hx h6
    go_enter Try.func24, Try.ntmps24
    go_wp2_with fail
    refine (HX.out _).mono ?_
    rintro e w' ⟨rfl, hB⟩
    go_wp2_with fail
    go_ret
    exact ⟨rfl, ((Below.refl _ w).alloc (Nat.le_refl _) _).trans (hB.mono (by simp))⟩
  · rw [show stepsOfV ss = -1 by unfold stepsOfV; rw [if_neg h6]]
    have HX := Lib.hid fun O => stepsUpTo_is (h.keep (Same.of_below ((Below.refl w.heap.size w).alloc (Nat.le_refl _) O) hU)) res (by simp; omega) (x := 601) (by omega)
    clear h h6
    go_enter Try.func24, Try.ntmps24
    go_wp2_with fail
    refine (HX.out _).mono ?_
    rintro e w' ⟨rfl, hB⟩
    go_wp2_with fail
    go_ret
    exact ⟨rfl, ((Below.refl _ w).alloc (Nat.le_refl _) _).trans (hB.mono (by simp))⟩
theorem stepsLeft_is {w : World} {L U : Nat} {u : Value} {ss : List St} (h : Sts w L U u ss) (res : Int) (hU : U ≤ w.heap.size) {x : Int} (hx : leftV 600 (sumS W1 ss) = x) :
    Calls Try.prog 28 #[.agg #[u, .int .i64 res], .int .i64 600] w fun e w' => e = .returned (.int .i64 x) ∧ Below w.heap.size w w' := by
  subst hx
  exact stepsLeft_any h res 600 w (Same.refl _ _ _) hU (by omega)
theorem sSteps_any {w : World} {L U : Nat} {u : Value} {ss : List St} (h : Sts w L U u ss) (res : Int) (hU : U ≤ w.heap.size) :
    Calls Try.prog 17 #[.agg #[u, .int .i64 res]] w fun e w' => e = .returned (.int .i64 (stepsOfV ss)) ∧ Below w.heap.size w w' := by
  by_cases h6 : sumS W1 ss ≤ 600
  · obtain ⟨x, hx⟩ : ∃ x : Nat, leftV 600 (sumS W1 ss) = (x : Int) := ⟨600 - sumS W1 ss, by unfold leftV; rw [if_pos h6]; omega⟩
    have hx2 : x ≤ 600 := by unfold leftV at hx; rw [if_pos h6] at hx; omega
    rw [show stepsOfV ss = 600 - (x : Int) by unfold stepsOfV; rw [if_pos h6]; unfold leftV at hx; rw [if_pos h6] at hx; omega]
    have HX := Lib.hid fun O => stepsLeft_is (h.keep (Same.of_below ((Below.refl w.heap.size w).alloc (Nat.le_refl _) O) hU)) res (by simp; omega) hx
    clear h hx h6
    go_enter Try.func17, Try.ntmps17
    go_wp2_with fail
    refine (HX.out _).mono ?_
    rintro e w' ⟨rfl, hB⟩
    go_wp2_with fail
    go_ret
    exact ⟨rfl, ((Below.refl _ w).alloc (Nat.le_refl _) _).trans (hB.mono (by simp))⟩
  · rw [show stepsOfV ss = -1 by unfold stepsOfV; rw [if_neg h6]]
    have HX := Lib.hid fun O => stepsLeft_is (h.keep (Same.of_below ((Below.refl w.heap.size w).alloc (Nat.le_refl _) O) hU)) res (by simp; omega) (x := -1) (by unfold leftV; rw [if_neg h6])
    clear h h6
    go_enter Try.func17, Try.ntmps17
    go_wp2_with fail
    refine (HX.out _).mono ?_
    rintro e w' ⟨rfl, hB⟩
    go_wp2_with fail
    go_ret
    exact ⟨rfl, ((Below.refl _ w).alloc (Nat.le_refl _) _).trans (hB.mono (by simp))⟩
/-! Sizes -/
theorem sumS_length (ss : List St) : ss.length ≤ sumS Wz ss := by
  induction ss with
  | nil => simp [sumS]
  | cons s ss ih =>
    have h : 1 ≤ s.sum Wz := by rw [st_sum]; show 1 ≤ (1 + s.args.length) + _; omega
    simp only [sumS, List.length_cons]
    omega
theorem sumB_length (bs : List Bl) : bs.length ≤ sumB Wz bs := by
  induction bs with
  | nil => simp [sumB]
  | cons b bs ih =>
    have h : 1 ≤ b.sum Wz := by rw [bl_sum]; show 1 ≤ _ + 1; omega
    simp only [sumB, List.length_cons]
    omega
theorem szIntS_eq (L U : Nat) (xs : List Int) (v : Value) (left : Int) (w : World) (hv : Ints w L U v xs) (h0 : 0 ≤ left) (h1 : left ≤ 1048576) :
    Calls Try.prog 37 #[v, .int .i64 left] w fun e w' => ∃ r : Int, e = .returned (.int .i64 r) ∧ w = w' ∧ (r = -1 ∨ (0 ≤ r ∧ r + xs.length = left)) := by
  obtain ⟨B, d, rfl, hl, hd⟩ := hv.open_
  by_cases hs : (xs.length : Int) ≤ left
  · go_enter Try.func37, Try.ntmps37
    go_wp2_with fail
    go_ret
    exact ⟨_, rfl, rfl, .inr ⟨by omega, by omega⟩⟩
  · go_enter Try.func37, Try.ntmps37
    go_wp2_with fail
    go_ret
    exact ⟨_, rfl, rfl, .inl rfl⟩
/-- What a size contract says. -/
def SzEnd (w : World) (left : Int) (n : Nat) (e : Ending) (w' : World) : Prop := ∃ r : Int, e = .returned (.int .i64 r) ∧ Below w.heap.size w w' ∧ (r = -1 ∨ (0 ≤ r ∧ r + n = left))
theorem szBlock_of {u : Value} {ss : List St} (res left : Int) (w : World) (hu : ∃ A c, u = .slice A ss.length c)
    (C : ∀ W, Below w.heap.size w W → Calls Try.prog 16 #[u, .int .i64 left] W (SzEnd W left (sumS Wz ss))) (h0 : 0 ≤ left) (h1 : left ≤ 1048576) :
    Calls Try.prog 5 #[.agg #[u, .int .i64 res], .int .i64 left] w (SzEnd w left (sumS Wz ss)) := by
  obtain ⟨A, c, rfl⟩ := hu
  have HB := Lib.hid fun O => (Below.refl w.heap.size w).alloc (Nat.le_refl _) O
  have HC := Lib.hid C
  clear C
  go_enter Try.func5, Try.ntmps5
  go_wp2_with fail
  refine (HC.out _ (HB.out _)).mono ?_
  rintro e w1 ⟨r, rfl, hB1, hr⟩
  have B1 := (HB.out _).trans (hB1.mono (HB.out _).size)
  clear hB1
  rcases hr with rfl | ⟨r0, r1⟩
  · go_wp2_with fail
    go_ret
    exact ⟨_, rfl, B1, .inl rfl⟩
  · have r2 : r ≤ 1048576 := by omega
    have R1 := Lib.hid r1
    clear r1
    go_wp2_with fail
    go_ret
    exact ⟨_, rfl, B1, .inr ⟨r0, R1.out⟩⟩
set_option maxHeartbeats 400000 in
theorem szBlockS_of {w0 : World} {L U : Nat} {A : Option Addr} {c : Nat} {V : Nat → Value} {bs : List Bl} (r : Row w0 L U 2 A bs.length c (fun j x => blCell (nthB bs j) (V j) x)) (hV : ∀ j, j < bs.length → ∃ A c, V j = .slice A (nthB bs j).steps.length c)
    (C : ∀ j, j < bs.length → ∀ (left : Int) (W : World), Same L U w0 W → U ≤ W.heap.size → 0 ≤ left → left ≤ 1048576 → Calls Try.prog 16 #[V j, .int .i64 left] W (SzEnd W left (sumS Wz (nthB bs j).steps)))
    (left : Int) (w : World) (hS : Same L U w0 w) (hU : U ≤ w.heap.size) (h0 : 0 ≤ left) (h1 : left ≤ 1048576) :
    Calls Try.prog 38 #[.slice A bs.length c, .int .i64 left] w (SzEnd w left (sumB Wz bs)) := by
  have hl := r.le
  have hc : c ≤ 9223372036854775807 := r.cap
  have HC := Lib.hid C
  have HV := Lib.hid hV
  clear C hV
  by_cases hs : (bs.length : Int) ≤ left
  · go_enter Try.func38, Try.ntmps38
    go_wp2_with fail
    go_loopw [1, 5] (fun l i wr => ∃ (k : Nat) (x : Int), k ≤ bs.length ∧ i = .int .i64 k ∧ l = .int .i64 x ∧ 0 ≤ x ∧ x + bs.length + sumB Wz (bs.take k) = left + k ∧ Below w.heap.size w wr) (fun _ i _ => bs.length - (intOf i).toNat)
    case atStart => exact ⟨0, left - bs.length, by omega, rfl, rfl, by omega, by simp [sumB], Below.refl _ _⟩
    case round =>
      obtain ⟨k, x, hk, rfl, rfl, x0, hx, hB⟩ := hrel
      have hz := hB.size
      by_cases hlt : k < bs.length
      · have hS1 : Same L U w0 wr := hS.trans (Same.of_below hB hU)
        obtain ⟨b, o, rfl, _, hb, c0, c1⟩ := brow_at (r.keep hS1) hlt
        obtain ⟨A', c', hVk⟩ := HV.out k hlt
        have st := sumB_step Wz hlt
        rw [bl_sum] at st
        have sw : Wz.b (nthB bs k).result = 1 := rfl
        rw [sw] at st
        have sl := sumB_length (bs.take k)
        rw [List.length_take] at sl
        have x2 : x ≤ 1048576 := by omega
        have CK := szBlock_of (ss := (nthB bs k).steps) (nthB bs k).result x wr ⟨A', c', hVk⟩ (fun W hW => HC.out k hlt x W (hS1.trans (Same.of_below hW (by omega))) (by have := hW.size; omega) x0 x2) x0 x2
        rw [hVk] at c0 CK
        have CK := Lib.hid CK
        obtain ⟨t, ht⟩ : ∃ t, sumS Wz (nthB bs k).steps = t := ⟨_, rfl⟩
        rw [ht] at st CK
        have ST := Lib.hid (And.intro st hx)
        clear st sw sl hx ht hVk hS1
        go_wp2_with fail
        refine CK.out.mono ?_
        rintro e w1 ⟨r', rfl, hB1, hr⟩
        have hB2 := hB.trans (hB1.mono hz)
        clear hB1 hB CK
        rcases hr with rfl | ⟨r0, r1⟩
        · go_wp2_with fail
          go_ret
          exact ⟨_, rfl, hB2, .inl rfl⟩
        · have r3 : r' ≤ 1048576 := by omega
          have HN : Hid (r' + bs.length + sumB Wz (bs.take (k + 1)) = left + ((k + 1 : Nat) : Int)) := by
            show _ = _
            obtain ⟨s1, s2⟩ := ST.out
            omega
          clear r1
          go_wp2_with fail
          go_roundw
          case rel => exact ⟨k + 1, r', by omega, by go_num, rfl, r0, HN.out, hB2⟩
          case measure => simp [intOf]; omega
      · rw [sumB_all Wz hlt] at hx
        have HX := Lib.hid hx
        clear hx
        go_wp2_with fail
        go_ret
        exact ⟨_, rfl, hB, .inr ⟨x0, by have := HX.out; omega⟩⟩
  · go_enter Try.func38, Try.ntmps38
    go_wp2_with fail
    go_ret
    exact ⟨_, rfl, Below.refl _ _, .inl rfl⟩
/-- One step. -/
theorem szStep_of {w0 : World} {L U : Nat} {A1 K1 : Option Addr} {c1 k1 : Nat} (s : St) (left : Int) (w : World) (hI : Ints w0 L U (.slice A1 s.args.length c1) s.args) (hS : Same L U w0 w) (hU : U ≤ w.heap.size)
    (C : ∀ (left : Int) (W : World), Same L U w0 W → U ≤ W.heap.size → 0 ≤ left → left ≤ 1048576 → Calls Try.prog 38 #[.slice K1 s.kids.length k1, .int .i64 left] W (SzEnd W left (sumB Wz s.kids))) (h0 : 0 ≤ left) (h1 : left ≤ 1048576) :
    Calls Try.prog 27 #[.agg #[.int .i64 s.op, .int .i64 s.num, .int .i64 s.into, .slice A1 s.args.length c1, .slice K1 s.kids.length k1], .int .i64 left] w (SzEnd w left (s.args.length + sumB Wz s.kids)) := by
  obtain ⟨W0, hW0⟩ : ∃ W0, W0 = w.alloc (.cells #[.int .i64 s.op, .int .i64 s.num, .int .i64 s.into, .slice A1 s.args.length c1, .slice K1 s.kids.length k1] 51) := ⟨_, rfl⟩
  have hB0 : Below w.heap.size w W0 := by rw [hW0]; exact (Below.refl _ w).alloc (Nat.le_refl _) _
  have hz0 : W0.heap.size = w.heap.size + 1 := by rw [hW0]; simp
  have hbox : W0.heap[w.heap.size]? = some (.cells #[.int .i64 s.op, .int .i64 s.num, .int .i64 s.into, .slice A1 s.args.length c1, .slice K1 s.kids.length k1] 51 (0, 0)) := by rw [hW0]; exact alloc_last _ _ _ rfl
  have hS0 : Same L U w0 W0 := hS.trans (Same.of_below hB0 hU)
  have cb := cell_of_row W0 w.heap.size 4 _ _ (0, 0) hbox
  simp only [List.getElem?_toArray, List.getElem?_cons_zero, List.getElem?_cons_succ] at cb
  have HI := Lib.hid (hI.keep hS0)
  have HC := Lib.hid fun left h0 h1 => C left W0 hS0 (by omega) h0 h1
  clear C hI hbox
  go_enter Try.func27, Try.ntmps27
  go_wp2_with fail
  rw [← hW0]
  clear hW0
  refine (szIntS_eq _ _ _ _ _ W0 HI.out h0 h1).mono ?_
  rintro e w1 ⟨r, rfl, rfl, hr⟩
  rcases hr with rfl | ⟨r0, r1⟩
  · go_wp2_with fail
    go_ret
    exact ⟨_, rfl, hB0, .inl rfl⟩
  · have r2 : r ≤ 1048576 := by omega
    have R1 := Lib.hid r1
    clear r1
    go_wp2_with fail
    refine (HC.out r r0 r2).mono ?_
    rintro e w2 ⟨q, rfl, hB2, hq⟩
    have B2 := hB0.trans (hB2.mono (by omega))
    clear hB2
    rcases hq with rfl | ⟨q0, q1⟩
    · go_wp2_with fail
      go_ret
      exact ⟨_, rfl, B2, .inl rfl⟩
    · have q2 : q ≤ 1048576 := by omega
      have Q1 := Lib.hid q1
      clear q1
      go_wp2_with fail
      go_ret
      exact ⟨_, rfl, B2, .inr ⟨q0, by have := R1.out; have := Q1.out; omega⟩⟩
set_option maxHeartbeats 400000 in
theorem szStepS_any {w0 : World} {L U : Nat} {u : Value} {ss : List St} (h : Sts w0 L U u ss) : ∀ (left : Int) (w : World), Same L U w0 w → U ≤ w.heap.size → 0 ≤ left → left ≤ 1048576 →
    Calls Try.prog 16 #[u, .int .i64 left] w (SzEnd w left (sumS Wz ss)) := by
  induction h with
  | mk A c VA KA KC KV ss r ha hk h ih =>
    intro left w hS hU h0 h1
    have hl := r.le
    have hc : c ≤ 9223372036854775807 := r.cap
    have HS := Lib.hid fun k (hlt : k < ss.length) => szBlockS_of (hk k hlt) (fun j hj => by obtain ⟨A, c, e, _⟩ := (h k hlt j hj).open_; exact ⟨A, c, e⟩) (ih k hlt)
    have HA := Lib.hid ha
    have HKc := Lib.hid fun k (hlt : k < ss.length) => (hk k hlt).le
    clear ih hk h ha
    by_cases hs : (ss.length : Int) ≤ left
    · go_enter Try.func16, Try.ntmps16
      go_wp2_with fail
      go_loopw [1, 5] (fun l i wr => ∃ (k : Nat) (x : Int), k ≤ ss.length ∧ i = .int .i64 k ∧ l = .int .i64 x ∧ 0 ≤ x ∧ x + ss.length + sumS Wz (ss.take k) = left + k ∧ Below w.heap.size w wr) (fun _ i _ => ss.length - (intOf i).toNat)
      case atStart => exact ⟨0, left - ss.length, by omega, rfl, rfl, by omega, by simp [sumS], Below.refl _ _⟩
      case round =>
        obtain ⟨k, x, hk, rfl, rfl, x0, hx, hB⟩ := hrel
        have hz := hB.size
        by_cases hlt : k < ss.length
        · have hS1 : Same L U w0 wr := hS.trans (Same.of_below hB hU)
          obtain ⟨b, o, rfl, _, hb, c0, c1, c2, c3, c4⟩ := srow_at (r.keep hS1) hlt
          have hI := HA.out k hlt
          obtain ⟨A', c', hVk, _, _⟩ := hI.open_
          rw [hVk] at c3 hI
          have st := sumS_step Wz hlt
          have se : (nthS ss k).sum Wz = 1 + (nthS ss k).args.length + sumB Wz (nthS ss k).kids := by rw [st_sum]; rfl
          rw [se] at st
          have sl := sumS_length (ss.take k)
          rw [List.length_take] at sl
          have x2 : x ≤ 1048576 := by omega
          have CK := szStep_of (nthS ss k) x wr hI hS1 (by omega) (fun l W a1 a2 a3 a4 => HS.out k hlt l W a1 a2 a3 a4) x0 x2
          have CK := Lib.hid CK
          obtain ⟨t, ht⟩ : ∃ t, (nthS ss k).args.length + sumB Wz (nthS ss k).kids = t := ⟨_, rfl⟩
          rw [Nat.add_assoc, ht] at st
          rw [ht] at CK
          have ST := Lib.hid (And.intro st hx)
          clear st se sl hx ht hVk hS1 hI
          go_wp2_with fail
          refine CK.out.mono ?_
          rintro e w1 ⟨r', rfl, hB1, hr⟩
          have hB2 := hB.trans (hB1.mono hz)
          clear hB1 hB CK
          rcases hr with rfl | ⟨r0, r1⟩
          · go_wp2_with fail
            go_ret
            exact ⟨_, rfl, hB2, .inl rfl⟩
          · have r3 : r' ≤ 1048576 := by omega
            have HN : Hid (r' + ss.length + sumS Wz (ss.take (k + 1)) = left + ((k + 1 : Nat) : Int)) := by
              show _ = _
              obtain ⟨s1, s2⟩ := ST.out
              omega
            clear r1
            go_wp2_with fail
            go_roundw
            case rel => exact ⟨k + 1, r', by omega, by go_num, rfl, r0, HN.out, hB2⟩
            case measure => simp [intOf]; omega
        · rw [sumS_all Wz hlt] at hx
          have HX := Lib.hid hx
          clear hx
          go_wp2_with fail
          go_ret
          exact ⟨_, rfl, hB, .inr ⟨x0, by have := HX.out; omega⟩⟩
    · go_enter Try.func16, Try.ntmps16
      go_wp2_with fail
      go_ret
      exact ⟨_, rfl, Below.refl _ _, .inl rfl⟩
theorem szBlock_top {w : World} {L U : Nat} {u : Value} {ss : List St} (h : Sts w L U u ss) (res : Int) (hU : U ≤ w.heap.size) :
    Calls Try.prog 5 #[.agg #[u, .int .i64 res], .int .i64 1048576] w fun e w' => ∃ r : Int, e = .returned (.int .i64 r) ∧ Below w.heap.size w w' ∧ (r = -1 ∨ (0 ≤ r ∧ r ≤ 1048576 ∧ sumS Wz ss ≤ 1048576)) := by
  obtain ⟨A, c, e, _⟩ := h.open_
  refine Calls.mono (szBlock_of res 1048576 w ⟨A, c, e⟩ (fun W hW => szStepS_any h 1048576 W (Same.of_below hW hU) (by have := hW.size; omega) (by omega) (by omega)) (by omega) (by omega)) ?_
  rintro e w' ⟨r, rfl, hB, hr⟩
  exact ⟨r, rfl, hB, hr.imp id fun ⟨h1, h2⟩ => ⟨h1, by omega, by omega⟩⟩
end Go.Proofs.Ytdooageiopnhaaa
