/- The walk of the law FnInhabited. -/
import Derived.Test.YtgbeongiejppnaaZa
import Derived.Test.YtgbeongiejppnaaZb
import Derived.Test.YtgbeongiejppnaaWe
import Derived.Test.YtgbeongiejppnaaJ3
namespace Go.Proofs.Ytgbeongiejppnaa
open Go.RowKit Go.BigFrame
set_option maxHeartbeats 1600000 in
theorem fnInhabited_walk (A : Option Addr) (n c : Nat) (w : World) (h : Code_ w A n c) :
    Calls Try.prog 3 #[.slice A n c] w fun e w' => e = .returned (.bool true) ∧ Below w.heap.size w w' := by
  by_cases hbig : 1048576 < n
  · go_enter Try.func3, Try.ntmps3
    go_wp2_with fail
    go_ret
    exact ⟨rfl, Below.refl _ _⟩
  · have Hc := Lib.hid h
    clear h
    go_enter Try.func3, Try.ntmps3
    go_wp2_with fail
    refine (drawInhabited A n c w Hc.out).mono ?_
    rintro e w1 ⟨v, ds, rfl, hl, hd, hB1⟩
    obtain ⟨B, cc, rfl, hlc, hcc⟩ := hd.open_
    go_wp2_with fail
    refine (inhabitedOwn _ _ ds _ w1 hd (Nat.le_refl _)).mono ?_
    rintro e w2 ⟨u, rfl, hB2, hO⟩
    have hu := hO.ints
    have hd2 := hd.keep (Same.of_below hB2 (Nat.le_refl _))
    obtain ⟨Bu, cu, rfl, hlu, hcu⟩ := hu.open_
    go_wp2_with fail
    refine (sInhabitedTop _ _ ds _ w2 hd2 hB2.size).mono ?_
    rintro e w3 ⟨u', rfl, hB3, hu'⟩
    have hu3 := hu.keep (Same.of_below hB3 (Nat.le_refl _))
    have hd3 := hd2.keep (Same.of_below hB3 hB2.size)
    obtain ⟨Bu', cu', rfl, hlu', hcu'⟩ := hu'.open_
    go_wp2_with fail
    refine (equalInts_same _ _ _ _ _ _ _ w3 hu3 hu').mono ?_
    rintro e w4 ⟨rfl, hB4⟩
    have hz1 := hB1.size
    have hz2 := hB2.size
    have hz3 := hB3.size
    have hz4 := hB4.size
    have hB14 : Below w.heap.size w w4 := hB1.trans ((hB2.mono hz1).trans ((hB3.mono (by omega)).trans (hB4.mono (by omega))))
    have hu4 := hu3.keep (Same.of_below hB4 hz3)
    have hd4 := hd3.keep (Same.of_below hB4 (by omega))
    clear hu hu3 hd hd2 hd3 hO
    rcases hb : typesOk ds with _ | _
    · have hn0 : (((inhV ds).length : Int) == 0) = true := by rw [inh_none hb]; rfl
      clear hb
      have HB := Lib.hid hB14
      clear hB14 hB1 hB2 hB3 hB4
      go_wp2_with fail
      refine (sInhabitedTop _ _ ds _ w4 hd4 (by omega)).mono ?_
      rintro e w5 ⟨u', rfl, hB5, hu'⟩
      have hu5 := hu4.keep (Same.of_below hB5 (by omega))
      obtain ⟨Bu', cu', rfl, hlu', hcu'⟩ := hu'.open_
      go_wp2_with fail
      refine (equalInts_same _ _ _ _ _ _ _ w5 hu5 hu').mono ?_
      rintro e w6 ⟨rfl, hB6⟩
      have HR := Lib.hid (HB.out.trans ((hB5.mono (by omega)).trans (hB6.mono (by have := hB5.size; have := HB.out.size; omega))))
      clear hB5 hB6
      go_wp2_with fail
      go_ret
      exact ⟨rfl, HR.out⟩
    · have hn0 : (((inhV ds).length : Int) == 0) = false := by have := inh_some hb; rw [beq_eq_false_iff_ne]; omega
      have HT := Lib.hid hb
      have HB := Lib.hid hB14
      have hzw := hB14.size
      clear hb hB14 hB1 hB2 hB3 hB4 hu'
      go_wp2_with fail
      go_loopw [5] (fun i wr => ∃ k : Nat, k ≤ ds.length ∧ i = .int .i64 ((k : Int) + 1) ∧ wr = w4) (fun i _ => ds.length + 1 - (intOf i).toNat)
      case atStart => exact ⟨0, by omega, rfl, rfl⟩
      case round =>
        obtain ⟨k, hk, rfl, rfl⟩ := hrel
        by_cases hlt : k < ds.length
        · obtain ⟨b, o, A', c', rfl, _, _, e0, e1, e2, hcs⟩ := hd4.at_ hlt
          obtain ⟨cs, hcse⟩ : ∃ cs, (nthD ds k).cons = cs := ⟨_, rfl⟩
          rw [hcse] at e2 hcs
          obtain ⟨_, _, ec, hl5, hc5⟩ := hcs.open_
          cases ec
          have k0 : (0 : Int) ≤ (k : Int) := by omega
          have k1 : (k : Int) < (ds.length : Int) := by omega
          have k2 : decide ((k : Int) + 1 ≤ (ds.length : Int)) = true := by simp; omega
          have s1 : IntKind.i64.wrap ((k : Int) + 1 - 1) = (k : Int) := by rw [show (k : Int) + 1 - 1 = k by omega]; exact IntWalk.i64_in _ (by omega)
          go_wp2_with fail
          go_loopw [6, 7] (fun f i wq => ∃ (j : Nat) (t : Bool), j ≤ cs.length ∧ i = .int .i64 j ∧ f = .bool t ∧ Hid ((decide (cs.length = 0) || (cs.take j).any (fun x => allI x (inhV ds))) = t) ∧ wq = wr) (fun _ i _ => cs.length - (intOf i).toNat)
          case atStart => exact ⟨0, decide (cs.length = 0), by omega, rfl, congrArg Value.bool (by rw [Bool.eq_iff_iff]; simp), by simp [Hid], rfl⟩
          case round =>
            obtain ⟨j, t, hj, rfl, rfl, HJ, rfl⟩ := hrel
            by_cases hjt : j < cs.length
            · obtain ⟨b2, o2, A2, c2, rfl, _, _, hq, hu2⟩ := hcs.at_ hjt
              obtain ⟨_, _, eu, hul, huc⟩ := hu2.open_
              cases eu
              rcases t with _ | _
              · rcases hm : allI cs[j] (inhV ds) with _ | _
                · have HM := Lib.hid hm
                  have HN : Hid ((decide (cs.length = 0) || (cs.take (j + 1)).any (fun x => allI x (inhV ds))) = false) := by show _ = _; rw [any_take_succ _ _ _ hjt, hm, Bool.or_false]; exact HJ.out
                  clear hm
                  go_wp2_with fail
                  refine (withinL_is _ _ _ _ _ _ _ _ _ wr hu2 hu4 HM.out).mono ?_
                  rintro e w2 ⟨rfl, rfl⟩
                  go_wp2_with fail
                  go_roundw
                  case rel => exact ⟨j + 1, false, by omega, by go_num, rfl, HN, by first | rfl | trivial⟩
                  case measure => simp [intOf]; omega
                · have HM := Lib.hid hm
                  have HN : Hid ((decide (cs.length = 0) || (cs.take (j + 1)).any (fun x => allI x (inhV ds))) = true) := by show _ = _; rw [any_take_succ _ _ _ hjt, hm, Bool.or_true, Bool.or_true]
                  clear hm
                  go_wp2_with fail
                  refine (withinL_is _ _ _ _ _ _ _ _ _ wr hu2 hu4 HM.out).mono ?_
                  rintro e w2 ⟨rfl, rfl⟩
                  go_wp2_with fail
                  go_roundw
                  case rel => exact ⟨j + 1, true, by omega, by go_num, rfl, HN, by first | rfl | trivial⟩
                  case measure => simp [intOf]; omega
              · have HN : Hid ((decide (cs.length = 0) || (cs.take (j + 1)).any (fun x => allI x (inhV ds))) = true) := by
                  show _ = _
                  have := HJ.out
                  rw [any_take_succ _ _ _ hjt, ← Bool.or_assoc, this]; rfl
                go_wp2_with fail
                go_roundw
                case rel => exact ⟨j + 1, true, by omega, by go_num, rfl, HN, by first | rfl | trivial⟩
                case measure => simp [intOf]; omega
            · have hall : memI (inhV ds) ((k : Int) + 1) = t := by
                have := HJ.out
                rw [List.take_of_length_le (by omega)] at this
                rw [inh_full HT.out hlt]
                unfold fullB anyI
                rw [hcse]
                exact this
              have HA := Lib.hid hall
              clear hall
              rcases t with _ | _
              · go_wp2_with fail
                refine (isIn_is false _ _ _ _ _ wr hu4 HA.out).mono ?_
                rintro e w2 ⟨rfl, rfl⟩
                go_wp2_with fail
                go_roundw
                case rel => exact ⟨k + 1, by omega, by go_num, by first | rfl | trivial⟩
                case measure => simp [intOf]; omega
              · go_wp2_with fail
                refine (isIn_is true _ _ _ _ _ wr hu4 HA.out).mono ?_
                rintro e w2 ⟨rfl, rfl⟩
                go_wp2_with fail
                go_roundw
                case rel => exact ⟨k + 1, by omega, by go_num, by first | rfl | trivial⟩
                case measure => simp [intOf]; omega
        · have k2 : decide ((k : Int) + 1 ≤ (ds.length : Int)) = false := by simp; omega
          go_wp2_with fail
          refine (isIn_is true _ _ _ _ _ wr hu4 (inh_zero HT.out)).mono ?_
          rintro e w2 ⟨rfl, rfl⟩
          go_wp2_with fail
          refine (ascendsL_any _ _ _ _ wr hu4 (inh_asc HT.out)).mono ?_
          rintro e w5 ⟨rfl, hB5⟩
          have HR := Lib.hid (HB.out.trans (hB5.mono (by omega)))
          clear hB5
          go_wp2_with fail
          go_ret
          exact ⟨rfl, HR.out⟩
end Go.Proofs.Ytgbeongiejppnaa
