/- Contracts of chapter 2: the functions that are reached from one, as the model finds them. -/
import Derived.Test.YtihmkaodjpgikaaGreatRf2
import Derived.Test.YtihmkaodjpgikaaGreatJ2
import Derived.Test.YtihmkaodjpgikaaGreatPn2
namespace Go.Proofs.YtihmkaodjpgikaaGreat
open Go.RowKit Go.BigFrame
set_option maxHeartbeats 3200000 in
theorem sReached_any {w : World} {p : Pg} {pv : Value} {f : Nat} (hp : Pgm w 0 w.heap.size pv p) (ok : RcOk p) (hfm : f < p.funcs.length) :
    Calls Tryz.prog 17 #[pv, .int .i64 (f : Int)] w fun e w' => ∃ u, e = .returned u ∧ Below w.heap.size w w' ∧ Own w' w.heap.size u (rchG (bodyOf p) p.funcs.length (f : Int) p.funcs.length) := by
  obtain ⟨dd, ff, rfl, hd, hf⟩ := hp
  have hp : Pgm w 0 w.heap.size (.agg #[dd, ff]) p := ⟨dd, ff, rfl, hd, hf⟩
  obtain ⟨B1, b1, rfl, l1, m1⟩ := hd.open_
  obtain ⟨B2, b2, rfl, l2, m2⟩ := hf.open_
  obtain ⟨W0, hW0⟩ : ∃ W0, W0 = w.alloc (.cells #[.slice B1 p.decls.length b1, .slice B2 p.funcs.length b2] 32) := ⟨_, rfl⟩
  have hB0 : Below w.heap.size w W0 := by rw [hW0]; exact (Below.refl _ w).alloc (Nat.le_refl _) _
  have hz0 : W0.heap.size = w.heap.size + 1 := by rw [hW0]; simp
  have x0 : W0.heap[w.heap.size]? = some (.cells #[.slice B1 p.decls.length b1, .slice B2 p.funcs.length b2] 32 (0, 0)) := by rw [hW0]; exact alloc_last _ _ _ rfl
  have HX := Lib.hid fun W (hB : Below W0.heap.size W0 W) => cells2 ((hB.block w.heap.size (by omega)).trans x0)
  have HE := Lib.hid fun W (hB : Below W0.heap.size W0 W) => hB0.trans (hB.mono (show w.heap.size ≤ W0.heap.size by omega))
  have HPG := Lib.hid fun W (hB : Below W0.heap.size W0 W) => (hp.keep (Same.of_below (HE.out W hB) (Nat.le_refl _))).wide (Nat.le_refl _) (HE.out W hB).size
  have HF := Lib.hid fun W (hB : Below W0.heap.size W0 W) => (HPG.out W hB).two.2
  have HZ := Lib.hid hz0
  have OK := Lib.hid ok
  have h4 := ok.four
  have hz1 : w.heap.size ≤ W0.heap.size := by omega
  obtain ⟨W4, hW4⟩ : ∃ W4, W4 = W0.alloc (.cells #[.int .i64 (f : Int)] 3) := ⟨_, rfl⟩
  have hB4 : Below W0.heap.size W0 W4 := by rw [hW4]; exact (Below.refl _ W0).alloc (Nat.le_refl _) _
  have ho0 : Own W4 W0.heap.size (.slice (some ⟨w.heap.size + 1, 0, none⟩) 1 1) (rchG (bodyOf p) p.funcs.length (f : Int) 0) := by
    rw [hW4, ← hz0]
    exact Own.of (n := 1) (World.ownsRow_lit (base := W0.heap.size) (e := 3) (size := 1) W0 #[.int .i64 (f : Int)] 1 (Nat.le_refl _) (by simp [maxLen]) rfl)
  have HO0 := Lib.hid (And.intro ho0 hB4)
  clear hp hf x0 ok hB4 ho0 hz0
  go_enter Tryz.func17, Tryz.ntmps17
  go_wp2_with fail
  rw [← hW0, ← hW4]
  clear hW0 hW4
  go_loopw [5, 6] (fun u i wr => ∃ r : Nat, r ≤ p.funcs.length ∧ i = .int .i64 r ∧ Own wr W0.heap.size u (rchG (bodyOf p) p.funcs.length (f : Int) r) ∧ Below W0.heap.size W0 wr) (fun _ i _ => p.funcs.length - (intOf i).toNat)
  case atStart => exact ⟨0, by omega, rfl, HO0.out.1, HO0.out.2⟩
  case round =>
    obtain ⟨r, hr', rfl, hown, hB⟩ := hrel
    obtain ⟨S0, S1⟩ := HX.out wr hB
    by_cases hlt : r < p.funcs.length
    · obtain ⟨a1, a2⟩ := rchG_ok OK.out hfm r
      obtain ⟨S, hS⟩ : ∃ S, rchG (bodyOf p) p.funcs.length (f : Int) r = S := ⟨_, rfl⟩
      have hnext : rchG (bodyOf p) p.funcs.length (f : Int) (r + 1) = stG (bodyOf p) S p.funcs.length := by rw [← hS]; rfl
      rw [hS] at a1 a2 hown
      have HN := Lib.hid hnext
      have AI := Lib.hid (And.intro a1 a2)
      clear a1 a2 hS hnext
      go_wp2_with fail
      clear S0 S1
      go_loopw [5, 7] (fun u i wq => ∃ k : Nat, k ≤ p.funcs.length ∧ i = .int .i64 k ∧ Own wq W0.heap.size u (stG (bodyOf p) S k) ∧ Below W0.heap.size W0 wq) (fun _ i _ => p.funcs.length - (intOf i).toNat)
      case atStart => exact ⟨0, by omega, rfl, hown, hB⟩
      case round =>
        obtain ⟨k, hk, rfl, hownq, hBq⟩ := hrel
        have hzq := hBq.size
        obtain ⟨S0, S1⟩ := HX.out wr hBq
        clear hown hB
        by_cases hkt : k < p.funcs.length
        · obtain ⟨T0, T1⟩ := stG_ok OK.out AI.out.1 AI.out.2 (Nat.le_of_lt hkt)
          have hn1 : stG (bodyOf p) S (k + 1) = cond (memI (stG (bodyOf p) S k) (k : Int)) (insL ((bodyOf p k).nam []) (stG (bodyOf p) S k)) (stG (bodyOf p) S k) := rfl
          obtain ⟨T, hT⟩ : ∃ T, stG (bodyOf p) S k = T := ⟨_, rfl⟩
          rw [hT] at hn1 hownq T0 T1
          have HO := Lib.hid (And.intro hownq hBq)
          have AT := Lib.hid (And.intro T0 T1)
          obtain ⟨X, xc, rfl, _, _⟩ := hownq.ints.open_
          clear hownq hT T0 T1
          rcases hm : memI T (k : Int) with _ | _
          · rw [hm, cond_false] at hn1
            have CI := Lib.hid (sIsIn_is false _ _ T _ (k : Int) wr HO.out.1.ints hm)
            have HX1 := Lib.hid hn1
            clear hm hn1 hBq
            go_wp2_with fail
            refine CI.out.mono ?_
            rintro e w2 ⟨rfl, rfl⟩
            clear CI
            go_wp2_with fail
            go_roundw
            case rel => exact ⟨k + 1, by omega, by go_num, by rw [HX1.out]; exact HO.out.1, HO.out.2⟩
            case measure => simp [intOf]; omega
          · rw [hm, cond_true] at hn1
            have CI := Lib.hid (sIsIn_is true _ _ T _ (k : Int) wr HO.out.1.ints hm)
            have HX1 := Lib.hid hn1
            obtain ⟨b', o', A1', c1', A2', c2', rfl, _, hb', f0, f1, f2, f3, f4, _, hE'⟩ := (HF.out wr hBq).at_ hkt
            have h30 := OK.out.small k hkt
            obtain ⟨W2, hW2⟩ : ∃ W2, W2 = wr.alloc (.cells #[] 3) := ⟨_, rfl⟩
            have hBa : Below wr.heap.size wr W2 := by rw [hW2]; exact (Below.refl _ wr).alloc (Nat.le_refl _) _
            have hown : Own W2 wr.heap.size (.slice (some ⟨wr.heap.size, 0, none⟩) 0 0) [] := by
              rw [hW2]; exact World.ownsRow_lit (base := wr.heap.size) (e := 3) (size := 1) wr #[] 0 (Nat.le_refl _) (by simp [maxLen]) rfl
            have za := hBa.size
            have CK := sCallees_any wr.heap.size (hE'.keep (Same.of_below hBa (Nat.le_refl _))) (nthF p.funcs k).body.op (nthF p.funcs k).body.num [] (.slice (some ⟨wr.heap.size, 0, none⟩) 0 0) W2 (Same.refl _ _ _) za ⟨za, hown⟩ asc_empty (by simp only [List.length_nil]; omega)
            rw [← nam_eq] at CK
            obtain ⟨ys, hys⟩ : ∃ ys, (bodyOf p k).nam [] = ys := ⟨_, rfl⟩
            rw [show (nthF p.funcs k).body.nam [] = ys from hys] at CK
            rw [hys] at hn1
            have hyl : ys.length ≤ 60 := by
              rw [← hys]
              have h := (nam_ok (bodyOf p k) [] asc_empty).2
              rw [sum_eq] at h
              have e1 : one_ (bodyOf p k).op (bodyOf p k).num = 1 := rfl
              simp only [List.length_nil] at h
              have h30' : 1 + sumL one_ (bodyOf p k).kids ≤ 30 := h30
              omega
            have HX1 := Lib.hid hn1
            have CK := Lib.hid CK
            have HA := Lib.hid hBa
            have k0 : (0 : Int) ≤ (k : Int) := by omega
            have k1 : (k : Int) < (p.funcs.length : Int) := by omega
            clear hm hn1 hBq hE' hBa hown hys
            go_wp2_with fail
            refine CI.out.mono ?_
            rintro e w2 ⟨rfl, rfl⟩
            clear CI
            go_wp2_with fail
            rw [← hW2]
            clear hW2
            refine CK.out.mono ?_
            rintro e w3 ⟨u3, rfl, hB3, hL3⟩
            have z3 := hB3.size
            have HH := Lib.hid (And.intro (HO.out.1.keep (Same.of_below (HA.out.trans (hB3.mono za)) (Nat.le_refl _))) (And.intro (HO.out.2.trans ((HA.out.trans (hB3.mono za)).mono hzq)) hL3))
            obtain ⟨Y, yc, rfl, _, _⟩ := hL3.2.ints.open_
            clear hB3 hL3 CK HA HO S0 S1 f0 f1 f2 f3 f4
            go_wp2_with fail
            go_loopw [5, 9] (fun u i wz => ∃ j : Nat, j ≤ ys.length ∧ i = .int .i64 j ∧ Own wz W0.heap.size u (insL (ys.take j) T) ∧ Own wz W0.heap.size (.slice Y ys.length yc) ys ∧ Below W0.heap.size W0 wz) (fun _ i _ => ys.length - (intOf i).toNat)
            case atStart => exact ⟨0, by omega, rfl, HH.out.1, HH.out.2.2.2.wide hzq, HH.out.2.1⟩
            case round =>
              obtain ⟨j, hj, rfl, hoz, hyz, hBz⟩ := hrel
              have hzz := hBz.size
              by_cases hjt : j < ys.length
              · obtain ⟨bb, o, rfl, _, _, hc⟩ := hyz.ints.at_ hjt
                have at1 := insL_asc (ys.take j) AT.out.1
                have at2 := insL_length (ys.take j) T
                have at3 := AT.out.2
                rw [List.length_take] at at2
                have hn2 := insL_step hjt T
                obtain ⟨R, hR⟩ : ∃ R, insL (ys.take j) T = R := ⟨_, rfl⟩
                rw [hR] at hn2 hoz at1 at2
                have CJ := insert_any _ _ R _ ys[j] wr hoz.ints (Nat.le_refl _) at1 (by omega)
                rw [← hn2] at CJ
                have CJ := Lib.hid CJ
                have HY := Lib.hid (And.intro hyz hBz)
                clear hn2 hR hoz at1 at2 hyz hBz
                go_wp2_with fail
                refine CJ.out.mono ?_
                rintro e w5 ⟨u5, rfl, hB5, ho5⟩
                have HH5 := Lib.hid (And.intro (ho5.wide (base' := W0.heap.size) hzz) (And.intro (HY.out.1.keep (Same.of_below hB5 (Nat.le_refl _))) (HY.out.2.trans (hB5.mono hzz))))
                clear hB5 ho5 CJ HY hc
                go_wp2_with fail
                go_roundw
                case rel => exact ⟨j + 1, by omega, by go_num, HH5.out.1, HH5.out.2.1, HH5.out.2.2⟩
                case measure => simp [intOf]; omega
              · rw [List.take_of_length_le (by omega)] at hoz
                have HH5 := Lib.hid (And.intro hoz hBz)
                clear hoz hyz hBz
                go_wp2_with fail
                go_roundw
                case rel => exact ⟨k + 1, by omega, by go_num, by rw [HX1.out]; exact HH5.out.1, HH5.out.2⟩
                case measure => simp [intOf]; omega
        · obtain rfl : k = p.funcs.length := by omega
          have HO := Lib.hid (And.intro hownq hBq)
          clear hownq hBq
          go_wp2_with fail
          go_roundw
          case rel => exact ⟨r + 1, by omega, by go_num, by rw [HN.out]; exact HO.out.1, HO.out.2⟩
          case measure => simp [intOf]; omega
    · obtain rfl : r = p.funcs.length := by omega
      have HH := Lib.hid (And.intro (hown.wide hz1) (HE.out wr hB))
      clear hown hB
      go_wp2_with fail
      go_ret
      exact ⟨_, rfl, HH.out.2, HH.out.1⟩
set_option maxHeartbeats 1600000 in
theorem sReachedTop_any {w : World} {p : Pg} {pv : Value} (f : Int) (hp : Pgm w 0 w.heap.size pv p) :
    Calls Tryz.prog 5 #[pv, .int .i64 f] w fun e w' => ∃ u, e = .returned u ∧ Below w.heap.size w w' ∧ Ints w' w.heap.size w'.heap.size u (rcV p f) := by
  obtain ⟨dd, ff, rfl, hd, hf⟩ := hp
  have hp : Pgm w 0 w.heap.size (.agg #[dd, ff]) p := ⟨dd, ff, rfl, hd, hf⟩
  obtain ⟨B1, b1, rfl, l1, m1⟩ := hd.open_
  obtain ⟨B2, b2, rfl, l2, m2⟩ := hf.open_
  obtain ⟨W0, hW0⟩ : ∃ W0, W0 = w.alloc (.cells #[.slice B1 p.decls.length b1, .slice B2 p.funcs.length b2] 32) := ⟨_, rfl⟩
  have hB0 : Below w.heap.size w W0 := by rw [hW0]; exact (Below.refl _ w).alloc (Nat.le_refl _) _
  have hz0 : W0.heap.size = w.heap.size + 1 := by rw [hW0]; simp
  have x0 : W0.heap[w.heap.size]? = some (.cells #[.slice B1 p.decls.length b1, .slice B2 p.funcs.length b2] 32 (0, 0)) := by rw [hW0]; exact alloc_last _ _ _ rfl
  have HX := Lib.hid fun W (hB : Below W0.heap.size W0 W) => cells2 ((hB.block w.heap.size (by omega)).trans x0)
  have HE := Lib.hid fun W (hB : Below W0.heap.size W0 W) => hB0.trans (hB.mono (show w.heap.size ≤ W0.heap.size by omega))
  have HPG := Lib.hid fun W (hB : Below W0.heap.size W0 W) => (hp.keep (Same.of_below (HE.out W hB) (Nat.le_refl _))).wide (Nat.le_refl _) (HE.out W hB).size
  have HF := Lib.hid fun W (hB : Below W0.heap.size W0 W) => (HPG.out W hB).two.2
  have HZ := Lib.hid hz0
  have CS := Lib.hid (sValidProgram_any (HPG.out W0 (Below.refl _ _)))
  have hz1 : w.heap.size ≤ W0.heap.size := by omega
  clear hp hd hf x0 hz0
  obtain ⟨q0, q1⟩ := HX.out W0 (Below.refl _ _)
  rcases hs : progOk p with _ | _
  · rw [rcV_no (.inl hs)]
    rw [hs] at CS
    clear hs
    go_enter Tryz.func5, Tryz.ntmps5
    go_wp2_with fail
    rw [← hW0]
    clear hW0
    refine CS.out.mono ?_
    rintro e w1 ⟨rfl, hB1⟩
    have HB1 := Lib.hid (HE.out _ hB1)
    clear hB1
    go_wp2_with fail
    go_ret
    exact ⟨_, rfl, HB1.out, (Own.nil _ _).ints⟩
  · have hfl := (sigs_len (prog_sigs hs)).2
    rw [hs] at CS
    have s1 : IntKind.i64.wrap ((p.funcs.length : Int) - 1) = (p.funcs.length : Int) - 1 := IntWalk.i64_in _ (by omega)
    rcases hb : hasF p f with _ | _
    · rw [rcV_no (.inr hb)]
      have CH := Lib.hid fun (W : World) => sInR_is hb W
      clear hb hs
      go_enter Tryz.func5, Tryz.ntmps5
      go_wp2_with fail
      rw [← hW0]
      clear hW0
      refine CS.out.mono ?_
      rintro e w1 ⟨rfl, hB1⟩
      obtain ⟨Q0, Q1⟩ := HX.out w1 hB1
      have z1 := hB1.size
      have HB1 := Lib.hid (HE.out _ hB1)
      clear hB1 CS q0 q1
      go_wp2_with ((go_at_call 16; refine (CH.out _).mono ?_; rintro e w2 ⟨rfl, rfl⟩))
      go_ret
      exact ⟨_, rfl, HB1.out, (Own.nil _ _).ints⟩
    · have CH := Lib.hid fun (W : World) => sInR_is hb W
      obtain ⟨k, rfl, hk⟩ : ∃ k : Nat, f = (k : Int) ∧ k < p.funcs.length := by
        unfold hasF at hb
        obtain ⟨h1, h2⟩ := Bool.and_eq_true_iff.1 hb
        have h1 := of_decide_eq_true h1
        have h2 := of_decide_eq_true h2
        exact ⟨f.toNat, by omega, by omega⟩
      rw [rcV_yes hs hb, ← rch_eq (E := bodyOf p) (prog_in hs) (by omega) (by omega)]
      have OK := Lib.hid (RcOk.of hs)
      clear hb hs
      go_enter Tryz.func5, Tryz.ntmps5
      go_wp2_with fail
      rw [← hW0]
      clear hW0
      refine CS.out.mono ?_
      rintro e w1 ⟨rfl, hB1⟩
      obtain ⟨Q0, Q1⟩ := HX.out w1 hB1
      have z1 := hB1.size
      have CK := Lib.hid (sReached_any (HPG.out w1 hB1) OK.out hk)
      have HB1 := Lib.hid hB1
      clear hB1 CS q0 q1
      go_wp2_with ((go_at_call 16; refine (CH.out _).mono ?_; rintro e w2 ⟨rfl, rfl⟩))
      refine CK.out.mono ?_
      rintro e w3 ⟨u, rfl, hB4, hO⟩
      have HF4 := Lib.hid (And.intro (HE.out _ (HB1.out.trans (hB4.mono z1))) ((hO.wide (base' := w.heap.size) (HE.out _ HB1.out).size).ints))
      clear hB4 hO Q0 Q1
      go_wp2_with fail
      go_ret
      exact ⟨_, rfl, HF4.out.1, HF4.out.2⟩
end Go.Proofs.YtihmkaodjpgikaaGreat
