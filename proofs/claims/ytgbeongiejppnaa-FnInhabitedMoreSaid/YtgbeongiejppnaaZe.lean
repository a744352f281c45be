/- The walk of the law FnInhabitedMore. -/
import Derived.Test.YtgbeongiejppnaaZa
import Derived.Test.YtgbeongiejppnaaWe
import Derived.Test.YtgbeongiejppnaaJ3
import Derived.Test.YtgbeongiejppnaaZd
namespace Go.Proofs.Ytgbeongiejppnaa
open Go.RowKit Go.BigFrame
theorem infoCon : (Try.prog.info? 32).map (fun i => (i.zero, i.size, i.bytes)) = some (some (.agg #[.slice none 0 0]), 1, 24) := by kernel_rfl
set_option maxRecDepth 8000 in
set_option maxHeartbeats 3200000 in
theorem fnInhabitedMore_walk (A : Option Addr) (n c : Nat) (w : World) (h : Code_ w A n c) :
    Calls Try.prog 4 #[.slice A n c] w fun e w' => e = .returned (.bool true) ∧ Below w.heap.size w w' := by
  by_cases hbig : 1048576 < n
  · go_enter Try.func4, Try.ntmps4
    go_wp2_with fail
    go_ret
    exact ⟨rfl, Below.refl _ _⟩
  · have Hc := Lib.hid h
    clear h
    go_enter Try.func4, Try.ntmps4
    go_wp2_with fail
    refine (drawInhabited A n c w Hc.out).mono ?_
    rintro e w1 ⟨v, ds, rfl, hl, hd, hB1⟩
    obtain ⟨B, cc, rfl, hlc, hcc⟩ := hd.open_
    go_wp2_with fail
    refine (inhabitedOwn _ _ ds _ w1 hd (Nat.le_refl _)).mono ?_
    rintro e w2 ⟨u, rfl, hB2, hO⟩
    have hu := hO.ints
    have hd2 := hd.keep (Same.of_below hB2 (Nat.le_refl _))
    obtain ⟨Bu, cu, rfl, hlu, hcu⟩ := hu.open_
    go_wp2_with fail
    refine (sInhabitedTop _ _ ds _ w2 hd2 hB2.size).mono ?_
    rintro e w3 ⟨u', rfl, hB3, hu'⟩
    have hu3 := hu.keep (Same.of_below hB3 (Nat.le_refl _))
    have hd3 := hd2.keep (Same.of_below hB3 hB2.size)
    obtain ⟨Bu', cu', rfl, hlu', hcu'⟩ := hu'.open_
    go_wp2_with fail
    refine (equalInts_same _ _ _ _ _ _ _ w3 hu3 hu').mono ?_
    rintro e w4 ⟨rfl, hB4⟩
    have hz1 := hB1.size
    have hz2 := hB2.size
    have hz3 := hB3.size
    have hz4 := hB4.size
    have hB14 : Below w.heap.size w w4 := hB1.trans ((hB2.mono hz1).trans ((hB3.mono (by omega)).trans (hB4.mono (by omega))))
    have hu4 := hu3.keep (Same.of_below hB4 hz3)
    have hd4 := hd3.keep (Same.of_below hB4 (by omega))
    clear hu hu3 hd hd2 hd3 hO
    rcases hb : typesOk ds with _ | _
    · have hn0 : (((inhV ds).length : Int) == 0) = true := by rw [inh_none hb]; rfl
      clear hb
      have HB := Lib.hid hB14
      clear hB14 hB1 hB2 hB3 hB4
      go_wp2_with fail
      refine (sInhabitedTop _ _ ds _ w4 hd4 (by omega)).mono ?_
      rintro e w5 ⟨u', rfl, hB5, hu'⟩
      have hu5 := hu4.keep (Same.of_below hB5 (by omega))
      obtain ⟨Bu', cu', rfl, hlu', hcu'⟩ := hu'.open_
      go_wp2_with fail
      refine (equalInts_same _ _ _ _ _ _ _ w5 hu5 hu').mono ?_
      rintro e w6 ⟨rfl, hB6⟩
      have HR := Lib.hid (HB.out.trans ((hB5.mono (by omega)).trans (hB6.mono (by have := hB5.size; have := HB.out.size; omega))))
      clear hB5 hB6
      go_wp2_with fail
      go_ret
      exact ⟨rfl, HR.out⟩
    · have hn0 : (((inhV ds).length : Int) == 0) = false := by have := inh_some hb; rw [beq_eq_false_iff_ne]; omega
      have HT := Lib.hid hb
      have HB := Lib.hid hB14
      have hzw := hB14.size
      clear hb hB14 hB1 hB2 hB3 hB4 hu'
      go_wp2_with fail
      go_loopw [5] (fun i wr => ∃ k : Nat, k ≤ ds.length ∧ i = .int .i64 k ∧ Below w4.heap.size w4 wr) (fun i _ => ds.length - (intOf i).toNat)
      case atStart => exact ⟨0, by omega, rfl, Below.refl _ _⟩
      case round =>
        obtain ⟨k, hk, rfl, hB⟩ := hrel
        have hzr := hB.size
        by_cases hlt : k < ds.length
        · have hdr := hd4.keep (Same.of_below hB (by omega))
          have hur := hu4.keep (Same.of_below hB (by omega))
          have hdr' := hdr
          obtain ⟨b, o, A', c', rfl, _, hbU, e0, e1, e2, hcs⟩ := hdr.at_ hlt
          have k0 : (0 : Int) ≤ (k : Int) := by omega
          have k1 : (k : Int) < (ds.length : Int) := by omega
          obtain ⟨_, _, ec, hl5, hc5⟩ := hcs.open_
          cases ec
          by_cases g0 : (nthD ds k).cons.length = 0
          · have g1 : ¬ ((0 : Int) < ((nthD ds k).cons.length : Int)) := by omega
            have HB5 := Lib.hid hB
            clear hB g0
            go_wp2_with fail
            go_roundw
            case rel => exact ⟨k + 1, by omega, by go_num, HB5.out⟩
            case measure => simp [intOf]; omega
          · have g1 : (0 : Int) < ((nthD ds k).cons.length : Int) := by omega
            by_cases g3 : (nthD ds k).cons.length < 3
            · have g2 : ((nthD ds k).cons.length : Int) < 3 := by omega
              obtain ⟨_, _, Vd, hv, hrw, hvc⟩ := hdr'
              injection hv with hv1 hv2 hv3
              subst hv1 hv3
              obtain ⟨_, _, Vc, hw, hrc, hcc2⟩ := hcs
              injection hw with hw1 hw2 hw3
              subst hw1 hw3
              obtain ⟨i0, hi, hz0, hz1', hz2'⟩ := info_parts infoDecl
              obtain ⟨j0, hj, hy0, hy1, hy2⟩ := info_parts infoCon
              have hown := World.ownsRow_lit (base := wr.heap.size) (e := 30) (size := 3) wr #[] 0 (Nat.le_refl _) (by simp [maxLen]) rfl
              have hr3 := hrw.keep (Same.of_below ((Below.refl wr.heap.size wr).alloc (Nat.le_refl _) (.cells #[] 30)) (by omega))
              go_wp2_with (at_builtin; refine wpList_append_row rfl (.tmp 48) (.tmp 49) 23 rfl wr.heap.size 30 i0 (.agg #[.int .i64 0, .int .i64 0, .slice none 0 0]) 3 40 Try.underlying23 hi hz0 hz1' hz2' rfl (by decide) _ _ _ rfl hown _ _ _ _ _ _ rfl hr3 ?c2 ?c3 ?c4 ?c5 ?_)
              case c2 => exact fun i j hi' _ => decCell_one (hvc i hi') _ j
              case c3 => unfold maxLen; omega
              case c4 => omega
              intro u' W4 hown4 hg4
              have hBw4 : Below wr.heap.size wr W4 := Below.own ((Below.refl wr.heap.size wr).alloc (Nat.le_refl _) _) hown hg4 (Nat.le_refl _) (by simp)
              have hzw4 := hBw4.size
              obtain ⟨r, cr, rfl, hrl, hrm, st⟩ := own_s4 (w0 := wr) (V := Vd) (by simpa using hown4) (by omega) (fun i hi' => (hvc i hi').keep (Same.of_below hBw4 (by omega))) (by omega) (by omega)
              clear hr3 hown hg4 hown4
              have hownc := World.ownsRow_lit (base := W4.heap.size) (e := 32) (size := 1) W4 #[] 0 (Nat.le_refl _) (by simp [maxLen]) rfl
              have hrc4 := hrc.keep (Same.of_below (hBw4.alloc (by omega) (.cells #[] 32)) (by omega))
              have E2 : ∀ O, (W4.alloc O).cell? ⟨b, o + k * 3 + 2, none⟩ = some (.slice A' (nthD ds k).cons.length c') := fun O => ((hBw4.alloc (by omega) O).cell (by show b < _; omega)).trans e2
              have HB5 := Lib.hid hB
              have HST := Lib.hid st
              have HW4 := Lib.hid hBw4
              clear hB g0 st hBw4
              go_wp2_with (at_builtin; refine wpList_append_row rfl (.tmp 53) (.tmp 58) 28 rfl W4.heap.size 32 j0 (.agg #[.slice none 0 0]) 1 24 Try.underlying28 hj hy0 hy1 hy2 rfl (by decide) _ _ _ rfl hownc _ _ _ _ _ _ rfl hrc4 ?d2 ?d3 ?d4 ?d5 ?_)
              case d2 => exact fun i hi' => by obtain ⟨_, _, e, _⟩ := (hcc2 i hi').open_; rw [e]; rfl
              case d3 => unfold maxLen; omega
              case d4 => omega
              intro uc W5 hown5 hg5
              have hB45 : Below W4.heap.size W4 W5 := Below.own ((Below.refl W4.heap.size W4).alloc (Nat.le_refl _) _) hownc hg5 (Nat.le_refl _) (by simp)
              have hz45 := hB45.size
              have HO5 := Lib.hid hown5
              have HB45 := Lib.hid hB45
              clear hrc4 hownc hg5 hown5 hB45 E2
              go_wp2_with (at_builtin; refine wpList_append_own_at _ rfl (.tmp 59) (.tmp 61) 28 rfl W4.heap.size 32 j0 (.agg #[.slice none 0 0]) 1 24 Try.underlying28 hj hy0 hy1 hy2 rfl (by decide) _ _ _ rfl (HO5.out.alloc _) ⟨W5.heap.size, 0, none⟩ 1 1 [.slice none 0 0] rfl rfl ?f1 ?f2 ?f3 ?f4 ?f5 ?_)
              case f1 => exact cell_one_new _ _ _
              case f2 => intro u hu; simp at hu; subst hu; rfl
              case f3 => unfold maxLen; omega
              case f4 => omega
              case f5 => simp; omega
              intro v6 W6 hown6 hg6 _ _
              obtain ⟨g6, cap6, rfl⟩ : ∃ g c, v6 = .slice (some ⟨g, 0, none⟩) ((nthD ds k).cons.length + 1) c := by
                rcases hown6.2 with ⟨_, h0⟩ | ⟨g, c, _, e, _⟩
                · omega
                · exact ⟨g, c, e⟩
              have hB46 : Below W4.heap.size W4 W6 := Below.own (HB45.out.alloc (by omega) _) (HO5.out.alloc _) hg6 (Nat.le_refl _) (by simp; omega)
              have hz46 := hB46.size
              have st6 := HST.out.below hB46
              have hrN := st6.hN
              have hrlt := HST.out.hr
              obtain ⟨E0, F0⟩ := st6.cells hlt (j := 0) (by omega)
              obtain ⟨E1, F1⟩ := st6.cells hlt (j := 1) (by omega)
              obtain ⟨E2, F2⟩ := st6.cells hlt (j := 2) (by omega)
              rw [Nat.add_zero] at E0 F0
              have hd7 := st6.done hlt ⟨0, 0, (nthD ds k).cons ++ [[]]⟩ (.slice (some ⟨g6, 0, none⟩) ((nthD ds k).cons.length + 1) cap6) (fun w' hs hzz => by
                rw [← hzz]
                refine cons_pushed (base := W4.heap.size) (U := w1.heap.size) (e := 32) (V := Vc) ⟨hown6.1, ?_⟩ (by omega) (by omega) (fun i hi' => ?_)
                · rcases hown6.2 with h0 | ⟨g, cap, cur, e, hb, hh, rest⟩
                  · exact .inl h0
                  · exact .inr ⟨g, cap, cur, e, hb, by rw [hs g (by omega)]; exact hh, rest⟩
                · refine (hcc2 i hi').keep fun x _ hx => ?_
                  rw [hs x (by omega), hB46.block x (by omega), HW4.out.block x (by omega)]) rfl
              have HD := Lib.hid hd7
              have HB7 := Lib.hid (HB5.out.trans (((((HW4.out.trans (hB46.mono (by omega))).setCell (p := ⟨r, k * 3, none⟩) hrN (.int .i64 0)).setCell (p := ⟨r, k * 3 + 1, none⟩) hrN (.int .i64 0)).setCell (p := ⟨r, k * 3 + 2, none⟩) hrN (.slice (some ⟨g6, 0, none⟩) ((nthD ds k).cons.length + 1) cap6)).mono (by omega)))
              have hzw := HB7.out.size
              have hub : w2.heap.size ≤ w4.heap.size := by omega
              have HU := Lib.hid (hu4.keep (Same.of_below HB7.out hub))
              obtain ⟨kc, hkc⟩ : ∃ x, x = (nthD ds k).cons.length := ⟨_, rfl⟩
              have HT2 := Lib.hid (And.intro (more_has HT.out hlt (by omega) g3) (more_within HT.out hlt (by omega) g3))
              have s1 : IntKind.i64.wrap ((k : Int) + 1) = (k : Int) + 1 := IntWalk.i64_in _ (by omega)
              clear hd7 hg6 hown6 st6 hkc kc hB46 hur hdr
              go_wp2_with fail
              refine (inhabitedOwn _ _ (moreD ds k) _ _ HD.out (by simp)).mono ?_
              rintro e W8 ⟨ul, rfl, hB8, hO8⟩
              have hul := hO8.ints
              have hu8 := HU.out.keep (Same.of_below hB8 (by omega))
              obtain ⟨Bl, cl, rfl, hll, hcl⟩ := hul.open_
              have HB8 := Lib.hid (HB7.out.trans (hB8.mono hzw))
              clear hB8 hO8
              go_wp2_with fail
              refine (isIn_is true _ _ _ _ _ W8 hul HT2.out.1).mono ?_
              rintro e W9 ⟨rfl, rfl⟩
              go_wp2_with fail
              refine (withinL_is true _ _ _ _ _ _ _ _ W8 hu8 hul HT2.out.2).mono ?_
              rintro e W9 ⟨rfl, rfl⟩
              go_wp2_with fail
              go_roundw
              case rel => exact ⟨k + 1, by omega, by go_num, HB8.out⟩
              case measure => simp [intOf]; omega
            · have g2 : ¬ (((nthD ds k).cons.length : Int) < 3) := by omega
              have HB5 := Lib.hid hB
              clear hB g0
              go_wp2_with fail
              go_roundw
              case rel => exact ⟨k + 1, by omega, by go_num, HB5.out⟩
              case measure => simp [intOf]; omega
        · have k2 : ¬ ((k : Int) < (ds.length : Int)) := by omega
          have HR := Lib.hid (HB.out.trans (hB.mono (by omega)))
          clear hB
          go_wp2_with fail
          go_ret
          exact ⟨rfl, HR.out⟩
end Go.Proofs.Ytgbeongiejppnaa
