/- The walk of the law FnArrowOfAll. -/
import Derived.Test.YtbkbmbjcgenanaaL
namespace Go.Proofs.Ytbkbmbjcgenanaa
open Go.RowKit Go.BigFrame
theorem arrow_self {ds : List Dec} (h : typesOk ds = true) {k : Nat} (hk : k < ds.length) (hc : (nthD ds k).cons.length = 0) : arrowV ds (nthD ds k).frm (nthD ds k).to = (k : Int) + 1 := by
  unfold arrowV
  rw [if_pos h]
  have hd := typesOk_at h hk
  unfold decOk at hd
  rw [if_neg (by omega)] at hd
  simp only [Bool.and_eq_true, decide_eq_true_eq] at hd
  refine seek_hit (k := k) (fun j hj => ?_) hk ?_
  · rcases hb : isArr (nthD ds k).frm (nthD ds k).to (nthD ds j) with _ | _
    · rfl
    · exfalso
      rcases seek_cases k fun j => isArr (nthD ds k).frm (nthD ds k).to (nthD ds j) with hs | ⟨i, _, hs, _⟩
      · have : (List.range k).find? (fun j => isArr (nthD ds k).frm (nthD ds k).to (nthD ds j)) = none := by
          unfold seek at hs
          split at hs
          · rename_i x _; omega
          · assumption
        rw [List.find?_eq_none] at this
        exact this j (List.mem_range.2 hj) hb
      · omega
  · simp [isArr, hc]
set_option maxHeartbeats 800000 in
theorem fnArrowOfAll_walk (A : Option Addr) (n c : Nat) (w : World) (h : Code_ w A n c) :
    Calls Try.prog 11 #[.slice A n c] w fun e w' => e = .returned (.bool true) ∧ Below w.heap.size w w' := by
  by_cases hbig : 1048576 < n
  · go_enter Try.func11, Try.ntmps11
    go_wp2_with fail
    go_ret
    exact ⟨rfl, Below.refl _ _⟩
  · have Hc := Lib.hid h
    clear h
    go_enter Try.func11, Try.ntmps11
    go_wp2_with fail
    refine (drawValidTypes A n c w Hc.out).mono ?_
    rintro e w1 ⟨v, ds, rfl, hl, hd, hB1⟩
    obtain ⟨B, cc, rfl, hlc, hcc⟩ := hd.open_
    rcases hb : typesOk ds with _ | _
    · have H := Lib.hid hb
      clear hb
      go_wp2_with (first | (go_at_call 22; refine (validTypes_is _ _ _ _ _ _ hd (Nat.le_refl _) H.out).mono ?_; rintro e w2 ⟨rfl, hB2⟩; have hd2 := hd.keep (Same.of_below hB2 (Nat.le_refl _))) | (go_at_call 23; refine (sValidTypesTop _ _ _ _ _ hd2 hB2.size).mono ?_; rintro e w3 ⟨rfl, hB3⟩; rw [H.out]))
      refine (sValidTypesTop _ _ _ _ w3 (hd2.keep (Same.of_below hB3 hB2.size)) (Nat.le_trans hB2.size hB3.size)).mono ?_
      rintro e w4 ⟨rfl, hB4⟩
      rw [H.out]
      go_wp2_with fail
      go_ret
      exact ⟨rfl, hB1.trans ((hB2.mono hB1.size).trans ((hB3.mono (Nat.le_trans hB1.size hB2.size)).trans (hB4.mono (Nat.le_trans hB1.size (Nat.le_trans hB2.size hB3.size)))))⟩
    · have H := Lib.hid hb
      clear hb
      go_wp2_with (first | (go_at_call 22; refine (validTypes_is _ _ _ _ _ _ hd (Nat.le_refl _) H.out).mono ?_; rintro e w2 ⟨rfl, hB2⟩; have hd2 := hd.keep (Same.of_below hB2 (Nat.le_refl _))) | (go_at_call 23; refine (sValidTypesTop _ _ _ _ _ hd2 hB2.size).mono ?_; rintro e w3 ⟨rfl, hB3⟩; rw [H.out]))
      have hB3' : Below w.heap.size w w3 := hB1.trans ((hB2.mono hB1.size).trans (hB3.mono (Nat.le_trans hB1.size hB2.size)))
      have hd3 := hd2.keep (Same.of_below hB3 hB2.size)
      have hU3 := Nat.le_trans hB2.size hB3.size
      have hW3 := hB3'.size
      clear hd hd2 hB1 hB2 hB3
      go_loopw [5] (fun i wr => ∃ k : Nat, k ≤ ds.length ∧ i = .int .i64 k ∧ Below w3.heap.size w3 wr) (fun i _ => ds.length - (intOf i).toNat)
      case atStart => exact ⟨0, by omega, rfl, Below.refl _ _⟩
      case round =>
        obtain ⟨k, hk, rfl, hB⟩ := hrel
        have hz := hB.size
        by_cases hlt : k < ds.length
        · have hdr := hd3.keep (Same.of_below hB hU3)
          obtain ⟨b, o, A', c', rfl, _, hbU, e0, e1, e2, _⟩ := hdr.at_ hlt
          have hUr : w1.heap.size ≤ wr.heap.size := by omega
          have hbr : b < wr.heap.size := by omega
          have k0 : (0 : Int) ≤ (k : Int) := by omega
          have k1 : (k : Int) < (ds.length : Int) := by omega
          have s1 : IntKind.i64.wrap ((k : Int) + 1) = (k : Int) + 1 := IntWalk.i64_in _ (by omega)
          by_cases g0 : (nthD ds k).cons.length = 0
          · have g0b : (((nthD ds k).cons.length : Int) == 0) = true := by simp [g0]
            have Hs := Lib.hid (arrow_self H.out hlt g0)
            have Hd := Lib.hid (hdr.keep (same_drew _ _ _))
            clear g0 hdr
            go_wp2_with fail
            go_region_held3 (fun w' => w'.cell? ⟨b, o + k * 3, none⟩ = some (.int .i64 (nthD ds k).frm) ∧ w'.cell? ⟨b, o + k * 3 + 1, none⟩ = some (.int .i64 (nthD ds k).to) ∧ w'.cell? ⟨b, o + k * 3 + 2, none⟩ = some (.slice A' (nthD ds k).cons.length c'))
              (first | go_keep | (exact ⟨(hBx.cell (by simp; omega)).trans (by simp; assumption), (hBx.cell (by simp; omega)).trans (by simp; assumption), (hBx.cell (by simp; omega)).trans (by simp; assumption)⟩))
              (first | (go_at_call 39; refine (arrowTop _ _ _ _ _ _ _ Hd.out (by simp; omega)).mono ?_; rintro e wx ⟨rfl, hBx⟩; rw [Hs.out]))
            go_wp2
            go_roundw
            case rel => exact ⟨k + 1, by omega, by go_num, hB.trans (((Below.refl wr.heap.size wr).drew.trans (hBx.mono (by simp))).mono hz)⟩
            case measure => simp [intOf]; omega
          · have g0b : (((nthD ds k).cons.length : Int) == 0) = false := by simp; exact fun h => g0 (by simp [h])
            clear g0
            go_wp2_with fail
            go_quiet (fail)
            go_wp2_with fail
            go_roundw
            case rel => exact ⟨k + 1, by omega, by go_num, below_drewN hB _⟩
            case measure => simp [intOf]; omega
        · go_wp2_with fail
          go_ret
          exact ⟨rfl, hB3'.trans (hB.mono hW3)⟩
end Go.Proofs.Ytbkbmbjcgenanaa
