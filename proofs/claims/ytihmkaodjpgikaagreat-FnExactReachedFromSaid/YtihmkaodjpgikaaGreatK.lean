/- Contracts of chapter 1: the constructors of a type. -/
import Derived.Test.YtihmkaodjpgikaaGreatG
namespace Go.Proofs.YtihmkaodjpgikaaGreat
open Go.RowKit
theorem isData_is (b : Bool) (t : Int) (L U : Nat) (ds : List Dec) (v : Value) (w : World) (hv : Decs w L U v ds) (h : isDat ds t = b) :
    Calls Tryz.prog 92 #[v, .int .i64 t] w fun e w' => e = .returned (.bool b) ∧ w = w' := by
  subst h; exact isData_any t L U ds v w hv
theorem consAt_take {ds : List Dec} {k i : Nat} (hi : i < (nthD ds k).cons.length) : (consAt ds k).take (i + 1) = (consAt ds k).take i ++ [(cnt ds k : Int) + (i : Int)] := by
  rw [List.take_succ_eq_append_getElem (by rw [length_consAt]; exact hi)]
  simp [consAt]
theorem consOfV_no {ds : List Dec} {t : Int} (h : typesOk ds = false ∨ isDat ds t = false) : consOfV ds t = [] := by
  unfold consOfV
  by_cases hc : typesOk ds = true ∧ 1 ≤ t ∧ t ≤ ds.length
  · rw [if_pos hc]
    rcases h with h | h
    · rw [hc.1] at h; cases h
    · unfold isDat isTy at h
      rw [decide_eq_true (show 0 < t by omega), decide_eq_true (show 0 ≤ t by omega), decide_eq_true hc.2.2] at h
      simp only [Bool.true_and, decide_eq_false_iff_not] at h
      exact List.eq_nil_of_length_eq_zero (by rw [length_consAt]; omega)
  · rw [if_neg hc]
set_option maxHeartbeats 800000 in
theorem sConsOf_any (t : Int) (L U : Nat) (ds : List Dec) (v : Value) (w : World) (hv : Decs w L U v ds) (hU : U ≤ w.heap.size) (hb : typesOk ds = true) :
    Calls Tryz.prog 74 #[v, .int .i64 t] w fun e w' => ∃ u, e = .returned u ∧ Below w.heap.size w w' ∧ Ints w' w.heap.size w'.heap.size u (consOfV ds t) := by
  obtain ⟨B, d, rfl, hl, hd⟩ := hv.open_
  have h12 := cnt_twelve hb
  have c6 := big_of_twelve h12
  by_cases ht : 1 ≤ t ∧ t ≤ ds.length
  · obtain ⟨k, rfl⟩ : ∃ k : Nat, t = (k : Int) + 1 := ⟨(t - 1).toNat, by omega⟩
    have hk : k < ds.length := by omega
    have hV : consOfV ds ((k : Int) + 1) = consAt ds k := by
      unfold consOfV; rw [if_pos ⟨hb, by omega, by omega⟩, show ((k : Int) + 1 - 1).toNat = k by omega]
    rw [hV]
    obtain ⟨i0, hi, hz0, hz1, hz2⟩ := info_parts infoInt
    have c1 := cnt_mono ds (i := k) (j := ds.length) (by omega)
    have c2 := cnt_mono ds (i := k + 1) (j := ds.length) (by omega)
    have c3 := cnt_succ hk
    have c4 : (nthD ds k).cons.length ≤ 12 := by omega
    have c5 : cnt ds k ≤ 12 := by omega
    have hkl : k ≤ ds.length := by omega
    clear c1 c2 c3 hV hb
    go_enter Tryz.func74, Tryz.ntmps74
    go_wp2_with (go_at_call 16; refine (inRange_any _ _ _ _).mono ?_; rintro e w' ⟨rfl, rfl⟩)
    have hn0 := World.ownsRow_lit (base := w.heap.size) (e := 3) (size := 1) w #[] 0 (Nat.le_refl _) (by simp [maxLen]) rfl
    go_loopw [5, 6] (fun u i wr => ∃ j : Nat, j ≤ (nthD ds k).cons.length ∧ i = .int .i64 j ∧ wr.ownsRow w.heap.size 3 1 u j (((consAt ds k).map (Value.int .i64)).take j) ∧ Below w.heap.size w wr) (fun _ i _ => (nthD ds k).cons.length - (intOf i).toNat)
    case atStart => exact ⟨0, by omega, rfl, hn0, (Below.refl _ _).alloc (Nat.le_refl _) _⟩
    case round =>
      clear hn0
      obtain ⟨j, hj, rfl, hown, hBr⟩ := hrel
      have hz := hBr.size
      have hvr := hv.keep (Same.of_below hBr hU)
      obtain ⟨b, o, A', c', rfl, _, _, e0, e1, e2, _⟩ := hvr.at_ hk
      by_cases hlt : j < (nthD ds k).cons.length
      · go_wp2_with (first | (go_at_call 72; refine (sFirstCon_any _ _ _ _ _ _ hvr hkl c6).mono ?_; rintro e w' ⟨rfl, rfl⟩) | (at_builtin; refine wpList_append_own _ rfl _ _ 27 rfl w.heap.size 3 i0 (.int .i64 0) 1 8 Tryz.underlying27 hi hz0 hz1 hz2 rfl (by decide) _ _ _ rfl (hown.alloc _) ⟨wr.heap.size, 0, none⟩ 1 1 [.int .i64 ((cnt ds k : Int) + (j : Int))] rfl rfl ?c1 ?c2 ?c3 ?c4 ?c5 ?_))
        case c1 => exact cell_one_new _ _ _
        case c2 => simp [Value.oneCell']
        case c3 => unfold maxLen; omega
        case c4 => omega
        case c5 => simp; omega
        intro u' w3 hown1 hg _
        have hB1 : Below w.heap.size w w3 := Below.own (hBr.alloc hz _) (hown.alloc _) hg (Nat.le_refl _) (by simp; omega)
        have hown2 : w3.ownsRow w.heap.size 3 1 u' (j + 1) (((consAt ds k).map (Value.int .i64)).take (j + 1)) := by
          rw [← List.map_take, consAt_take hlt, List.map_append, List.map_take]; exact hown1
        clear hown hown1 hg hvr
        go_wp2_with fail
        go_roundw
        case rel => exact ⟨j + 1, by omega, by go_num, hown2, hB1⟩
        case measure => simp [intOf]; omega
      · go_wp2_with fail
        go_ret
        rw [List.take_of_length_le (by simp [length_consAt]; omega)] at hown
        exact ⟨_, rfl, hBr, ints_of_own hown⟩
  · rw [show consOfV ds t = [] by unfold consOfV; rw [if_neg (fun h => ht h.2)]]
    go_enter Tryz.func74, Tryz.ntmps74
    go_wp2_with (go_at_call 16; refine (inRange_any _ _ _ _).mono ?_; rintro e w' ⟨rfl, rfl⟩)
    · go_ret
      exact ⟨_, rfl, (Below.refl _ _).alloc (Nat.le_refl _) _, ints_of_own (World.ownsRow_lit (base := w.heap.size) (e := 3) (size := 1) w #[] 0 (Nat.le_refl _) (by simp [maxLen]) rfl)⟩
    · exfalso
      have h := ‹(!decide (1 ≤ t)) = false ∧ (!decide (t ≤ (ds.length : Int))) = false›
      simp at h
      exact ht h
theorem sConsOf_is (xs : List Int) (t : Int) (L U : Nat) (ds : List Dec) (v : Value) (w : World) (hv : Decs w L U v ds) (hU : U ≤ w.heap.size) (hb : typesOk ds = true) (h : consOfV ds t = xs) :
    Calls Tryz.prog 74 #[v, .int .i64 t] w fun e w' => ∃ u, e = .returned u ∧ Below w.heap.size w w' ∧ Ints w' w.heap.size w'.heap.size u xs := by
  subst h; exact sConsOf_any t L U ds v w hv hU hb
end Go.Proofs.YtihmkaodjpgikaaGreat
