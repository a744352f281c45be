/- Contracts of chapter 1: inhabited types from outside, as the model finds them; the walk of the exact law. -/
import Derived.Test.YtgbeongiejppnaaJ2
import Derived.Test.YtgbeongiejppnaaX8
namespace Go.Proofs.Ytgbeongiejppnaa
open Go.RowKit Go.BigFrame
theorem anyFull_is (b : Bool) (L U L' U' : Nat) (d : Dec) (S : List Int) (v v' : Value) (w : World) (hv : Cons w L U v d.cons) (hU : U ≤ w.heap.size) (hv' : Ints w L' U' v' S) (hU' : U' ≤ w.heap.size) (h : fullB d S = b) :
    Calls Try.prog 50 #[.agg #[.int .i64 d.frm, .int .i64 d.to, v], v'] w fun e w' => e = .returned (.bool b) ∧ Below w.heap.size w w' := by
  subst h; exact anyFull_any L U L' U' d.frm d.to d.cons S v v' w hv hU hv' hU'
set_option maxHeartbeats 1600000 in
theorem sInhabitedTop (L U : Nat) (ds : List Dec) (v : Value) (w : World) (hv : Decs w L U v ds) (hU : U ≤ w.heap.size) :
    Calls Try.prog 18 #[v] w fun e w' => ∃ u, e = .returned u ∧ Below w.heap.size w w' ∧ Ints w' w.heap.size w'.heap.size u (inhV ds) := by
  obtain ⟨B, d, rfl, hl, hd⟩ := hv.open_
  rcases hb : typesOk ds with _ | _
  · rw [show inhV ds = [] by unfold inhV; rw [hb]; rfl]
    have H := Lib.hid hb
    clear hb
    go_enter Try.func18, Try.ntmps18
    go_wp2_with (go_at_call 49; refine (sValidTypes_is _ _ _ _ _ _ hv hU H.out).mono ?_; rintro e w1 ⟨rfl, hB⟩)
    go_ret
    exact ⟨_, rfl, hB, (Own.nil _ _).ints⟩
  · rw [show inhV ds = iterG ds ds.length by unfold inhV; rw [hb, iterG_eq]; rfl]
    have H := Lib.hid hb
    have h4 := typesOk_four hb
    clear hb
    go_enter Try.func18, Try.ntmps18
    go_wp2_with fail
    refine (sValidTypes_is _ _ _ _ _ _ hv hU H.out).mono ?_
    rintro e w1 ⟨rfl, hB1⟩
    obtain ⟨W0, hW0⟩ : ∃ W0, W0 = w1.alloc (.cells #[.int .i64 0] 3) := ⟨_, rfl⟩
    have z1 := hB1.size
    have hB0 : Below w.heap.size w W0 := by rw [hW0]; exact hB1.alloc z1 _
    have ho0 : Own W0 w.heap.size (.slice (some ⟨w1.heap.size, 0, none⟩) 1 1) (iterG ds 0) := by
      rw [hW0]
      exact Own.of (n := 1) (World.ownsRow_lit (base := w.heap.size) (e := 3) (size := 1) w1 #[.int .i64 0] 1 z1 (by simp [maxLen]) rfl)
    clear hB1
    go_wp2_with fail
    rw [← hW0]
    clear hW0
    go_loopw [3, 4] (fun u i wr => ∃ r : Nat, r ≤ ds.length ∧ i = .int .i64 r ∧ Own wr w.heap.size u (iterG ds r) ∧ Below w.heap.size w wr) (fun _ i _ => ds.length - (intOf i).toNat)
    case atStart => exact ⟨0, by omega, rfl, ho0, hB0⟩
    case round =>
      obtain ⟨r, hr, rfl, hown, hB⟩ := hrel
      by_cases hlt : r < ds.length
      · have len := iterG_length ds r
        have lm : r * ds.length ≤ 4 * 4 := Nat.mul_le_mul (by omega) h4
        have asc := iterG_asc ds r
        obtain ⟨S, hS⟩ : ∃ S, iterG ds r = S := ⟨_, rfl⟩
        have hnext : iterG ds (r + 1) = stepG ds S ds.length := by rw [← hS]; rfl
        rw [hS] at len asc hown
        have HN := Lib.hid hnext
        have HL := Lib.hid (And.intro asc (show S.length ≤ 17 by omega))
        clear len lm asc hS hnext ho0
        go_wp2_with fail
        go_loopw [3, 5] (fun u i wq => ∃ k : Nat, k ≤ ds.length ∧ i = .int .i64 k ∧ Own wq w.heap.size u (stepG ds S k) ∧ Below w.heap.size w wq) (fun _ i _ => ds.length - (intOf i).toNat)
        case atStart => exact ⟨0, by omega, rfl, hown, hB⟩
        case round =>
          obtain ⟨k, hk, rfl, hownq, hBq⟩ := hrel
          have hzq := hBq.size
          by_cases hkt : k < ds.length
          · obtain ⟨b, o, A1, c1, rfl, _, _, hc0, hc1, hc2, hu⟩ := (hv.keep (Same.of_below hBq hU)).at_ hkt
            obtain ⟨X, xc, rfl, _, _⟩ := hownq.ints.open_
            have asc := stepG_asc (ds := ds) (HL.out.1) k
            have len := stepG_length ds S k
            have len2 := HL.out.2
            have hn1 : stepG ds S (k + 1) = cond (fullB (nthD ds k) (stepG ds S k)) (ins ((k : Int) + 1) (stepG ds S k)) (stepG ds S k) := rfl
            obtain ⟨T, hT⟩ : ∃ T, stepG ds S k = T := ⟨_, rfl⟩
            rw [hT] at hn1 hownq asc len ⊢
            have HO := Lib.hid (And.intro hownq (And.intro hBq hu))
            have AL := Lib.hid (And.intro asc len)
            clear hownq hBq hu asc len hB hown
            rcases hf : fullB (nthD ds k) T with _ | _
            · rw [hf, cond_false] at hn1
              have HF := Lib.hid hf
              have HX := Lib.hid hn1
              clear hf hn1
              go_wp2_with fail
              refine (anyFull_is _ _ _ _ _ _ _ _ _ wr HO.out.2.2 (by omega) HO.out.1.ints (Nat.le_refl _) HF.out).mono ?_
              rintro e w2 ⟨rfl, hB2⟩
              have HE := Lib.hid (And.intro (HO.out.1.keep (Same.of_below hB2 (Nat.le_refl _))) (HO.out.2.1.trans (hB2.mono hzq)))
              clear hB2
              go_wp2_with fail
              go_roundw
              case rel => exact ⟨k + 1, by omega, by go_num, by rw [HX.out]; exact HE.out.1, HE.out.2⟩
              case measure => simp [intOf]; omega
            · rw [hf, cond_true] at hn1
              have HF := Lib.hid hf
              have HX := Lib.hid hn1
              clear hf hn1
              go_wp2_with fail
              refine (anyFull_is _ _ _ _ _ _ _ _ _ wr HO.out.2.2 (by omega) HO.out.1.ints (Nat.le_refl _) HF.out).mono ?_
              rintro e w2 ⟨rfl, hB2⟩
              have HE := Lib.hid (And.intro (HO.out.1.keep (Same.of_below hB2 (Nat.le_refl _))) (HO.out.2.1.trans (hB2.mono hzq)))
              clear hB2
              go_wp2_with fail
              refine (insert_any _ _ _ _ _ w2 HE.out.1.ints (Nat.le_refl _) AL.out.1 (by have := AL.out.2; omega)).mono ?_
              rintro e w3 ⟨u3, rfl, hB3, ho3⟩
              have HG := Lib.hid (And.intro (ho3.wide (base' := w.heap.size) HE.out.2.size) (HE.out.2.trans (hB3.mono HE.out.2.size)))
              clear hB3 ho3
              go_wp2_with fail
              go_roundw
              case rel => exact ⟨k + 1, by omega, by go_num, by rw [HX.out]; exact HG.out.1, HG.out.2⟩
              case measure => simp [intOf]; omega
          · obtain rfl : k = ds.length := by omega
            have HO := Lib.hid (And.intro hownq hBq)
            clear hownq hBq hB hown
            go_wp2_with fail
            go_roundw
            case rel => exact ⟨r + 1, by omega, by go_num, by rw [HN.out]; exact HO.out.1, HO.out.2⟩
            case measure => simp [intOf]; omega
      · obtain rfl : r = ds.length := by omega
        go_wp2_with fail
        go_ret
        exact ⟨_, rfl, hB, hown.ints⟩
end Go.Proofs.Ytgbeongiejppnaa
