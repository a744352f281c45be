/- Contracts of chapter 1: the fields of a constructor. -/
import Derived.Test.YtmahamlfdegkkaaK
namespace Go.Proofs.Ytmahamlfdegkkaa
open Go.RowKit
theorem flds_three {ds : List Dec} {c : Int} (h : typesOk ds = true) (hc : 0 ≤ conTy ds c) : (flds ds c).length ≤ 3 := by
  rcases conTy_cases ds c with e | ⟨k, hk, e, h1, h2⟩
  · omega
  · rw [flds_at e]
    exact con_three h hk (by omega)
theorem conTypeTop_is (x c : Int) (L U : Nat) (ds : List Dec) (v : Value) (w : World) (hv : Decs w L U v ds) (hU : U ≤ w.heap.size) (h : conTypeV ds c = x) :
    Calls Try.prog 22 #[v, .int .i64 c] w fun e w' => e = .returned (.int .i64 x) ∧ Below w.heap.size w w' := by
  subst h; exact conTypeTop c L U ds v w hv hU
set_option maxHeartbeats 400000 in
theorem conFieldsOwn (c : Int) (L U : Nat) (ds : List Dec) (v : Value) (w : World) (hv : Decs w L U v ds) (hU : U ≤ w.heap.size) :
    Calls Try.prog 19 #[v, .int .i64 c] w fun e w' => ∃ u, e = .returned u ∧ Below w.heap.size w w' ∧ Own w' w.heap.size u (conFieldsV ds c) := by
  by_cases hc : typesOk ds = true ∧ 0 ≤ conTy ds c
  · have hV : conFieldsV ds c = flds ds c := by unfold conFieldsV; rw [if_pos hc]
    have hT : conTypeV ds c = conTy ds c := by unfold conTypeV; rw [if_pos hc.1]
    have h3 := flds_three hc.1 hc.2
    have h12 := big_of_twelve (cnt_twelve hc.1)
    have hc2 := hc.2
    rw [hV]
    obtain ⟨x, hx⟩ : ∃ x, conTy ds c = x := ⟨_, rfl⟩
    rw [hx] at hT
    have HT := Lib.hid hT
    have hx0 : 0 ≤ x := by omega
    obtain ⟨B, d, rfl, hl, hd⟩ := hv.open_
    clear hT hc hV hx
    go_enter Try.func19, Try.ntmps19
    go_wp2_with fail
    refine (conTypeTop_is _ _ _ _ _ _ w hv hU HT.out).mono ?_
    rintro e w1 ⟨rfl, hB1⟩
    have hv1 := hv.keep (Same.of_below hB1 hU)
    have hU1 := Nat.le_trans hU hB1.size
    go_wp2_with fail
    refine (fieldsOfCon_any _ _ _ _ _ w1 hv1 hU1 h12 hc2).mono ?_
    rintro e w2 ⟨u, rfl, hB2, hu⟩
    have hU2 := Nat.le_trans hU1 hB2.size
    have HB := Lib.hid (hB1.trans (hB2.mono hB1.size))
    clear hv1 hB1 hB2
    obtain ⟨A, k, rfl, _, _⟩ := hu.open_
    go_wp2_with fail
    refine (copyInts_own _ _ _ _ w2 hu hU2 (by omega)).mono ?_
    rintro e w3 ⟨u3, rfl, hB3, ho⟩
    have HF := Lib.hid (show Below w.heap.size w w3 ∧ Own w3 w.heap.size u3 (flds ds c) from ⟨HB.out.trans (hB3.mono HB.out.size), ho.wide HB.out.size⟩)
    clear hu ho hB3
    go_wp2_with fail
    go_ret
    exact ⟨_, rfl, HF.out.1, HF.out.2⟩
  · have hV : conFieldsV ds c = [] := by unfold conFieldsV; rw [if_neg hc]
    have hT : conTypeV ds c = -1 := by
      unfold conTypeV
      by_cases h1 : typesOk ds = true
      · rw [if_pos h1]
        rcases conTy_cases ds c with e | ⟨k, _, e, _⟩
        · exact e
        · exact absurd ⟨h1, by omega⟩ hc
      · rw [if_neg h1]
    rw [hV]
    have HT := Lib.hid hT
    obtain ⟨B, d, rfl, hl, hd⟩ := hv.open_
    clear hT hc hV
    go_enter Try.func19, Try.ntmps19
    go_wp2_with fail
    refine (conTypeTop_is _ _ _ _ _ _ w hv hU HT.out).mono ?_
    rintro e w1 ⟨rfl, hB1⟩
    go_wp2_with fail
    go_ret
    exact ⟨_, rfl, hB1, Own.nil _ _⟩
theorem conType_is (x c : Int) (L U : Nat) (ds : List Dec) (v : Value) (w : World) (hv : Decs w L U v ds) (hb : cnt ds ds.length ≤ 4611686018427387904) (h : conTy ds c = x) :
    Calls Try.prog 66 #[v, .int .i64 c] w fun e w' => e = .returned (.int .i64 x) ∧ w = w' := by
  subst h; exact conType_any c L U ds v w hv hb
set_option maxHeartbeats 400000 in
theorem sConFieldsTop (c : Int) (L U : Nat) (ds : List Dec) (v : Value) (w : World) (hv : Decs w L U v ds) (hU : U ≤ w.heap.size) :
    Calls Try.prog 21 #[v, .int .i64 c] w fun e w' => ∃ u, e = .returned u ∧ Below w.heap.size w w' ∧ Ints w' w.heap.size w'.heap.size u (conFieldsV ds c) := by
  obtain ⟨B, d, rfl, hl, hd⟩ := hv.open_
  rcases hb : typesOk ds with _ | _
  · rw [show conFieldsV ds c = [] by unfold conFieldsV; rw [if_neg (by simp [hb])]]
    have H := Lib.hid hb
    clear hb
    go_enter Try.func21, Try.ntmps21
    go_wp2_with (go_at_call 46; refine (sValidTypes_is _ _ _ _ _ _ hv hU H.out).mono ?_; rintro e w1 ⟨rfl, hB⟩)
    go_ret
    exact ⟨_, rfl, hB, (Own.nil _ _).ints⟩
  · have H := Lib.hid hb
    have h12 := big_of_twelve (cnt_twelve hb)
    have mid : ∀ w1, Below w.heap.size w w1 → Calls Try.prog 51 #[.slice B ds.length d, .int .i64 c] w1 fun e w' => ∃ u, e = .returned u ∧ Below w1.heap.size w1 w' ∧ ∃ L' U', U' ≤ w'.heap.size ∧ Ints w' L' U' u (conFieldsV ds c) ∧ (conFieldsV ds c).length ≤ 3 := by
      intro w1 hB
      have hv1 := hv.keep (Same.of_below hB hU)
      have hU1 := Nat.le_trans hU hB.size
      by_cases hc : 0 ≤ conTy ds c
      · have hV : conFieldsV ds c = flds ds c := by unfold conFieldsV; rw [if_pos ⟨hb, hc⟩]
        rw [hV]
        have h3 := flds_three hb hc
        refine (conFields_any c L U ds _ w1 hv1 h12 hc).mono ?_
        rintro e w2 ⟨u, rfl, hB2, hu⟩
        exact ⟨u, rfl, hB2, L, U, Nat.le_trans hU1 hB2.size, hu, h3⟩
      · have hV : conFieldsV ds c = [] := by unfold conFieldsV; rw [if_neg (fun h => hc h.2)]
        have hT : conTy ds c = -1 := by
          rcases conTy_cases ds c with e | ⟨k, _, e, _⟩
          · exact e
          · omega
        rw [hV]
        have HT := Lib.hid hT
        clear hT hV hc hb
        go_enter Try.func51, Try.ntmps51
        go_wp2_with fail
        refine (conType_is _ _ _ _ _ _ w1 hv1 h12 HT.out).mono ?_
        rintro e w2 ⟨rfl, rfl⟩
        go_wp2_with fail
        go_ret
        exact ⟨_, rfl, (Below.refl _ _).alloc (Nat.le_refl _) _, 0, _, Nat.le_refl _, (ints_of_own (xs := []) (World.ownsRow_lit (base := 0) (e := 3) (size := 1) w1 #[] 0 (Nat.zero_le _) (by simp [maxLen]) rfl)), by simp⟩
    clear hb
    have MID := Lib.hid mid
    clear mid
    go_enter Try.func21, Try.ntmps21
    go_wp2_with fail
    refine (sValidTypes_is _ _ _ _ _ _ hv hU H.out).mono ?_
    rintro e w1 ⟨rfl, hB⟩
    go_wp2_with fail
    refine (MID.out w1 hB).mono ?_
    rintro e w2 ⟨u, rfl, hB2, L', U', hU', hu, h3⟩
    have HB := Lib.hid (hB.trans (hB2.mono hB.size))
    clear hB hB2
    obtain ⟨A, k, rfl, _, _⟩ := hu.open_
    go_wp2_with fail
    refine (sCopyInts_any _ _ _ _ w2 hu hU' (by omega)).mono ?_
    rintro e w3 ⟨u3, rfl, hB3, hi3⟩
    have HF := Lib.hid (show Below w.heap.size w w3 ∧ Ints w3 w.heap.size w3.heap.size u3 (conFieldsV ds c) from ⟨HB.out.trans (hB3.mono HB.out.size), hi3.wide HB.out.size (Nat.le_refl _)⟩)
    clear hu hi3 hB3
    go_wp2_with fail
    go_ret
    exact ⟨_, rfl, HF.out.1, HF.out.2⟩
end Go.Proofs.Ytmahamlfdegkkaa
