/- The draw of declarations and a constructor; the walk of the law FnConTypeOrder. -/
import Derived.Test.YtbkbmbjcgenanaaL
namespace Go.Proofs.Ytbkbmbjcgenanaa
open Go.RowKit Go.BigFrame
def DrewC (w : World) (e : Ending) (w' : World) : Prop := ∃ v ds, ∃ c : Int, e = .returned (.tuple #[v, .int .i64 c]) ∧ ds.length ≤ 6 ∧ -1 ≤ c ∧ c ≤ 12 ∧ Decs w' w.heap.size w'.heap.size v ds ∧ Below w.heap.size w w'
set_option maxHeartbeats 800000 in
theorem drawConType (A : Option Addr) (n c : Nat) (w : World) (h : Code_ w A n c) :
    Calls Try.prog 28 #[.slice A n c] w (DrewC w) := by
  go_enter Try.func28, Try.ntmps28
  go_wp2_with fail
  refine (newReader_any A n c w.heap.size w h.1 h.2.1 h.2.2 (Nat.le_refl _)).mono ?_
  rintro e w1 ⟨g, rfl, hr, hB, hg⟩
  go_wp2_with fail
  refine (anyDecls_any g 0 w1 hr (by omega)).mono ?_
  rintro e w2 ⟨v, ds, rfl, hl, hd, ⟨q, hq, hr2⟩, ho⟩
  obtain ⟨B, cc, rfl, _, _⟩ := hd.open_
  have hz := hB.size
  have hgl := hr.lt
  go_wp2_with fail
  refine (pick_any 8 g q w2 hr2 (by omega)).mono ?_
  intro e w3 hP
  obtain ⟨x1, rfl, hx1, hr3, ho3⟩ := hP.some_ (by omega)
  clear hP
  go_wp2_with fail
  refine (pick_any 4 g (q + 1) w3 hr3 (by omega)).mono ?_
  intro e w4 hP
  obtain ⟨x2, rfl, hx2, hr4, ho4⟩ := hP.some_ (by omega)
  clear hP
  go_wp2_with fail
  have hgl4 := hr4.lt
  refine (one_any [(x1 : Int), x2, 4, -1, 12] _ g (q + 2) w4.heap.size (w4.heap.size + 1) _ (hr4.alloc _) (by omega) (ints_lit [(x1 : Int), x2, 4, -1, 12] (heap_alloc_new w4 _) (Nat.le_refl _) (by omega) (by simp)) hgl4 (by simp) (by simp)).mono ?_
  rintro e w5 ⟨y, hy, rfl, hr5, ho5⟩
  have hy1 : -1 ≤ y ∧ y ≤ 12 := by
    simp only [List.mem_cons, List.not_mem_nil, or_false] at hy
    omega
  have hall : w2.grownBy w5 (some g) := only_trans ho3 (only_trans ho4 (only_trans (only_alloc (World.grownBy.refl w4 _) _) ho5))
  have hf : DrewC w (.returned (.tuple #[.slice B ds.length cc, .int .i64 y])) w5 :=
    ⟨_, ds, y, rfl, hl, hy1.1, hy1.2, ((hd.keep (Same.of_grown hall (Nat.le_refl _) (fun k e => by injection e; omega))).wide hz hall.size), (hB.grown ho hz (fun k e => by injection e; omega)).grown hall (by have := ho.size; omega) (fun k e => by injection e; omega)⟩
  have HF := Lib.hid hf
  clear hf hd ho hall ho3 ho4 ho5 hy
  go_wp2_with fail
  go_ret2
  exact HF.out
theorem conTy_in {ds : List Dec} {c : Int} {m : Nat} (hm : m < ds.length) (h1 : (cnt ds m : Int) ≤ c) (h2 : c < (cnt ds (m + 1) : Int)) : conTy ds c = (m : Int) + 1 := by
  refine seek_hit (k := m) (fun j hj => ?_) hm (by rw [decide_eq_true h1, decide_eq_true h2]; rfl)
  have := cnt_mono ds (i := j + 1) (j := m) (by omega)
  rw [decide_eq_false (show ¬ c < (cnt ds (j + 1) : Int) by omega), Bool.and_false]
theorem conTy_some {ds : List Dec} {c : Int} (h0 : 0 ≤ c) : ∀ m, m ≤ ds.length → c < (cnt ds m : Int) → ∃ j, j < m ∧ conTy ds c = (j : Int) + 1 := by
  intro m
  induction m with
  | zero => intro _ h; rw [cnt_zero] at h; omega
  | succ m ih =>
    intro hm h
    by_cases hc : c < (cnt ds m : Int)
    · obtain ⟨j, hj, e⟩ := ih (by omega) hc
      exact ⟨j, by omega, e⟩
    · exact ⟨m, by omega, conTy_in (by omega) (by omega) h⟩
theorem order_facts {ds : List Dec} {y t : Int} (ht : conTypeV ds y = t) (h0 : ¬ t < 0) : 1 ≤ t ∧ t ≤ ds.length ∧ 0 ≤ y ∧ (y ≠ 0 → 1 ≤ conTypeV ds (y - 1) ∧ conTypeV ds (y - 1) ≤ t) ∧ conTypeV ds (conCountV ds) = -1 ∧ conCountV ds ≤ 12 := by
  unfold conTypeV at ht
  by_cases hb : typesOk ds = true
  · rw [if_pos hb] at ht
    rcases conTy_cases ds y with h | ⟨k, hk, h, h1, h2⟩
    · omega
    · have hs := cnt_succ hk
      have h12 := cnt_twelve hb
      refine ⟨by omega, by omega, by omega, fun hy => ?_, ?_, ?_⟩
      · unfold conTypeV
        rw [if_pos hb]
        obtain ⟨j, hj, e⟩ := conTy_some (ds := ds) (c := y - 1) (by omega) (k + 1) (by omega) (by omega)
        omega
      · unfold conTypeV conCountV
        rw [if_pos hb, if_pos hb]
        rcases conTy_cases ds (cnt ds ds.length) with h | ⟨i, hi, _, _, h4⟩
        · exact h
        · have := cnt_succ hi
          have := cnt_mono ds (i := i + 1) (j := ds.length) (by omega)
          omega
      · unfold conCountV
        rw [if_pos hb]; omega
  · rw [if_neg hb] at ht; omega
set_option maxHeartbeats 800000 in
theorem fnConTypeOrder_walk (A : Option Addr) (n c : Nat) (w : World) (h : Code_ w A n c) :
    Calls Try.prog 7 #[.slice A n c] w fun e w' => e = .returned (.bool true) ∧ Below w.heap.size w w' := by
  by_cases hbig : 1048576 < n
  · go_enter Try.func7, Try.ntmps7
    go_wp2_with fail
    go_ret
    exact ⟨rfl, Below.refl _ _⟩
  · have Hc := Lib.hid h
    clear h
    go_enter Try.func7, Try.ntmps7
    go_wp2_with fail
    refine (drawConType A n c w Hc.out).mono ?_
    rintro e w1 ⟨v, ds, y, rfl, hl, hy1, hy2, hd, hB1⟩
    obtain ⟨B, cc, rfl, hlc, hcc⟩ := hd.open_
    go_wp2_with fail
    refine (conTypeTop y _ _ _ _ w1 hd (Nat.le_refl _)).mono ?_
    rintro e w2 ⟨rfl, hB2⟩
    have hd2 := hd.keep (Same.of_below hB2 (Nat.le_refl _))
    have hU2 := hB2.size
    obtain ⟨t, ht⟩ : ∃ t, conTypeV ds y = t := ⟨_, rfl⟩
    rw [ht]
    have Ht := Lib.hid ht
    clear ht hd
    go_wp2_with fail
    refine (sConTypeTop y _ _ _ _ w2 hd2 hU2).mono ?_
    rintro e w3 ⟨rfl, hB3⟩
    have hd3 := hd2.keep (Same.of_below hB3 hU2)
    have hU3 := Nat.le_trans hU2 hB3.size
    rw [Ht.out]
    clear hd2
    have hW : Below w.heap.size w w3 := hB1.trans ((hB2.mono hB1.size).trans (hB3.mono (Nat.le_trans hB1.size hU2)))
    have hW3 := hW.size
    clear hB1 hB2 hB3
    by_cases ht0 : t < 0
    · go_wp2_with fail
      refine (sConTypeTop y _ _ _ _ w3 hd3 hU3).mono ?_
      rintro e w4 ⟨rfl, hB4⟩
      rw [Ht.out]
      go_wp2_with fail
      go_ret
      exact ⟨ret_bool (by simp), hW.trans (hB4.mono hW3)⟩
    · obtain ⟨f1, f2, f3, f4, f5, f6⟩ := order_facts Ht.out ht0
      have H5 := Lib.hid f5
      clear f5
      by_cases hy : y = 0
      · have hyb : (y == 0) = true := by simp [hy]
        clear hy f4
        go_wp2_with fail
        refine (conCountTop _ _ _ _ w3 hd3 hU3).mono ?_
        rintro e w4 ⟨rfl, hB4⟩
        have hd4 := hd3.keep (Same.of_below hB4 hU3)
        have hU4 := Nat.le_trans hU3 hB4.size
        go_wp2_with fail
        refine (conTypeTop _ _ _ _ _ w4 hd4 hU4).mono ?_
        rintro e w5 ⟨rfl, hB5⟩
        rw [H5.out]
        go_wp2_with fail
        go_ret
        exact ⟨rfl, hW.trans ((hB4.mono hW3).trans (hB5.mono (Nat.le_trans hW3 hB4.size)))⟩
      · have hyb : (y == 0) = false := by simp [hy]
        obtain ⟨f7, f8⟩ := f4 hy
        obtain ⟨t2, ht2⟩ : ∃ t2, conTypeV ds (y - 1) = t2 := ⟨_, rfl⟩
        rw [ht2] at f7 f8
        have H2 := Lib.hid ht2
        clear ht2 hy f4
        go_wp2_with fail
        refine (conTypeTop _ _ _ _ _ w3 hd3 hU3).mono ?_
        rintro e w4 ⟨rfl, hB4⟩
        have hd4 := hd3.keep (Same.of_below hB4 hU3)
        have hU4 := Nat.le_trans hU3 hB4.size
        rw [H2.out]
        go_wp2_with fail
        refine (conTypeTop _ _ _ _ _ w4 hd4 hU4).mono ?_
        rintro e w5 ⟨rfl, hB5⟩
        have hd5 := hd4.keep (Same.of_below hB5 hU4)
        have hU5 := Nat.le_trans hU4 hB5.size
        rw [H2.out]
        go_wp2_with fail
        refine (conCountTop _ _ _ _ w5 hd5 hU5).mono ?_
        rintro e w6 ⟨rfl, hB6⟩
        have hd6 := hd5.keep (Same.of_below hB6 hU5)
        have hU6 := Nat.le_trans hU5 hB6.size
        go_wp2_with fail
        refine (conTypeTop _ _ _ _ _ w6 hd6 hU6).mono ?_
        rintro e w7 ⟨rfl, hB7⟩
        rw [H5.out]
        go_wp2_with fail
        go_ret
        have z4 := Nat.le_trans hW3 hB4.size
        have z5 := Nat.le_trans z4 hB5.size
        have z6 := Nat.le_trans z5 hB6.size
        exact ⟨rfl, hW.trans ((hB4.mono hW3).trans ((hB5.mono z4).trans ((hB6.mono z5).trans (hB7.mono z6))))⟩
end Go.Proofs.Ytbkbmbjcgenanaa
