/- Equality of lists as the laws ask it; the draw for ConsOf; the walk of the law FnConsOf. -/
import Derived.Test.YtbkbmbjcgenanaaW4
namespace Go.Proofs.Ytbkbmbjcgenanaa
open Go.RowKit Go.BigFrame
set_option maxHeartbeats 400000 in
theorem equalInts_same (L U L' U' : Nat) (xs : List Int) (v v' : Value) (w : World) (hv : Ints w L U v xs) (hv' : Ints w L' U' v' xs) :
    Calls Try.prog 34 #[v, v'] w fun e w' => e = .returned (.bool true) ∧ Below w.heap.size w w' := by
  obtain ⟨B, d, rfl, hl, hd⟩ := hv.open_
  obtain ⟨B', d', rfl, hl', hd'⟩ := hv'.open_
  go_enter Try.func34, Try.ntmps34
  go_wp2_with fail
  go_loopw [5] (fun i wr => ∃ k m : Nat, k ≤ xs.length ∧ i = .int .i64 k ∧ wr = w.drewN m) (fun i _ => xs.length - (intOf i).toNat)
  case atStart => exact ⟨0, 0, by omega, rfl, rfl⟩
  case round =>
    obtain ⟨k, m, hk, rfl, rfl⟩ := hrel
    by_cases hlt : k < xs.length
    · obtain ⟨b, o, rfl, _, _, hc⟩ := hv.at_ hlt
      obtain ⟨b', o', rfl, _, _, hc'⟩ := hv'.at_ hlt
      have k0 : (0 : Int) ≤ (k : Int) := by omega
      have k1 : (k : Int) < (xs.length : Int) := by omega
      go_wp2_with fail
      go_quiet (fail)
      go_wp2_with fail
      go_roundw
      case rel => exact ⟨k + 1, _, by omega, by go_num, rfl⟩
      case measure => simp [intOf]; omega
    · go_wp2_with fail
      go_ret
      exact ⟨rfl, below_drewN (Below.refl _ _) _⟩
def DrewT (lo hi : Int) (w : World) (e : Ending) (w' : World) : Prop := ∃ v ds, ∃ c : Int, e = .returned (.tuple #[v, .int .i64 c]) ∧ ds.length ≤ 6 ∧ lo ≤ c ∧ c ≤ hi ∧ Decs w' w.heap.size w'.heap.size v ds ∧ Below w.heap.size w w'
set_option maxHeartbeats 800000 in
theorem drawConsOf (A : Option Addr) (n c : Nat) (w : World) (h : Code_ w A n c) :
    Calls Try.prog 36 #[.slice A n c] w (DrewT (-1) 5 w) := by
  go_enter Try.func36, Try.ntmps36
  go_wp2_with fail
  refine (newReader_any A n c w.heap.size w h.1 h.2.1 h.2.2 (Nat.le_refl _)).mono ?_
  rintro e w1 ⟨g, rfl, hr, hB, hg⟩
  go_wp2_with fail
  refine (anyDecls_any g 0 w1 hr (by omega)).mono ?_
  rintro e w2 ⟨v, ds, rfl, hl, hd, ⟨q, hq, hr2⟩, ho⟩
  obtain ⟨B, cc, rfl, _, _⟩ := hd.open_
  have hz := hB.size
  have hgl := hr.lt
  have hgl2 := hr2.lt
  go_wp2_with fail
  refine (one_any [1, 3, 4, 2, 0, -1, 5] _ g q w2.heap.size (w2.heap.size + 1) _ (hr2.alloc _) (by omega) (ints_lit [1, 3, 4, 2, 0, -1, 5] (heap_alloc_new w2 _) (Nat.le_refl _) (by omega) (by simp)) hgl2 (by simp) (by simp)).mono ?_
  rintro e w5 ⟨y, hy, rfl, hr5, ho5⟩
  have hy1 : -1 ≤ y ∧ y ≤ 5 := by
    simp only [List.mem_cons, List.not_mem_nil, or_false] at hy
    omega
  have hall : w2.grownBy w5 (some g) := only_trans (only_alloc (World.grownBy.refl w2 _) _) ho5
  have hf : DrewT (-1) 5 w (.returned (.tuple #[.slice B ds.length cc, .int .i64 y])) w5 :=
    ⟨_, ds, y, rfl, hl, hy1.1, hy1.2, ((hd.keep (Same.of_grown hall (Nat.le_refl _) (fun k e => by injection e; omega))).wide hz hall.size), (hB.grown ho hz (fun k e => by injection e; omega)).grown hall (by have := ho.size; omega) (fun k e => by injection e; omega)⟩
  have HF := Lib.hid hf
  clear hf hd ho hall ho5 hy
  go_wp2_with fail
  go_ret2
  exact HF.out
theorem cons_facts {ds : List Dec} {t : Int} (h : consOfV ds t ≠ []) : 1 ≤ t ∧ t ≤ ds.length ∧ ∃ k : Nat, t = (k : Int) + 1 ∧ k < ds.length ∧ (consOfV ds t).length = (nthD ds k).cons.length ∧ cnt ds k ≤ 12 ∧ (consOfV ds t).length ≤ 3 ∧ ∀ i (hi : i < (consOfV ds t).length), (consOfV ds t)[i] = (cnt ds k : Int) + (i : Int) := by
  unfold consOfV at h ⊢
  by_cases hc : typesOk ds = true ∧ 1 ≤ t ∧ t ≤ ds.length
  · obtain ⟨k, rfl⟩ : ∃ k : Nat, t = (k : Int) + 1 := ⟨(t - 1).toNat, by omega⟩
    have hk : k < ds.length := by omega
    have hs := cnt_mono ds (i := k) (j := ds.length) (by omega)
    have h12 := cnt_twelve hc.1
    have h3 := cons_three hc.1 hk
    simp only [if_pos hc, show ((k : Int) + 1 - 1).toNat = k by omega]
    refine ⟨hc.2.1, hc.2.2, k, rfl, hk, length_consAt ds k, by omega, by rw [length_consAt]; omega, fun i hi => ?_⟩
    simp [consAt]
  · rw [if_neg hc] at h; exact absurd rfl h
set_option maxHeartbeats 800000 in
theorem fnConsOf_walk (A : Option Addr) (n c : Nat) (w : World) (h : Code_ w A n c) :
    Calls Try.prog 9 #[.slice A n c] w fun e w' => e = .returned (.bool true) ∧ Below w.heap.size w w' := by
  by_cases hbig : 1048576 < n
  · go_enter Try.func9, Try.ntmps9
    go_wp2_with fail
    go_ret
    exact ⟨rfl, Below.refl _ _⟩
  · have Hc := Lib.hid h
    clear h
    go_enter Try.func9, Try.ntmps9
    go_wp2_with fail
    refine (drawConsOf A n c w Hc.out).mono ?_
    rintro e w1 ⟨v, ds, t, rfl, hl, hy1, hy2, hd, hB1⟩
    obtain ⟨B, cc, rfl, hlc, hcc⟩ := hd.open_
    go_wp2_with fail
    refine (consOfTop t _ _ _ _ w1 hd (Nat.le_refl _)).mono ?_
    rintro e w2 ⟨u, rfl, hB2, hu⟩
    have hd2 := hd.keep (Same.of_below hB2 (Nat.le_refl _))
    have hU2 := hB2.size
    obtain ⟨X, xc, rfl, _, hxc⟩ := hu.open_
    go_wp2_with fail
    refine (sConsOfTop t _ _ _ _ w2 hd2 hU2).mono ?_
    rintro e w3 ⟨u2, rfl, hB3, hu2⟩
    have hd3 := hd2.keep (Same.of_below hB3 hU2)
    have hu3 := hu.keep (Same.of_below hB3 (Nat.le_refl _))
    have hU3 := Nat.le_trans hU2 hB3.size
    obtain ⟨X2, xc2, rfl, _, _⟩ := hu2.open_
    have hW : Below w.heap.size w w3 := hB1.trans ((hB2.mono hB1.size).trans (hB3.mono (Nat.le_trans hB1.size hU2)))
    clear hd hd2 hu
    go_wp2_with fail
    refine (equalInts_same _ _ _ _ _ _ _ w3 hu3 hu2).mono ?_
    rintro e w4 ⟨rfl, hB4⟩
    have hd4 := hd3.keep (Same.of_below hB4 hU3)
    have hU4 := Nat.le_trans hU3 hB4.size
    have hu4 := hu3.keep (Same.of_below hB4 hB3.size)
    have hW3 := hW.size
    have hW4 : Below w.heap.size w w4 := hW.trans (hB4.mono hW3)
    have hz4 := hW4.size
    have hUu : w2.heap.size ≤ w4.heap.size := Nat.le_trans hB3.size hB4.size
    clear hd3 hu3 hu2 hB1 hB2 hB3 hB4 hW hW3
    by_cases he : consOfV ds t = []
    · have hlen : (consOfV ds t).length = 0 := by rw [he]; rfl
      have heb : (((consOfV ds t).length : Int) == 0) = true := by rw [hlen]; rfl
      have He := Lib.hid he
      clear he hlen
      go_wp2_with fail
      refine (sConsOfTop t _ _ _ _ w4 hd4 hU4).mono ?_
      rintro e w5 ⟨u2, rfl, hB5, hu5⟩
      obtain ⟨X2, xc2, rfl, _, _⟩ := hu5.open_
      have hu6 := hu4.keep (Same.of_below hB5 hUu)
      go_wp2_with fail
      refine (equalInts_same _ _ _ _ _ _ _ w5 hu6 hu5).mono ?_
      rintro e w6 ⟨rfl, hB6⟩
      clear hu4 hu5 hu6
      go_wp2_with fail
      go_ret
      exact ⟨rfl, hW4.trans ((hB5.mono hz4).trans (hB6.mono (Nat.le_trans hz4 hB5.size)))⟩
    · obtain ⟨f1, f2, k, hk, hkl, f3, f4, f5, f6⟩ := cons_facts he
      have heb : (((consOfV ds t).length : Int) == 0) = false := by
        rw [beq_eq_false_iff_ne]; intro h0; exact he (List.eq_nil_of_length_eq_zero (by omega))
      have H6 := Lib.hid f6
      have H3 := Lib.hid f3
      have Hk := Lib.hid hk
      clear f6 f3 he hk
      obtain rfl : k = (t - 1).toNat := by rw [Hk.out]; omega
      have hd5 := fun m => hd4.keep (same_drewN w.heap.size w1.heap.size w4 m)
      have HD := Lib.hid hd5
      obtain ⟨b9, o9, A9, c9, rfl, _, hb9, e0, e1, e2, _⟩ := hd4.at_ hkl
      have hpos : 0 < (consOfV ds t).length := by
        rcases Nat.eq_zero_or_pos (consOfV ds t).length with h0 | h0
        · rw [h0] at heb; cases heb
        · exact h0
      clear hd5 hd4
      go_wp2_with fail
      go_loopw [6] (fun i wr => ∃ j m : Nat, j + 1 ≤ (consOfV ds t).length ∧ i = .int .i64 ((j : Int) + 1) ∧ wr = w4.drewN m) (fun i _ => (consOfV ds t).length - (intOf i).toNat)
      case atStart => exact ⟨0, 0, by omega, rfl, rfl⟩
      case round =>
        obtain ⟨j, m, hj, rfl, rfl⟩ := hrel
        by_cases hlt : j + 1 < (consOfV ds t).length
        · obtain ⟨b, o, rfl, _, _, x1⟩ := hu4.at_ hlt
          obtain ⟨b', o', hbo, _, _, x0⟩ := hu4.at_ (k := j) (by omega)
          injection hbo with hbo
          injection hbo with hb1 hb2
          subst hb1 hb2
          have y1 := H6.out (j + 1) hlt
          have y0 := H6.out j (by omega)
          rw [y1, show (((j + 1 : Nat) : Int)) = (j : Int) + 1 from rfl] at x1
          rw [y0] at x0
          obtain ⟨z, hz⟩ : ∃ z : Nat, cnt ds (t - 1).toNat + j = z := ⟨_, rfl⟩
          rw [show (cnt ds (t - 1).toNat : Int) + ((j : Int) + 1) = (z : Int) + 1 by omega] at x1
          rw [show (cnt ds (t - 1).toNat : Int) + (j : Int) = (z : Int) by omega] at x0
          have hz20 : z ≤ 20 := by omega
          have i0 : (0 : Int) ≤ (j : Int) + 1 := by omega
          have i1 : (j : Int) + 1 < ((consOfV ds t).length : Int) := by omega
          have i2 : (j : Int) < ((consOfV ds t).length : Int) := by omega
          have i3 : (0 : Int) ≤ (j : Int) := by omega
          have hne : ((z : Int) + 1 != (z : Int) + 1) = false := by simp
          have q1 : IntKind.i64.wrap ((j : Int) + 1 - 1) = (j : Int) := by rw [IntWalk.i64_in _ (by omega)]; omega
          have q2 : IntKind.i64.wrap (j : Int) = (j : Int) := IntWalk.i64_in _ (by omega)
          have q3 : IntKind.i64.wrap ((z : Int) + 1) = (z : Int) + 1 := IntWalk.i64_in _ (by omega)
          clear y1 y0 hz
          go_wp2_with fail
          go_quiet (fail)
          clear q1 q2 q3
          go_wp2_with fail
          go_roundw
          case rel => exact ⟨j + 1, _, by omega, by go_num, rfl⟩
          case measure => simp [intOf]; omega
        · have i4 : (0 : Int) ≤ t - 1 := by omega
          have i5 : t - 1 < (ds.length : Int) := by omega
          have i6 : (consOfV ds t).length = (nthD ds (t - 1).toNat).cons.length := H3.out
          have i7 : (((consOfV ds t).length : Int) == ((nthD ds (t - 1).toNat).cons.length : Int)) = true := by rw [i6]; simp
          have I7 := Lib.hid i6
          clear i6
          have ek : (t - 1).toNat = t.toNat - 1 := by omega
          have e2' : w4.cell? ⟨b9, o9 + (t.toNat - 1) * 3 + 2, none⟩ = some (.slice A9 (nthD ds (t - 1).toNat).cons.length c9) := by rw [← ek]; exact e2
          clear ek e0 e1 e2
          go_wp2_with fail
          go_ret
          exact ⟨ret_bool (by rw [show t.toNat - 1 = (t - 1).toNat by omega, ← I7.out]; simp), hW4.trans (below_drewN (Below.refl _ _) _)⟩
end Go.Proofs.Ytbkbmbjcgenanaa
