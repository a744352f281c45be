/- Contract of setBelow: the numbers of a list below a bound, ascending. -/
import Derived.Test.YtdooageiopnhaaaU6
namespace Go.Proofs.Ytdooageiopnhaaa
open Go.RowKit Go.BigFrame
theorem Ints.front {w : World} {L U : Nat} {A : Option Addr} {xs : List Int} {c k : Nat} (h : Ints w L U (.slice A xs.length c) xs) (hk : k ≤ xs.length) : Ints w L U (.slice A k c) (xs.take k) := by
  obtain ⟨A', c', e, r⟩ := h
  injection e with e1 e2 e3
  subst e1 e3
  have hl : (xs.take k).length = k := by simp; omega
  refine ⟨A, c, by rw [hl], ?_⟩
  rw [hl]
  have r' := r.short hk
  refine ⟨r'.le, r'.cap, r'.nil, fun hn => ?_⟩
  obtain ⟨b, o, e, h1, h2, hc⟩ := r'.place hn
  refine ⟨b, o, e, h1, h2, fun i j hi hj => ?_⟩
  rw [hc i j hi hj]
  rw [nth_of (by omega), nth_of (by omega), List.getElem_take]
theorem Ints.back {w : World} {L U b o : Nat} {xs : List Int} {c k : Nat} (h : Ints w L U (.slice (some ⟨b, o, none⟩) xs.length c) xs) (hk : k < xs.length) : Ints w L U (.slice (some ⟨b, o + k, none⟩) (xs.length - k) (c - k)) (xs.drop k) := by
  obtain ⟨A', c', e, r⟩ := h
  injection e with e1 e2 e3
  subst e1 e3
  have hl : (xs.drop k).length = xs.length - k := by simp
  refine ⟨_, _, by rw [hl], ?_⟩
  rw [hl]
  have h0 := r.le
  have h00 := r.cap
  refine ⟨by omega, by omega, (fun e => by cases e), fun hn => ?_⟩
  obtain ⟨b', o', e, h1, h2, hc⟩ := r.place (by omega)
  injection e with e
  injection e with e1 e2
  subst e1 e2
  refine ⟨b, o + k, rfl, h1, h2, fun i j hi hj => ?_⟩
  have h3 := hc (k + i) j (by omega) hj
  rw [nth_of (by omega)] at h3
  rw [nth_of (by omega), List.getElem_drop]
  rw [show o + k + i * 1 + j = o + (k + i) * 1 + j by omega]
  exact h3
theorem setL_one (n x : Int) : setL n [] [x] = cond (inB n x) [x] [] := by
  simp [setL, ins]
set_option maxHeartbeats 1600000 in
theorem setBelow_small (n : Int) (xs : List Int) (L U : Nat) (v : Value) (w : World) (h1 : xs.length ≤ 1) (hv : Ints w L U v xs) (hU : U ≤ w.heap.size) :
    Calls Try.prog 25 #[v, .int .i64 n] w fun e w' => ∃ u, e = .returned u ∧ Below w.heap.size w w' ∧ Own w' w.heap.size u (setL n [] xs) := by
  obtain ⟨B, d, rfl, hl, hd⟩ := hv.open_
  have i1 : ¬ (1 : Int) < (xs.length : Int) := by omega
  go_enter Try.func25, Try.ntmps25
  go_wp2_with fail
  go_loopw [6, 28] (fun u i wr => ∃ (k : Nat) (ys : List Int), k ≤ xs.length ∧ i = .int .i64 k ∧ Hid (ys = setL n [] (xs.take k)) ∧ Own wr w.heap.size u ys ∧ Below w.heap.size w wr) (fun _ i _ => xs.length - (intOf i).toNat)
  case atStart => exact ⟨0, [], by omega, rfl, rfl, Own.nil _ _, Below.refl _ _⟩
  case round =>
    obtain ⟨k, ys, hk, rfl, HY, hown, hB⟩ := hrel
    have hz := hB.size
    by_cases hlt : k < xs.length
    · obtain ⟨bb, o, rfl, _, _, hc⟩ := (hv.keep (Same.of_below hB hU)).at_ hlt
      have k0 : k = 0 := by omega
      have hy0 : ys = [] := by rw [HY.out, k0]; rfl
      have hst := setL_step n [] hlt
      rw [← HY.out, hy0] at hst
      have hyl : ys.length ≤ 0 := by rw [hy0]; simp
      by_cases g1 : 0 ≤ xs[k]
      · by_cases g2 : xs[k] < n
        · have HN : Hid (ys ++ [xs[k]] = setL n [] (xs.take (k + 1))) := by
            show _ = _
            rw [hst, inB_yes g1 g2, hy0]; rfl
          clear hst hy0 HY k0
          go_wp2_with (at_builtin; refine wp_push rfl (.tmp 39) (.tmp 41) rfl rfl hown rfl (by omega) hz ?_)
          intro u1 w1 ho1 hB1 _
          have HH := Lib.hid (And.intro ho1 (hB.trans hB1))
          clear ho1 hB1 hB hown hc
          go_wp2_with fail
          go_roundw
          case rel => exact ⟨k + 1, _, by omega, by go_num, HN, HH.out.1, HH.out.2⟩
          case measure => simp [intOf]; omega
        · have HN : Hid (ys = setL n [] (xs.take (k + 1))) := by
            show _ = _
            rw [hst, inB_no (fun _ => g2), hy0]; rfl
          clear hst hy0 HY k0
          go_wp2_with fail
          go_roundw
          case rel => exact ⟨k + 1, _, by omega, by go_num, HN, hown, hB⟩
          case measure => simp [intOf]; omega
      · have HN : Hid (ys = setL n [] (xs.take (k + 1))) := by
          show _ = _
          rw [hst, inB_no (fun h => absurd h g1), hy0]; rfl
        clear hst hy0 HY k0
        go_wp2_with fail
        go_roundw
        case rel => exact ⟨k + 1, _, by omega, by go_num, HN, hown, hB⟩
        case measure => simp [intOf]; omega
    · have he := HY.out
      rw [setL_all n [] hlt] at he
      subst he
      go_wp2_with fail
      go_ret
      exact ⟨_, rfl, hB, hown⟩
set_option maxHeartbeats 1600000 in
theorem setBelow_any (n : Int) : ∀ (m : Nat) (xs : List Int) (L U : Nat) (v : Value) (w : World), xs.length ≤ m → Ints w L U v xs → U ≤ w.heap.size → xs.length ≤ 2000000 →
    Calls Try.prog 25 #[v, .int .i64 n] w fun e w' => ∃ u, e = .returned u ∧ Below w.heap.size w w' ∧ Own w' w.heap.size u (setL n [] xs) := by
  intro m
  induction m with
  | zero =>
    intro xs L U v w hm hv hU hs
    have := List.eq_nil_of_length_eq_zero (Nat.le_zero.1 hm)
    subst this
    exact setBelow_small n [] L U v w (by simp) hv hU
  | succ m ih =>
    intro xs L U v w hm hv hU hs
    by_cases h1 : 1 < xs.length
    · obtain ⟨B, d, rfl, hl, hd⟩ := hv.open_
      obtain ⟨b, o, rfl, _, _, _⟩ := hv.at_ (show 0 < xs.length by omega)
      obtain ⟨hf, hhf⟩ : ∃ hf, xs.length / 2 = hf := ⟨_, rfl⟩
      have hq : (xs.length : Int).tdiv 2 = (hf : Int) := by rw [Int.tdiv_eq_ediv_of_nonneg (by omega), ← hhf]; omega
      have i1 : (1 : Int) < (xs.length : Int) := by omega
      have i2 : hf < xs.length := by omega
      have i3 : 0 < hf := by omega
      have i4 : hf ≤ d := by omega
      have i5 : ¬ d = hf := by omega
      have i6 : (0 : Int) ≤ (hf : Int) := by omega
      have i7 : (hf : Int) ≤ (xs.length : Int) := by omega
      have i8 : (hf : Int) ≤ (d : Int) := by omega
      have T := set_halves n (xs.take hf) (xs.drop hf)
      rw [List.take_append_drop] at T
      obtain ⟨l1, l2, _⟩ := setL_ok n (xs.take hf) [] asc_nil'
      obtain ⟨r1, r2, _⟩ := setL_ok n (xs.drop hf) [] asc_nil'
      simp only [List.length_nil, List.length_take, List.length_drop, Nat.zero_add] at l2 r2
      have HL := Lib.hid (ih (xs.take hf) L U _ w.drew (by simp; omega) ((hv.keep (same_drew _ _ w)).front (by omega)) hU (by simp; omega))
      have HR := Lib.hid fun W (hB : Below w.drew.heap.size w.drew W) => ih (xs.drop hf) L U _ W (by simp; omega) (((hv.keep (same_drew _ _ w)).keep (Same.of_below hB hU)).back i2) (Nat.le_trans hU hB.size) (by simp; omega)
      have HX := Lib.hid (And.intro l1 (And.intro l2 (And.intro r1 (And.intro r2 T))))
      clear l1 l2 r1 r2 T ih hv
      go_enter Try.func25, Try.ntmps25
      go_wp2_with fail
      go_region_held3 (fun _ => True) (trivial)
        (first | (go_at_call 35; refine (union_any _ _ _ _ (setL n [] (xs.take hf)) (setL n [] (xs.drop hf)) _ _ wy (ox.ints.keep (Same.of_below hBy (Nat.le_refl _))) oy.ints hBy.size (Nat.le_refl _) HX.out.1 HX.out.2.2.1 (by have := HX.out; omega) (by have := HX.out; omega)).mono ?_; rintro e wz ⟨uz, rfl, hBz, oz⟩) | (go_at_call 25; refine (HR.out _ hBx).mono ?_; rintro e wy ⟨uy, rfl, hBy, oy⟩) | (go_at_call 25; refine HL.out.mono ?_; rintro e wx ⟨ux, rfl, hBx, ox⟩))
      go_wp2_with fail
      go_ret
      exact ⟨_, rfl, (Below.refl _ w).drew.trans ((hBx.trans (hBy.mono hBx.size)).trans (hBz.mono (Nat.le_trans hBx.size hBy.size))), HX.out.2.2.2.2 ▸ oz.wide (Nat.le_trans hBx.size hBy.size)⟩
    · exact setBelow_small n xs L U v w (by omega) hv hU
end Go.Proofs.Ytdooageiopnhaaa
