/- Contract of union: the numbers of two ascending lists, ascending. -/
import Derived.Test.YtdooageiopnhaaaU5
namespace Go.Proofs.Ytdooageiopnhaaa
open Go.RowKit Go.BigFrame
set_option maxHeartbeats 1600000 in
theorem union_any (L U L' U' : Nat) (xs ys : List Int) (v v' : Value) (w : World) (hv : Ints w L U v xs) (hv' : Ints w L' U' v' ys) (hU : U ≤ w.heap.size) (hU' : U' ≤ w.heap.size) (ha : Asc xs) (hb : Asc ys) (hs : xs.length ≤ 2000000) (hs' : ys.length ≤ 2000000) :
    Calls Try.prog 35 #[v, v'] w fun e w' => ∃ u, e = .returned u ∧ Below w.heap.size w w' ∧ Own w' w.heap.size u (uni xs ys) := by
  obtain ⟨B, d, rfl, hl, hd⟩ := hv.open_
  obtain ⟨B', d', rfl, hl', hd'⟩ := hv'.open_
  have HA := Lib.hid ha
  have HB := Lib.hid hb
  clear ha hb
  go_enter Try.func35, Try.ntmps35
  go_wp2_with fail
  go_loopw [5, 6, 7] (fun u i j wr => ∃ (a b : Nat) (zs : List Int), a ≤ xs.length ∧ b ≤ ys.length ∧ i = .int .i64 a ∧ j = .int .i64 b ∧ Hid (UniAt xs ys a b zs) ∧ Own wr w.heap.size u zs ∧ Below w.heap.size w wr) (fun _ i j _ => (xs.length - (intOf i).toNat) + (ys.length - (intOf j).toNat))
  case atStart => exact ⟨0, 0, [], by omega, by omega, rfl, rfl, UniAt.zero _ _, Own.nil _ _, Below.refl _ _⟩
  case round =>
    obtain ⟨a, b, zs, ka, kb, rfl, rfl, HI, hown, hB⟩ := hrel
    have hz := hB.size
    have hzl := HI.out.len
    have HO := Lib.hid fun n => hown.keep (same_drewN _ _ wr n)
    have HBB := Lib.hid fun n => below_drewN hB n
    have a0 : (0 : Int) ≤ (a : Int) := by omega
    have b0 : (0 : Int) ≤ (b : Int) := by omega
    have sa : IntKind.i64.wrap ((a : Int) + 1) = (a : Int) + 1 := IntWalk.i64_in _ (by omega)
    have sb : IntKind.i64.wrap ((b : Int) + 1) = (b : Int) + 1 := IntWalk.i64_in _ (by omega)
    by_cases hia : a < xs.length
    · obtain ⟨bb, o, rfl, _, _, hc⟩ := (hv.keep (Same.of_below hB hU)).at_ hia
      have a1 : (a : Int) < (xs.length : Int) := by omega
      by_cases hjb : b < ys.length
      · obtain ⟨bb', o', rfl, _, _, hc'⟩ := (hv'.keep (Same.of_below hB hU')).at_ hjb
        have b1 : (b : Int) < (ys.length : Int) := by omega
        have b2 : ((b : Int) == (ys.length : Int)) = false := by simp; omega
        rcases Int.lt_trichotomy xs[a] ys[b] with hm | hm | hm
        · have HN := Lib.hid (HI.out.left HA.out HB.out hia (fun _ => hm))
          clear hown hB hl hl'
          go_wp2_with fail
          go_quiet (fail)
          go_wp2_with (at_builtin; refine wp_push rfl (.tmp 39) (.tmp 44) rfl rfl (HO.out _) rfl (by omega) hz ?_)
          intro u1 w1 ho1 hB1 _
          have HH := Lib.hid (And.intro ho1 ((HBB.out _).trans hB1))
          clear ho1 hB1 hc hc'
          go_wp2_with fail
          go_roundw
          case rel => exact ⟨a + 1, b, _, by omega, by omega, by go_num, rfl, HN, HH.out.1, HH.out.2⟩
          case measure => simp [intOf]; omega
        · have HN := Lib.hid (HI.out.both HA.out HB.out hia hjb hm)
          have hlt : decide (xs[a] < ys[b]) = false := by simp; omega
          have heq : (xs[a] == ys[b]) = true := by simp [hm]
          clear hown hB hl hl' hm
          go_wp2_with fail
          go_quiet (fail)
          go_wp2_with fail
          go_quiet (fail)
          go_wp2_with (at_builtin; refine wp_push rfl (.tmp 65) (.tmp 70) rfl rfl (HO.out _) rfl (by omega) hz ?_)
          intro u1 w1 ho1 hB1 _
          have HH := Lib.hid (And.intro ho1 ((HBB.out _).trans hB1))
          clear ho1 hB1 hc hc'
          go_wp2_with fail
          go_roundw
          case rel => exact ⟨a + 1, b + 1, _, by omega, by omega, by go_num, by go_num, HN, HH.out.1, HH.out.2⟩
          case measure => simp [intOf]; omega
        · have HN := Lib.hid (HI.out.right HA.out HB.out hjb (fun _ => hm))
          have hlt : decide (xs[a] < ys[b]) = false := by simp; omega
          have heq : (xs[a] == ys[b]) = false := by simp; omega
          clear hown hB hl hl'
          go_wp2_with fail
          go_quiet (fail)
          go_wp2_with fail
          go_quiet (fail)
          go_wp2_with (at_builtin; refine wp_push rfl (.tmp 65) (.tmp 70) rfl rfl (HO.out _) rfl (by omega) hz ?_)
          intro u1 w1 ho1 hB1 _
          have HH := Lib.hid (And.intro ho1 ((HBB.out _).trans hB1))
          clear ho1 hB1 hc hc'
          go_wp2_with fail
          go_roundw
          case rel => exact ⟨a, b + 1, _, by omega, by omega, rfl, by go_num, HN, HH.out.1, HH.out.2⟩
          case measure => simp [intOf]; omega
      · have HN := Lib.hid (HI.out.left HA.out HB.out hia (fun h => absurd h hjb))
        have b1 : ¬ (b : Int) < (ys.length : Int) := by omega
        have b2 : ((b : Int) == (ys.length : Int)) = true := by simp; omega
        clear hown hB hl hl'
        go_wp2_with fail
        go_quiet (fail)
        go_wp2_with (at_builtin; refine wp_push rfl (.tmp 39) (.tmp 44) rfl rfl (HO.out _) rfl (by omega) hz ?_)
        intro u1 w1 ho1 hB1 _
        have HH := Lib.hid (And.intro ho1 ((HBB.out _).trans hB1))
        clear ho1 hB1 hc
        go_wp2_with fail
        go_roundw
        case rel => exact ⟨a + 1, b, _, by omega, by omega, by go_num, rfl, HN, HH.out.1, HH.out.2⟩
        case measure => simp [intOf]; omega
    · have a1 : ¬ (a : Int) < (xs.length : Int) := by omega
      by_cases hjb : b < ys.length
      · obtain ⟨bb', o', rfl, _, _, hc'⟩ := (hv'.keep (Same.of_below hB hU')).at_ hjb
        have HN := Lib.hid (HI.out.right HA.out HB.out hjb (fun h => absurd h hia))
        have b1 : (b : Int) < (ys.length : Int) := by omega
        have b2 : ((b : Int) == (ys.length : Int)) = false := by simp; omega
        clear hown hB hl hl'
        go_wp2_with fail
        go_quiet (fail)
        go_wp2_with fail
        go_quiet (fail)
        go_wp2_with (at_builtin; refine wp_push rfl (.tmp 65) (.tmp 70) rfl rfl (HO.out _) rfl (by omega) hz ?_)
        intro u1 w1 ho1 hB1 _
        have HH := Lib.hid (And.intro ho1 ((HBB.out _).trans hB1))
        clear ho1 hB1 hc'
        go_wp2_with fail
        go_roundw
        case rel => exact ⟨a, b + 1, _, by omega, by omega, rfl, by go_num, HN, HH.out.1, HH.out.2⟩
        case measure => simp [intOf]; omega
      · have he := HI.out.last HA.out hia hjb
        subst he
        have b1 : ¬ (b : Int) < (ys.length : Int) := by omega
        go_wp2_with fail
        go_ret
        exact ⟨_, rfl, hB, hown⟩
end Go.Proofs.Ytdooageiopnhaaa
