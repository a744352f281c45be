/- Contracts of withInt and insert: a number is put into an ascending list. -/
import Derived.Test.YtdooageiopnhaaaIn
namespace Go.Proofs.Ytdooageiopnhaaa
open Go.RowKit Go.BigFrame
set_option maxHeartbeats 1600000 in
theorem insert_any (L U : Nat) (xs : List Int) (v : Value) (n : Int) (w : World) (hv : Ints w L U v xs) (hU : U ≤ w.heap.size) (ha : Asc xs) (hs : xs.length ≤ 2000000) :
    Calls Try.prog 33 #[v, .int .i64 n] w fun e w' => ∃ u, e = .returned u ∧ Below w.heap.size w w' ∧ Own w' w.heap.size u (ins n xs) := by
  obtain ⟨B, d, rfl, hl, hd⟩ := hv.open_
  go_enter Try.func33, Try.ntmps33
  go_wp2_with fail
  go_loopw [5, 6, 7] (fun u p i wr => ∃ (k : Nat) (b : Bool) (ys : List Int), k ≤ xs.length ∧ i = .int .i64 k ∧ p = .bool b ∧ Hid (InsAt xs n k b ys) ∧ Own wr w.heap.size u ys ∧ Below w.heap.size w wr) (fun _ _ i _ => xs.length - (intOf i).toNat)
  case atStart => exact ⟨0, false, [], by omega, rfl, rfl, InsAt.zero xs n, Own.of (n := 0) (World.ownsRow_lit (base := w.heap.size) (e := 3) (size := 1) w #[] 0 (Nat.le_refl _) (by simp [maxLen]) rfl), (Below.refl _ _).alloc (Nat.le_refl _) _⟩
  case round =>
    obtain ⟨k, b, ys, hk, rfl, rfl, HI, hown, hB⟩ := hrel
    have hz := hB.size
    have hyl := HI.out.length
    by_cases hlt : k < xs.length
    · obtain ⟨bb, o, rfl, _, _, hc⟩ := (hv.keep (Same.of_below hB hU)).at_ hlt
      rcases b with _ | _
      · rcases Int.lt_trichotomy xs[k] n with hm | hm | hm
        · have HN := Lib.hid (HI.out.less hlt hm)
          have hne : ¬ xs[k] = n := by omega
          go_wp2_with (at_builtin; refine wp_push rfl (.tmp 35) (.tmp 40) rfl rfl hown rfl (by omega) hz ?_)
          intro u1 w1 ho1 hB1 _
          have HH := Lib.hid (And.intro ho1 (hB.trans hB1))
          clear ho1 hB1 hB hown hc
          go_wp2_with fail
          go_roundw
          case rel => exact ⟨k + 1, false, _, by omega, by go_num, rfl, HN, HH.out.1, HH.out.2⟩
          case measure => simp [intOf]; omega
        · have HN := Lib.hid (HI.out.same hlt hm)
          rw [hm] at hc
          clear hm
          go_wp2_with (at_builtin; refine wp_push rfl (.tmp 35) (.tmp 40) rfl rfl hown rfl (by omega) hz ?_)
          intro u1 w1 ho1 hB1 _
          have HH := Lib.hid (And.intro ho1 (hB.trans hB1))
          clear ho1 hB1 hB hown hc
          go_wp2_with fail
          go_roundw
          case rel => exact ⟨k + 1, true, _, by omega, by go_num, rfl, HN, HH.out.1, HH.out.2⟩
          case measure => simp [intOf]; omega
        · have HN : Hid (InsAt xs n (k + 1) true (ys ++ [n, xs[k]])) := by
            have := HI.out.more hlt hm
            rw [List.append_assoc] at this
            exact this
          have hne : ¬ xs[k] = n := by omega
          go_wp2_with (at_builtin; refine wp_push rfl (.tmp 31) (.tmp 33) rfl rfl hown rfl (by omega) hz ?_)
          intro u1 w1 ho1 hB1 _
          have B1 := hB.trans hB1
          clear hB hB1 hown hc
          have hz1 := B1.size
          obtain ⟨bb', o', e', _, _, hc1⟩ := (hv.keep (Same.of_below B1 hU)).at_ hlt
          cases e'
          have hl1 : (ys ++ [n]).length ≤ 2000002 := by rw [List.length_append]; simp; omega
          go_wp2_with (at_builtin; refine wp_push rfl (.tmp 35) (.tmp 40) rfl rfl ho1 rfl (by omega) hz1 ?_)
          intro u2 w2 ho2 hB2 _
          have HH := Lib.hid (And.intro ho2 (B1.trans hB2))
          clear ho1 ho2 hB2 B1
          go_wp2_with fail
          go_roundw
          case rel => exact ⟨k + 1, true, _, by omega, by go_num, rfl, HN, HH.out.1, HH.out.2⟩
          case measure => simp [intOf]; omega
      · have hm := HI.out.gt ha hlt
        have HN := Lib.hid (HI.out.past hlt)
        have hne : ¬ xs[k] = n := by omega
        go_wp2_with (at_builtin; refine wp_push rfl (.tmp 35) (.tmp 40) rfl rfl hown rfl (by omega) hz ?_)
        intro u1 w1 ho1 hB1 _
        have HH := Lib.hid (And.intro ho1 (hB.trans hB1))
        clear ho1 hB1 hB hown hc
        go_wp2_with fail
        go_roundw
        case rel => exact ⟨k + 1, true, _, by omega, by go_num, rfl, HN, HH.out.1, HH.out.2⟩
        case measure => simp [intOf]; omega
    · rcases b with _ | _
      · have he := HI.out.end_ hlt
        go_wp2_with (at_builtin; refine wp_push rfl (.tmp 44) (.tmp 46) rfl rfl hown rfl (by omega) hz ?_)
        intro u1 w1 ho1 hB1 _
        have HH := Lib.hid (And.intro ho1 (hB.trans hB1))
        clear ho1 hB1 hB hown he
        go_wp2_with fail
        go_ret
        exact ⟨_, rfl, HH.out.2, HH.out.1⟩
      · have he := HI.out.last hlt
        subst he
        go_wp2_with fail
        go_ret
        exact ⟨_, rfl, hB, hown⟩
end Go.Proofs.Ytdooageiopnhaaa
