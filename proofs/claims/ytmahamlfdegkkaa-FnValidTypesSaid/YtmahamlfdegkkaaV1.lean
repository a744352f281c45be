/- The walk of the law FnValidTypes. -/
import Derived.Test.YtmahamlfdegkkaaL
import Derived.Test.YtmahamlfdegkkaaAp
namespace Go.Proofs.Ytmahamlfdegkkaa
open Go.RowKit Go.BigFrame
set_option maxHeartbeats 800000 in
theorem fnValidTypes_walk (A : Option Addr) (n c : Nat) (w : World) (h : Code_ w A n c) :
    Calls Try.prog 3 #[.slice A n c] w fun e w' => e = .returned (.bool true) ∧ Below w.heap.size w w' := by
  by_cases hbig : 1048576 < n
  · go_enter Try.func3, Try.ntmps3
    go_wp2_with fail
    go_ret
    exact ⟨rfl, Below.refl _ _⟩
  · have Hc := Lib.hid h
    clear h
    go_enter Try.func3, Try.ntmps3
    go_wp2_with fail
    refine (drawValidTypes A n c w Hc.out).mono ?_
    rintro e w1 ⟨v, ds, rfl, hl, hd, hB1⟩
    obtain ⟨B, cc, rfl, hlc, hcc⟩ := hd.open_
    rcases hb : typesOk ds with _ | _
    · have H := Lib.hid hb
      clear hb
      go_wp2_with (first | (go_at_call 16; refine (validTypes_is _ _ _ _ _ _ hd (Nat.le_refl _) H.out).mono ?_; rintro e w2 ⟨rfl, hB2⟩; have hd2 := hd.keep (Same.of_below hB2 (Nat.le_refl _))) | (go_at_call 17; refine (sValidTypesTop _ _ _ _ _ hd2 hB2.size).mono ?_; rintro e w3 ⟨rfl, hB3⟩; rw [H.out]))
      refine (sValidTypesTop _ _ _ _ w3 (hd2.keep (Same.of_below hB3 hB2.size)) (Nat.le_trans hB2.size hB3.size)).mono ?_
      rintro e w4 ⟨rfl, hB4⟩
      rw [H.out]
      go_wp2_with fail
      go_ret
      exact ⟨rfl, hB1.trans ((hB2.mono hB1.size).trans ((hB3.mono (Nat.le_trans hB1.size hB2.size)).trans (hB4.mono (Nat.le_trans hB1.size (Nat.le_trans hB2.size hB3.size)))))⟩
    · have H := Lib.hid hb
      clear hb
      go_wp2_with fail
      refine (validTypes_is _ _ _ _ _ _ hd (Nat.le_refl _) H.out).mono ?_
      rintro e w2 ⟨rfl, hB2⟩
      have hd2 := hd.keep (Same.of_below hB2 (Nat.le_refl _))
      go_wp2_with fail
      refine (sValidTypesTop _ _ _ _ _ hd2 hB2.size).mono ?_
      rintro e w3 ⟨rfl, hB3⟩
      rw [H.out]
      have hB3' : Below w.heap.size w w3 := hB1.trans ((hB2.mono hB1.size).trans (hB3.mono (Nat.le_trans hB1.size hB2.size)))
      have hd3 := hd2.keep (Same.of_below hB3 hB2.size)
      have hU3 := Nat.le_trans hB2.size hB3.size
      have hW3 := hB3'.size
      clear hd hd2 hB1 hB2 hB3
      obtain ⟨i0, hi, hz0, hz1, hz2⟩ := info_parts infoDecl
      obtain ⟨_, _, V, hv, hr, hcs⟩ := hd3
      injection hv with hv1 hv2 hv3
      subst hv1 hv3
      have hown := World.ownsRow_lit (base := w3.heap.size) (e := 31) (size := 3) w3 #[] 0 (Nat.le_refl _) (by simp [maxLen]) rfl
      have hr3 := hr.keep (Same.of_below ((Below.refl w3.heap.size w3).alloc (Nat.le_refl _) (.cells #[] 31)) hU3)
      go_wp2_with (at_builtin; refine wpList_append_row rfl (.tmp 25) (.tmp 26) 23 rfl w3.heap.size 31 i0 (.agg #[.int .i64 0, .int .i64 0, .slice none 0 0]) 3 40 Try.underlying23 hi hz0 hz1 hz2 rfl (by decide) _ _ _ rfl hown _ _ _ _ _ _ rfl hr3 ?c2 ?c3 ?c4 ?c5 ?_)
      case c2 => exact fun i j hi' _ => decCell_one (hcs i hi') _ j
      case c3 => unfold maxLen; omega
      case c4 => omega
      case c5 => simp
      intro u' w4 hown4 hg4
      have hB4 : Below w3.heap.size w3 w4 := Below.own ((Below.refl w3.heap.size w3).alloc (Nat.le_refl _) _) hown hg4 (Nat.le_refl _) (by simp)
      have hz4 := hB4.size
      have Hown := Lib.hid hown4
      clear hr3 hown hg4 hv2 hown4
      go_wp2_with (at_builtin; refine wpList_append_own_at _ rfl (.tmp 27) (.tmp 32) 23 rfl w3.heap.size 31 i0 (.agg #[.int .i64 0, .int .i64 0, .slice none 0 0]) 3 40 Try.underlying23 hi hz0 hz1 hz2 rfl (by decide) _ _ _ rfl (((Hown.out.alloc _).alloc _).alloc _) ⟨w4.heap.size + 2, 0, none⟩ 1 1 [.int .i64 0, .int .i64 0, .slice (some ⟨w4.heap.size + 1, 0, none⟩) 1 1] rfl rfl ?c1 ?c2 ?c3 ?c4 ?c5 ?_)
      case c1 => exact World.news_of_block (fr := (0, 0)) (alloc_last _ _ _ (by simp))
      case c2 => intro u hu; simp at hu; rcases hu with rfl | rfl | rfl <;> rfl
      case c3 => unfold maxLen; omega
      case c4 => omega
      case c5 => simp; omega
      intro v' w5 hown5 hg5 _ _
      have hlk : ∀ k, u'.ownBlock = some k → w3.heap.size ≤ k ∧ k < w4.heap.size := fun k hk => by have := Hown.out.lt k hk; omega
      have hbl : ∀ b, b < w4.heap.size + 3 → (b < w3.heap.size ∨ w4.heap.size ≤ b) → w5.heap[b]? = (((w4.alloc (.cells #[.int .i64 0] 3)).alloc (.cells #[.slice (some ⟨w4.heap.size, 0, none⟩) 1 1] 28)).alloc (.cells #[.int .i64 0, .int .i64 0, .slice (some ⟨w4.heap.size + 1, 0, none⟩) 1 1] 31)).heap[b]? := fun b hb hor => hg5.block b (by simpa using hb) (fun e => by have := hlk b e.symm; omega)
      have hsz5 : w4.heap.size + 3 ≤ w5.heap.size := by have := hg5.size; simpa using this
      have hB5 : Below w3.heap.size w3 w5 := Below.own (((hB4.alloc hz4 _).alloc (by simp; omega) _).alloc (by simp; omega) _) (((Hown.out.alloc _).alloc _).alloc _) hg5 (Nat.le_refl _) (by simp; omega)
      have hcon : Cons w5 w.heap.size w5.heap.size (.slice (some ⟨w4.heap.size + 1, 0, none⟩) 1 1) [[0]] := by
        refine cons_lit [[0]] [.slice (some ⟨w4.heap.size, 0, none⟩) 1 1] (T := 28) ((hbl _ (by omega) (.inr (by omega))).trans ((Below.heap_alloc _ _ _ (by simp)).trans (alloc_last _ _ _ (by simp)))) rfl (fun i hi => ?_) (by omega) (by omega) (by simp)
        obtain rfl : i = 0 := by simp at hi; omega
        exact ints_lit [0] (T := 3) ((hbl _ (by omega) (.inr (by omega))).trans ((Below.heap_alloc _ _ _ (by simp; omega)).trans ((Below.heap_alloc _ _ _ (by simp)).trans (alloc_last _ _ _ rfl)))) (by omega) (by omega) (by simp)
      have hS5 : Same w.heap.size w1.heap.size w3 w5 := Same.of_below hB5 hU3
      have hd5 : Decs w5 w.heap.size w5.heap.size v' (ds ++ [⟨0, 0, [[0]]⟩]) := decs_pushed (d := ⟨0, 0, [[0]]⟩) hown5 hW3 (fun i hi' => ((hcs i hi').keep hS5).wide (Nat.le_refl _) (by omega)) hcon
      have h4 := typesOk_four H.out
      have hT := typesOk_push (d := ⟨0, 0, [[0]]⟩) H.out (by decide) rfl rfl (by simp [consOk, isTy]; omega)
      have HT := Lib.hid hT
      obtain ⟨X, xc, hX, _, _⟩ := hd5.open_
      rw [show (ds ++ [(⟨0, 0, [[0]]⟩ : Dec)]).length = ds.length + 1 by simp] at hX
      subst hX
      have HD := Lib.hid hd5
      have HB := Lib.hid (hB3'.trans (hB5.mono hW3))
      clear hown5 hg5 hbl hcon hS5 hd5 hB5 hlk hT hr hcs hz4
      by_cases hlt : ds.length < 4
      · go_wp2_with fail
        refine (validTypes_is true _ _ _ _ _ HD.out (Nat.le_refl _) (HT.out.trans (decide_eq_true hlt))).mono ?_
        rintro e w6 ⟨rfl, hB6⟩
        have HB6 := Lib.hid (HB.out.trans (hB6.mono HB.out.size))
        clear hB6
        go_wp2_with fail
        go_ret
        exact ⟨ret_bool (by simp; omega), HB6.out⟩
      · go_wp2_with fail
        refine (validTypes_is false _ _ _ _ _ HD.out (Nat.le_refl _) (HT.out.trans (decide_eq_false hlt))).mono ?_
        rintro e w6 ⟨rfl, hB6⟩
        have HB6 := Lib.hid (HB.out.trans (hB6.mono HB.out.size))
        clear hB6
        go_wp2_with fail
        go_ret
        exact ⟨ret_bool (by simp; omega), HB6.out⟩
end Go.Proofs.Ytmahamlfdegkkaa
