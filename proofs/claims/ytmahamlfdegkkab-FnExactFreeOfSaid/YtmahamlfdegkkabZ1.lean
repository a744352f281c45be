/- Contracts of chapter 3: free variables. -/
import Derived.Test.YtmahamlfdegkkabZ0
import Derived.Test.YtmahamlfdegkkabIm
import Derived.Test.YtmahamlfdegkkabT8
namespace Go.Proofs.Ytmahamlfdegkkab
open Go.RowKit Go.BigFrame
theorem own_in {w w' : World} {base : Nat} {v : Value} {xs : List Int} (h : Own w base v xs) (hB : Below w.heap.size w w') : Own w' base v xs := h.keep (Same.of_below hB (Nat.le_refl _))
theorem frees_cases (n o m : Int) : (o = 12 ∧ 0 ≤ m ∧ m < n ∧ frees n o m = true) ∨ (o = 12 ∧ 0 ≤ m ∧ n ≤ m ∧ frees n o m = false) ∨ (o = 12 ∧ m < 0 ∧ frees n o m = false) ∨ (¬ o = 12 ∧ frees n o m = false) := by
  unfold frees
  by_cases h1 : o = 12
  · by_cases h2 : 0 ≤ m
    · by_cases h3 : m < n
      · exact .inl ⟨h1, h2, h3, by simp [h1, h2, h3]⟩
      · exact .inr (.inl ⟨h1, h2, by omega, by simp [h3]⟩)
    · exact .inr (.inr (.inl ⟨h1, by omega, by simp [h2]⟩))
  · exact .inr (.inr (.inr ⟨h1, by simp [h1]⟩))
set_option maxHeartbeats 1600000 in
theorem withFree_any {w0 : World} {L U : Nat} {u : Value} {ks : List Ex} (h : Exs w0 L U u ks) (n : Int) : ∀ (o m : Int) (acc : List Int) (v : Value) (base : Nat) (w : World), Same L U w0 w → U ≤ w.heap.size → Own w base v acc → base ≤ w.heap.size → Asc acc → acc.length + sumL one_ ks ≤ 100000 →
    Calls Try.prog 43 #[v, .agg #[.int .i64 o, .int .i64 m, u], .int .i64 n] w fun e w' => ∃ u', e = .returned u' ∧ Below w.heap.size w w' ∧ Own w' base u' (freeL n (cond (frees n o m) (ins m acc) acc) ks) := by
  induction h with
  | mk A c V es r hk ih =>
    intro o m acc v base w hS hU hown hb ha hlim
    have hl := r.le
    have hc : c ≤ 9223372036854775807 := r.cap
    have HS := Lib.hid fun i (hi : i < es.length) => (hk i hi).open_
    obtain ⟨B', d', rfl, hl', hd'⟩ := hown.ints.open_
    obtain ⟨W0, hW0⟩ : ∃ W0, W0 = w.alloc (.cells #[.int .i64 o, .int .i64 m, .slice A es.length c] 29) := ⟨_, rfl⟩
    have hB0 : Below w.heap.size w W0 := by rw [hW0]; exact (Below.refl _ w).alloc (Nat.le_refl _) _
    have hz0 : W0.heap.size = w.heap.size + 1 := by rw [hW0]; simp
    have hbox : W0.heap[w.heap.size]? = some (.cells #[.int .i64 o, .int .i64 m, .slice A es.length c] 29 (0, 0)) := by rw [hW0]; exact alloc_last _ _ _ rfl
    have HX := Lib.hid hbox
    have IH := Lib.hid ih
    have ho0 := own_in hown hB0
    obtain ⟨ya, yl⟩ := head_ok (n := n) (o := o) (m := m) ha
    have HO := Lib.hid ho0
    clear ih hk hown ho0 hbox
    obtain ⟨acc', hacc⟩ : ∃ acc', cond (frees n o m) (ins m acc) acc = acc' := ⟨_, rfl⟩
    rw [hacc] at ya yl ⊢
    -- the loop over the kids, whatever the head has done
    have HA := Lib.hid (And.intro ya (show acc'.length + sumL one_ es ≤ 100001 by omega))
    have HACC := Lib.hid hacc
    have HLIM := Lib.hid (And.intro ha hlim)
    clear ya yl hacc hlim
    rcases frees_cases n o m with ⟨rfl, h1, h2, hf⟩ | ⟨rfl, h1, h2, hf⟩ | ⟨rfl, h1, hf⟩ | ⟨h1, hf⟩
    all_goals (
      have HF := Lib.hid hf
      clear hf
      go_enter Try.func43, Try.ntmps43
      go_wp2_with fail
      rw [← hW0]
      clear hW0)
    · refine (withInt_any _ _ _ _ _ W0 HO.out.ints (Nat.le_refl _) HLIM.out.1 (by have := HLIM.out.2; omega)).mono ?_
      rintro e w1 ⟨u1, rfl, hB1, ho1⟩
      have e1 : ins m acc = acc' := by have h1 := HACC.out; have h2 := HF.out; rw [h2] at h1; exact h1
      rw [e1] at ho1
      obtain ⟨X1, x1, rfl, _, _⟩ := ho1.ints.open_
      have HB1 := Lib.hid (hB0.trans (hB1.mono (by omega)))
      have HO1 := Lib.hid (ho1.wide (base' := base) (by omega))
      have cb := cell_of_row w1 w.heap.size 2 _ _ (0, 0) ((hB1.block _ (by omega)).trans HX.out)
      simp only [List.getElem?_toArray, List.getElem?_cons_zero, List.getElem?_cons_succ] at cb
      clear hB1 ho1 e1
      go_wp2_with fail
      go_loopw [7, 32] (fun q i wr => ∃ k : Nat, k ≤ es.length ∧ i = .int .i64 k ∧ Own wr base q (freeL n acc' (es.take k)) ∧ Below w1.heap.size w1 wr) (fun _ i _ => es.length - (intOf i).toNat)
      case atStart => exact ⟨0, by omega, rfl, HO1.out, Below.refl _ _⟩
      case round =>
        obtain ⟨k, hk, rfl, hown, hB⟩ := hrel
        have hz := hB.size
        have hw := HB1.out.trans (hB.mono HB1.out.size)
        by_cases hlt : k < es.length
        · have hS1 : Same L U w0 wr := hS.trans (Same.of_below hw hU)
          obtain ⟨b, oo, rfl, _, hb, c0, c1, c2⟩ := row_at (r.keep hS1) hlt
          obtain ⟨A', c', hV, _, _⟩ := HS.out k hlt
          obtain ⟨fa, fl⟩ := freeL_ok n (es.take k) acc' HA.out.1
          have st := sumL_step one_ hlt
          rw [sum_eq] at st
          have o1 : one_ (nthX es k).op (nthX es k).num = 1 := rfl
          have tk := sumL_take one_ es (k + 1)
          have ha2 := HA.out.2
          have NX : Hid (freeL n acc' (es.take (k + 1)) = freeL n (cond (frees n (nthX es k).op (nthX es k).num) (ins (nthX es k).num (freeL n acc' (es.take k))) (freeL n acc' (es.take k))) (nthX es k).kids) := by show _ = _; rw [freeL_step n acc' hlt, free_eq]
          obtain ⟨acc2, h2⟩ : ∃ acc2, freeL n acc' (es.take k) = acc2 := ⟨_, rfl⟩
          rw [h2] at fa fl hown NX
          obtain ⟨X2, x2, rfl, _, _⟩ := hown.ints.open_
          have hB3 := hB.alloc hz (.cells #[.int .i64 (nthX es k).op, .int .i64 (nthX es k).num, .slice A' (nthX es k).kids.length c'] 29)
          have hBa := (Below.refl wr.heap.size wr).alloc (Nat.le_refl _) (.cells #[.int .i64 (nthX es k).op, .int .i64 (nthX es k).num, .slice A' (nthX es k).kids.length c'] 29)
          have IHk := IH.out k hlt (nthX es k).op (nthX es k).num acc2 (.slice X2 acc2.length x2) base _ (hS.trans (Same.of_below (HB1.out.trans (hB3.mono HB1.out.size)) hU)) (by have := hB3.size; have := HB1.out.size; omega) (own_in hown hBa) (by have := hB3.size; have := HB1.out.size; omega) fa (by omega)
          rw [hV] at c2 IHk
          have CK := Lib.hid IHk
          have HB3 := Lib.hid hB3
          clear fa fl st o1 tk ha2 h2 IHk hown hV hS1 hB3 hBa hB hw
          go_wp2_with fail
          refine CK.out.mono ?_
          rintro e w2 ⟨u2, rfl, hB2, ho2⟩
          have HH := Lib.hid (And.intro ho2 (HB3.out.trans (hB2.mono HB3.out.size)))
          clear hB2 ho2 CK
          go_wp2_with fail
          go_roundw
          case rel => exact ⟨k + 1, by omega, by go_num, by rw [NX.out]; exact HH.out.1, HH.out.2⟩
          case measure => simp [intOf]; omega
        · rw [freeL_all n acc' hlt] at hown
          go_wp2_with fail
          go_ret
          exact ⟨_, rfl, hw, hown⟩
    all_goals (
      have e1 : acc = acc' := by have h1 := HACC.out; have h2 := HF.out; rw [h2] at h1; exact h1
      obtain ⟨w1, hw1⟩ : ∃ w1, w1 = W0 := ⟨_, rfl⟩
      rw [← hw1]
      have HB1 : Hid (Below w.heap.size w w1) := by rw [hw1]; exact hB0
      have HO1 : Hid (Own w1 base (.slice B' acc.length d') acc') := by rw [hw1, ← e1]; exact HO.out
      clear hw1 e1
      go_loopw [7, 32] (fun q i wr => ∃ k : Nat, k ≤ es.length ∧ i = .int .i64 k ∧ Own wr base q (freeL n acc' (es.take k)) ∧ Below w1.heap.size w1 wr) (fun _ i _ => es.length - (intOf i).toNat)
      case atStart => exact ⟨0, by omega, rfl, HO1.out, Below.refl _ _⟩
      case round =>
        obtain ⟨k, hk, rfl, hown, hB⟩ := hrel
        have hz := hB.size
        have hw := HB1.out.trans (hB.mono HB1.out.size)
        by_cases hlt : k < es.length
        · have hS1 : Same L U w0 wr := hS.trans (Same.of_below hw hU)
          obtain ⟨b, oo, rfl, _, hb, c0, c1, c2⟩ := row_at (r.keep hS1) hlt
          obtain ⟨A', c', hV, _, _⟩ := HS.out k hlt
          obtain ⟨fa, fl⟩ := freeL_ok n (es.take k) acc' HA.out.1
          have st := sumL_step one_ hlt
          rw [sum_eq] at st
          have o1 : one_ (nthX es k).op (nthX es k).num = 1 := rfl
          have tk := sumL_take one_ es (k + 1)
          have ha2 := HA.out.2
          have NX : Hid (freeL n acc' (es.take (k + 1)) = freeL n (cond (frees n (nthX es k).op (nthX es k).num) (ins (nthX es k).num (freeL n acc' (es.take k))) (freeL n acc' (es.take k))) (nthX es k).kids) := by show _ = _; rw [freeL_step n acc' hlt, free_eq]
          obtain ⟨acc2, h2⟩ : ∃ acc2, freeL n acc' (es.take k) = acc2 := ⟨_, rfl⟩
          rw [h2] at fa fl hown NX
          obtain ⟨X2, x2, rfl, _, _⟩ := hown.ints.open_
          have hB3 := hB.alloc hz (.cells #[.int .i64 (nthX es k).op, .int .i64 (nthX es k).num, .slice A' (nthX es k).kids.length c'] 29)
          have hBa := (Below.refl wr.heap.size wr).alloc (Nat.le_refl _) (.cells #[.int .i64 (nthX es k).op, .int .i64 (nthX es k).num, .slice A' (nthX es k).kids.length c'] 29)
          have IHk := IH.out k hlt (nthX es k).op (nthX es k).num acc2 (.slice X2 acc2.length x2) base _ (hS.trans (Same.of_below (HB1.out.trans (hB3.mono HB1.out.size)) hU)) (by have := hB3.size; have := HB1.out.size; omega) (own_in hown hBa) (by have := hB3.size; have := HB1.out.size; omega) fa (by omega)
          rw [hV] at c2 IHk
          have CK := Lib.hid IHk
          have HB3 := Lib.hid hB3
          clear fa fl st o1 tk ha2 h2 IHk hown hV hS1 hB3 hBa hB hw
          go_wp2_with fail
          refine CK.out.mono ?_
          rintro e w2 ⟨u2, rfl, hB2, ho2⟩
          have HH := Lib.hid (And.intro ho2 (HB3.out.trans (hB2.mono HB3.out.size)))
          clear hB2 ho2 CK
          go_wp2_with fail
          go_roundw
          case rel => exact ⟨k + 1, by omega, by go_num, by rw [NX.out]; exact HH.out.1, HH.out.2⟩
          case measure => simp [intOf]; omega
        · rw [freeL_all n acc' hlt] at hown
          go_wp2_with fail
          go_ret
          exact ⟨_, rfl, hw, hown⟩)
end Go.Proofs.Ytmahamlfdegkkab
