/- Contracts of chapter 3: free variables, as the model finds them; FreeOf from outside. -/
import Derived.Test.YtmahamlfdegkkabZ1
namespace Go.Proofs.Ytmahamlfdegkkab
open Go.RowKit Go.BigFrame
set_option maxHeartbeats 1600000 in
theorem addFree_any {w0 : World} {L U : Nat} {u : Value} {ks : List Ex} (h : Exs w0 L U u ks) (n : Int) : ∀ (o m : Int) (acc : List Int) (v : Value) (base : Nat) (w : World), Same L U w0 w → U ≤ w.heap.size → Own w base v acc → base ≤ w.heap.size → Asc acc → acc.length + sumL one_ ks ≤ 100000 →
    Calls Try.prog 42 #[.agg #[.int .i64 o, .int .i64 m, u], .int .i64 n, v] w fun e w' => ∃ u', e = .returned u' ∧ Below w.heap.size w w' ∧ Own w' base u' (freeL n (cond (frees n o m) (ins m acc) acc) ks) := by
  induction h with
  | mk A c V es r hk ih =>
    intro o m acc v base w hS hU hown hb ha hlim
    have hl := r.le
    have hc : c ≤ 9223372036854775807 := r.cap
    have HS := Lib.hid fun i (hi : i < es.length) => (hk i hi).open_
    obtain ⟨B', d', rfl, hl', hd'⟩ := hown.ints.open_
    obtain ⟨W0, hW0⟩ : ∃ W0, W0 = w.alloc (.cells #[.int .i64 o, .int .i64 m, .slice A es.length c] 29) := ⟨_, rfl⟩
    have hB0 : Below w.heap.size w W0 := by rw [hW0]; exact (Below.refl _ w).alloc (Nat.le_refl _) _
    have hz0 : W0.heap.size = w.heap.size + 1 := by rw [hW0]; simp
    have hbox : W0.heap[w.heap.size]? = some (.cells #[.int .i64 o, .int .i64 m, .slice A es.length c] 29 (0, 0)) := by rw [hW0]; exact alloc_last _ _ _ rfl
    have HX := Lib.hid hbox
    have IH := Lib.hid ih
    have ho0 := own_in hown hB0
    obtain ⟨ya, yl⟩ := head_ok (n := n) (o := o) (m := m) ha
    have HO := Lib.hid ho0
    clear ih hk hown ho0 hbox
    obtain ⟨acc', hacc⟩ : ∃ acc', cond (frees n o m) (ins m acc) acc = acc' := ⟨_, rfl⟩
    rw [hacc] at ya yl ⊢
    -- the loop over the kids, whatever the head has done
    have HA := Lib.hid (And.intro ya (show acc'.length + sumL one_ es ≤ 100001 by omega))
    have HACC := Lib.hid hacc
    have HLIM := Lib.hid (And.intro ha hlim)
    clear ya yl hacc hlim
    rcases frees_cases n o m with ⟨rfl, h1, h2, hf⟩ | ⟨rfl, h1, h2, hf⟩ | ⟨rfl, h1, hf⟩ | ⟨h1, hf⟩
    all_goals (
      have HF := Lib.hid hf
      clear hf
      go_enter Try.func42, Try.ntmps42
      go_wp2_with fail
      rw [← hW0]
      clear hW0)
    · refine (insert_any _ _ _ _ _ W0 HO.out.ints (Nat.le_refl _) HLIM.out.1 (by have := HLIM.out.2; omega)).mono ?_
      rintro e w1 ⟨u1, rfl, hB1, ho1⟩
      have e1 : ins m acc = acc' := by have h1 := HACC.out; have h2 := HF.out; rw [h2] at h1; exact h1
      rw [e1] at ho1
      obtain ⟨X1, x1, rfl, _, _⟩ := ho1.ints.open_
      have HB1 := Lib.hid (hB0.trans (hB1.mono (by omega)))
      have HO1 := Lib.hid (ho1.wide (base' := base) (by omega))
      have HC1 := Lib.hid ((three ((hB1.block _ (by omega)).trans HX.out)).2.2)
      have z1 : w.heap.size < w1.heap.size := by have := hB1.size; omega
      clear hB1 ho1 e1
      go_wp2_with fail
      go_loopw [2, 7] (fun q i wr => ∃ k : Nat, k ≤ es.length ∧ i = .int .i64 k ∧ Own wr base q (freeL n acc' (es.take k)) ∧ Below w1.heap.size w1 wr) (fun _ i _ => es.length - (intOf i).toNat)
      case atStart => exact ⟨0, by omega, rfl, HO1.out, Below.refl _ _⟩
      case round =>
        obtain ⟨k, hk, rfl, hown, hB⟩ := hrel
        have hz := hB.size
        have hw := HB1.out.trans (hB.mono HB1.out.size)
        have cb := (hB.cell (p := ⟨w.heap.size, 2, none⟩) z1).trans HC1.out
        by_cases hlt : k < es.length
        · have hS1 : Same L U w0 wr := hS.trans (Same.of_below hw hU)
          obtain ⟨b, oo, rfl, _, hb, c0, c1, c2⟩ := row_at (r.keep hS1) hlt
          obtain ⟨A', c', hV, _, _⟩ := HS.out k hlt
          obtain ⟨fa, fl⟩ := freeL_ok n (es.take k) acc' HA.out.1
          have st := sumL_step one_ hlt
          rw [sum_eq] at st
          have o1 : one_ (nthX es k).op (nthX es k).num = 1 := rfl
          have tk := sumL_take one_ es (k + 1)
          have ha2 := HA.out.2
          have NX : Hid (freeL n acc' (es.take (k + 1)) = freeL n (cond (frees n (nthX es k).op (nthX es k).num) (ins (nthX es k).num (freeL n acc' (es.take k))) (freeL n acc' (es.take k))) (nthX es k).kids) := by show _ = _; rw [freeL_step n acc' hlt, free_eq]
          obtain ⟨acc2, h2⟩ : ∃ acc2, freeL n acc' (es.take k) = acc2 := ⟨_, rfl⟩
          rw [h2] at fa fl hown NX
          obtain ⟨X2, x2, rfl, _, _⟩ := hown.ints.open_
          have IHk := IH.out k hlt (nthX es k).op (nthX es k).num acc2 (.slice X2 acc2.length x2) base wr hS1 (by have := HB1.out.size; omega) hown (by have := HB1.out.size; omega) fa (by omega)
          rw [hV] at c2 IHk
          have CK := Lib.hid IHk
          have HB3 := Lib.hid hB
          clear fa fl st o1 tk ha2 h2 IHk hown hV hS1 hB hw
          go_wp2_with fail
          refine CK.out.mono ?_
          rintro e w2 ⟨u2, rfl, hB2, ho2⟩
          have HH := Lib.hid (And.intro ho2 (HB3.out.trans (hB2.mono hz)))
          clear hB2 ho2 CK cb
          go_wp2_with fail
          go_roundw
          case rel => exact ⟨k + 1, by omega, by go_num, by rw [NX.out]; exact HH.out.1, HH.out.2⟩
          case measure => simp [intOf]; omega
        · rw [freeL_all n acc' hlt] at hown
          go_wp2_with fail
          go_ret
          exact ⟨_, rfl, hw, hown⟩
    all_goals (
      have e1 : acc = acc' := by have h1 := HACC.out; have h2 := HF.out; rw [h2] at h1; exact h1
      obtain ⟨w1, hw1⟩ : ∃ w1, w1 = W0 := ⟨_, rfl⟩
      rw [← hw1]
      have HB1 : Hid (Below w.heap.size w w1) := by rw [hw1]; exact hB0
      have HO1 : Hid (Own w1 base (.slice B' acc.length d') acc') := by rw [hw1, ← e1]; exact HO.out
      have HC1 : Hid (w1.cell? ⟨w.heap.size, 2, none⟩ = some (.slice A es.length c)) := by rw [hw1]; exact (three HX.out).2.2
      have z1 : w.heap.size < w1.heap.size := by rw [hw1]; omega
      clear hw1 e1
      go_loopw [2, 7] (fun q i wr => ∃ k : Nat, k ≤ es.length ∧ i = .int .i64 k ∧ Own wr base q (freeL n acc' (es.take k)) ∧ Below w1.heap.size w1 wr) (fun _ i _ => es.length - (intOf i).toNat)
      case atStart => exact ⟨0, by omega, rfl, HO1.out, Below.refl _ _⟩
      case round =>
        obtain ⟨k, hk, rfl, hown, hB⟩ := hrel
        have hz := hB.size
        have hw := HB1.out.trans (hB.mono HB1.out.size)
        have cb := (hB.cell (p := ⟨w.heap.size, 2, none⟩) z1).trans HC1.out
        by_cases hlt : k < es.length
        · have hS1 : Same L U w0 wr := hS.trans (Same.of_below hw hU)
          obtain ⟨b, oo, rfl, _, hb, c0, c1, c2⟩ := row_at (r.keep hS1) hlt
          obtain ⟨A', c', hV, _, _⟩ := HS.out k hlt
          obtain ⟨fa, fl⟩ := freeL_ok n (es.take k) acc' HA.out.1
          have st := sumL_step one_ hlt
          rw [sum_eq] at st
          have o1 : one_ (nthX es k).op (nthX es k).num = 1 := rfl
          have tk := sumL_take one_ es (k + 1)
          have ha2 := HA.out.2
          have NX : Hid (freeL n acc' (es.take (k + 1)) = freeL n (cond (frees n (nthX es k).op (nthX es k).num) (ins (nthX es k).num (freeL n acc' (es.take k))) (freeL n acc' (es.take k))) (nthX es k).kids) := by show _ = _; rw [freeL_step n acc' hlt, free_eq]
          obtain ⟨acc2, h2⟩ : ∃ acc2, freeL n acc' (es.take k) = acc2 := ⟨_, rfl⟩
          rw [h2] at fa fl hown NX
          obtain ⟨X2, x2, rfl, _, _⟩ := hown.ints.open_
          have IHk := IH.out k hlt (nthX es k).op (nthX es k).num acc2 (.slice X2 acc2.length x2) base wr hS1 (by have := HB1.out.size; omega) hown (by have := HB1.out.size; omega) fa (by omega)
          rw [hV] at c2 IHk
          have CK := Lib.hid IHk
          have HB3 := Lib.hid hB
          clear fa fl st o1 tk ha2 h2 IHk hown hV hS1 hB hw
          go_wp2_with fail
          refine CK.out.mono ?_
          rintro e w2 ⟨u2, rfl, hB2, ho2⟩
          have HH := Lib.hid (And.intro ho2 (HB3.out.trans (hB2.mono hz)))
          clear hB2 ho2 CK cb
          go_wp2_with fail
          go_roundw
          case rel => exact ⟨k + 1, by omega, by go_num, by rw [NX.out]; exact HH.out.1, HH.out.2⟩
          case measure => simp [intOf]; omega
        · rw [freeL_all n acc' hlt] at hown
          go_wp2_with fail
          go_ret
          exact ⟨_, rfl, hw, hown⟩)
set_option maxHeartbeats 400000 in
theorem freeOfOwn {w : World} {L U : Nat} {u : Value} {ks : List Ex} (h : Exs w L U u ks) (o m n : Int) (hU : U ≤ w.heap.size) :
    Calls Try.prog 18 #[.agg #[.int .i64 o, .int .i64 m, u], .int .i64 n] w fun e w' => ∃ u', e = .returned u' ∧ Below w.heap.size w w' ∧ Own w' w.heap.size u' (freeV n o m ks) := by
  have HB := Lib.hid fun O => (Below.refl w.heap.size w).alloc (Nat.le_refl _) O
  have HN := Lib.hid fun O => nodesTop (h.keep (Same.of_below ((Below.refl w.heap.size w).alloc (Nat.le_refl _) O) hU)) o m (by simp; omega)
  have HM := Lib.hid fun (h30 : 1 + sumL one_ ks ≤ 30) (W : World) (hB : Below w.heap.size w W) => withFree_any h n o m [] (.slice none 0 0) w.heap.size W (Same.of_below hB hU) (by have := hB.size; omega) (Own.nil _ _) hB.size asc_nil (by simp; omega)
  clear h
  by_cases h30 : 1 + sumL one_ ks ≤ 30
  · obtain ⟨x, hx⟩ : ∃ x : Nat, nodesOfV ks = (x : Int) := ⟨1 + sumL one_ ks, by unfold nodesOfV; rw [if_pos h30]⟩
    have hV : freeV n o m ks = freeL n (cond (frees n o m) (ins m []) []) ks := by unfold freeV; rw [if_pos h30]
    rw [hV]
    rw [hx] at HN
    have HM := Lib.hid (HM.out h30)
    obtain ⟨y, hy⟩ : ∃ y, freeL n (cond (frees n o m) (ins m []) []) ks = y := ⟨_, rfl⟩
    rw [hy] at HM ⊢
    clear hx hV h30 hy
    go_enter Try.func18, Try.ntmps18
    go_wp2_with fail
    refine (HN.out _).mono ?_
    rintro e w1 ⟨rfl, hB1⟩
    have B1 := (HB.out _).trans (hB1.mono (HB.out _).size)
    obtain ⟨q0, q1, q2⟩ := three ((hB1.block w.heap.size (by simp)).trans (alloc_last _ _ _ rfl))
    clear hB1
    go_wp2_with fail
    refine (HM.out w1 B1).mono ?_
    rintro e w2 ⟨u2, rfl, hB2, ho2⟩
    have B2 := B1.trans (hB2.mono B1.size)
    have HH := Lib.hid (And.intro B2 ho2)
    clear B2 hB2 ho2
    go_wp2_with fail
    go_ret
    exact ⟨_, rfl, HH.out.1, HH.out.2⟩
  · rw [show freeV n o m ks = [] by unfold freeV; rw [if_neg h30]]
    rw [show nodesOfV ks = -1 by unfold nodesOfV; rw [if_neg h30]] at HN
    go_enter Try.func18, Try.ntmps18
    go_wp2_with fail
    refine (HN.out _).mono ?_
    rintro e w1 ⟨rfl, hB1⟩
    have B1 := (HB.out _).trans (hB1.mono (HB.out _).size)
    go_wp2_with fail
    go_ret
    exact ⟨_, rfl, B1, Own.nil _ _⟩
set_option maxHeartbeats 400000 in
theorem sFreeOfTop {w : World} {L U : Nat} {u : Value} {ks : List Ex} (h : Exs w L U u ks) (o m n : Int) (hU : U ≤ w.heap.size) :
    Calls Try.prog 17 #[.agg #[.int .i64 o, .int .i64 m, u], .int .i64 n] w fun e w' => ∃ u', e = .returned u' ∧ Below w.heap.size w w' ∧ Ints w' w.heap.size w'.heap.size u' (freeV n o m ks) := by
  have HB := Lib.hid fun O => (Below.refl w.heap.size w).alloc (Nat.le_refl _) O
  have HN := Lib.hid fun O => sNodes_any (h.keep (Same.of_below ((Below.refl w.heap.size w).alloc (Nat.le_refl _) O) hU)) o m (by simp; omega)
  have HM := Lib.hid fun (h30 : 1 + sumL one_ ks ≤ 30) (W : World) (g : Nat) (hB : Below w.heap.size w W) (ho : Own W w.heap.size (.slice (some ⟨g, 0, none⟩) 0 0) []) => addFree_any h n o m [] (.slice (some ⟨g, 0, none⟩) 0 0) w.heap.size W (Same.of_below hB hU) (by have := hB.size; omega) ho hB.size asc_nil (by simp; omega)
  clear h
  by_cases h30 : 1 + sumL one_ ks ≤ 30
  · obtain ⟨x, hx⟩ : ∃ x : Nat, nodesOfV ks = (x : Int) := ⟨1 + sumL one_ ks, by unfold nodesOfV; rw [if_pos h30]⟩
    have hV : freeV n o m ks = freeL n (cond (frees n o m) (ins m []) []) ks := by unfold freeV; rw [if_pos h30]
    rw [hV]
    rw [hx] at HN
    have HM := Lib.hid (HM.out h30)
    obtain ⟨y, hy⟩ : ∃ y, freeL n (cond (frees n o m) (ins m []) []) ks = y := ⟨_, rfl⟩
    rw [hy] at HM ⊢
    clear hx hV h30 hy
    go_enter Try.func17, Try.ntmps17
    go_wp2_with fail
    refine (HN.out _).mono ?_
    rintro e w1 ⟨rfl, hB1⟩
    have B1 := (HB.out _).trans (hB1.mono (HB.out _).size)
    obtain ⟨q0, q1, q2⟩ := three ((hB1.block w.heap.size (by simp)).trans (alloc_last _ _ _ rfl))
    clear hB1
    go_wp2_with fail
    have B1a := B1.alloc B1.size (.cells #[] 3)
    refine (HM.out _ w1.heap.size B1a (Own.of (n := 0) (World.ownsRow_lit (base := w.heap.size) (e := 3) (size := 1) w1 #[] 0 B1.size (by simp [maxLen]) rfl))).mono ?_
    rintro e w2 ⟨u2, rfl, hB2, ho2⟩
    have B2 := B1a.trans (hB2.mono B1a.size)
    have HH := Lib.hid (And.intro B2 ho2)
    clear B2 hB2 ho2
    go_wp2_with fail
    go_ret
    exact ⟨_, rfl, HH.out.1, HH.out.2.ints⟩
  · rw [show freeV n o m ks = [] by unfold freeV; rw [if_neg h30]]
    rw [show nodesOfV ks = -1 by unfold nodesOfV; rw [if_neg h30]] at HN
    go_enter Try.func17, Try.ntmps17
    go_wp2_with fail
    refine (HN.out _).mono ?_
    rintro e w1 ⟨rfl, hB1⟩
    have B1 := (HB.out _).trans (hB1.mono (HB.out _).size)
    go_wp2_with fail
    go_ret
    exact ⟨_, rfl, B1, (Own.nil _ _).ints⟩
end Go.Proofs.Ytmahamlfdegkkab
