/- Contracts of the sizes and of the equality of expressions. -/
import Derived.Test.YtdooageiopnhaabT3
namespace Go.Proofs.Ytdooageiopnhaab
open Go.RowKit Go.BigFrame
theorem sumL_rest {es : List Ex} {k : Nat} : sumL one_ (es.take k) + (es.length - k) ≤ sumL one_ es := by
  have h1 := sumL_append one_ (es.take k) (es.drop k)
  rw [List.take_append_drop] at h1
  have h2 := sumL_length (es.drop k)
  rw [List.length_drop] at h2
  omega
theorem szExpr_of {u : Value} {ks : List Ex} (o n : Int) (left : Nat) (w : World) (hu : ∃ A c, u = .slice A ks.length c)
    (C : ∀ O, Calls Try.prog 34 #[u, .int .i64 left] (w.alloc O) fun e w' => e = .returned (.int .i64 (leftV left (sumL one_ ks))) ∧ Below (w.alloc O).heap.size (w.alloc O) w') (hl : left ≤ 1048576) :
    Calls Try.prog 9 #[.agg #[.int .i64 o, .int .i64 n, u], .int .i64 left] w fun e w' => e = .returned (.int .i64 (leftV left (sumL one_ ks))) ∧ Below w.heap.size w w' := by
  obtain ⟨A, c, rfl⟩ := hu
  have HB := Lib.hid fun O => (Below.refl w.heap.size w).alloc (Nat.le_refl _) O
  have HC := Lib.hid C
  clear C
  by_cases h : sumL one_ ks ≤ left
  · obtain ⟨x, hx⟩ : ∃ x : Nat, leftV left (sumL one_ ks) = (x : Int) := ⟨left - sumL one_ ks, by unfold leftV; rw [if_pos h]; omega⟩
    have hx2 : x ≤ 1048576 := by unfold leftV at hx; rw [if_pos h] at hx; omega
    rw [hx] at HC ⊢
    clear hx
    go_enter Try.func9, Try.ntmps9
    go_wp2_with fail
    refine (HC.out _).mono ?_
    rintro e w1 ⟨rfl, hB1⟩
    go_wp2_with fail
    go_ret
    exact ⟨rfl, (HB.out _).trans (hB1.mono (HB.out _).size)⟩
  · rw [show leftV left (sumL one_ ks) = -1 by unfold leftV; rw [if_neg h]] at HC ⊢
    go_enter Try.func9, Try.ntmps9
    go_wp2_with fail
    refine (HC.out _).mono ?_
    rintro e w1 ⟨rfl, hB1⟩
    go_wp2_with fail
    go_ret
    exact ⟨rfl, (HB.out _).trans (hB1.mono (HB.out _).size)⟩
set_option maxHeartbeats 400000 in
theorem szExprS_any {w0 : World} {L U : Nat} {u : Value} {ks : List Ex} (h : Exs w0 L U u ks) : ∀ (left : Nat) (w : World), Same L U w0 w → U ≤ w.heap.size → left ≤ 1048576 →
    Calls Try.prog 34 #[u, .int .i64 left] w fun e w' => e = .returned (.int .i64 (leftV left (sumL one_ ks))) ∧ Below w.heap.size w w' := by
  induction h with
  | mk A c V es r hk ih =>
    intro left w hS hU hlim
    have hl := r.le
    have hc : c ≤ 9223372036854775807 := r.cap
    have hsub := fun i (hi : i < es.length) => (hk i hi).open_
    have IH := Lib.hid ih
    have HS := Lib.hid hsub
    clear ih hsub hk
    have hlen := sumL_length es
    by_cases h1 : (es.length : Int) ≤ (left : Int)
    · go_enter Try.func34, Try.ntmps34
      go_wp2_with fail
      go_loopw [1, 5] (fun m i wr => ∃ k q : Nat, k ≤ es.length ∧ i = .int .i64 k ∧ m = .int .i64 q ∧ q + es.length + sumL one_ (es.take k) = left + k ∧ Below w.heap.size w wr) (fun _ i _ => es.length - (intOf i).toNat)
      case atStart => exact ⟨0, left - es.length, by omega, rfl, by exact congrArg (Value.int .i64) (by omega), by simp [sumL]; omega, Below.refl _ _⟩
      case round =>
        obtain ⟨k, q, hk, rfl, rfl, hq, hB⟩ := hrel
        have hz := hB.size
        by_cases hlt : k < es.length
        · have hS1 : Same L U w0 wr := hS.trans (Same.of_below hB hU)
          obtain ⟨b, oo, rfl, _, hb, c0, c1, c2⟩ := row_at (r.keep hS1) hlt
          obtain ⟨A', c', hV, _, _⟩ := HS.out k hlt
          have st := sumL_step one_ hlt
          have tot := sumL_rest (es := es) (k := k + 1)
          have st0 := sumL_length (es.take k)
          rw [List.length_take] at st0
          have q1 : q ≤ 1048576 := by omega
          have CK := szExpr_of (ks := (nthX es k).kids) (nthX es k).op (nthX es k).num q wr ⟨A', c', hV⟩ (fun O => IH.out k hlt q (wr.alloc O) (hS1.trans (Same.of_below ((Below.refl _ wr).alloc (Nat.le_refl _) O) (by omega))) (by simp; omega) q1) q1
          have hn : (nthX es k).sum one_ = 1 + sumL one_ (nthX es k).kids := by rw [sum_eq]; rfl
          rw [hV] at c2 CK
          obtain ⟨s, hs⟩ : ∃ s, sumL one_ (es.take k) = s := ⟨_, rfl⟩
          obtain ⟨t, ht⟩ : ∃ t, sumL one_ (nthX es k).kids = t := ⟨_, rfl⟩
          obtain ⟨s', hs'⟩ : ∃ s', sumL one_ (es.take (k + 1)) = s' := ⟨_, rfl⟩
          obtain ⟨T, hT⟩ : ∃ T, sumL one_ es = T := ⟨_, rfl⟩
          rw [hs, hn, ht, hs'] at st
          rw [hs', hT] at tot
          rw [hs] at hq st0
          rw [ht] at CK
          have HT := Lib.hid hT
          have HH := Lib.hid hs'
          have CK := Lib.hid CK
          clear hs hn hs' hT ht
          by_cases hle : t ≤ q
          · obtain ⟨x, hx⟩ : ∃ x : Nat, leftV q t = (x : Int) := ⟨q - t, by unfold leftV; rw [if_pos hle]; omega⟩
            have hx2 : x + t = q := by unfold leftV at hx; rw [if_pos hle] at hx; omega
            rw [hx] at CK
            clear hx
            go_wp2_with fail
            refine CK.out.mono ?_
            rintro e w2 ⟨rfl, hB2⟩
            have hB5 := Lib.hid (hB.trans (hB2.mono hz))
            clear hB2 hB hS1
            go_wp2_with fail
            go_roundw
            case rel => exact ⟨k + 1, x, by omega, by go_num, rfl, by rw [HH.out]; omega, hB5.out⟩
            case measure => simp [intOf]; omega
          · rw [show leftV q t = -1 by unfold leftV; rw [if_neg hle]] at CK
            go_wp2_with fail
            refine CK.out.mono ?_
            rintro e w2 ⟨rfl, hB2⟩
            have hB5 := Lib.hid (hB.trans (hB2.mono hz))
            clear hB2 hB hS1
            go_wp2_with fail
            go_ret
            exact ⟨ret_int (by unfold leftV; rw [HT.out, if_neg (by omega)]), hB5.out⟩
        · rw [sumL_all one_ hlt] at hq
          go_wp2_with fail
          go_ret
          exact ⟨ret_int (by unfold leftV; rw [if_pos (by omega)]; omega), hB⟩
    · go_enter Try.func34, Try.ntmps34
      go_wp2_with fail
      go_ret
      exact ⟨ret_int (by unfold leftV; rw [if_neg (by omega)]), Below.refl _ _⟩
theorem szExpr_any {w : World} {L U : Nat} {u : Value} {ks : List Ex} (h : Exs w L U u ks) (o n : Int) (left : Nat) (hU : U ≤ w.heap.size) (hl : left ≤ 1048576) :
    Calls Try.prog 9 #[.agg #[.int .i64 o, .int .i64 n, u], .int .i64 left] w fun e w' => e = .returned (.int .i64 (leftV left (sumL one_ ks))) ∧ Below w.heap.size w w' := by
  obtain ⟨A, c, e, _⟩ := h.open_
  exact szExpr_of o n left w ⟨A, c, e⟩ (fun O => szExprS_any h left (w.alloc O) (Same.of_below ((Below.refl _ w).alloc (Nat.le_refl _) O) hU) (by simp; omega) hl) hl
/-! Equality, where both are the same -/
theorem eqExpr_of {u u' : Value} {ks : List Ex} (o n : Int) (w : World) (hu : ∃ A c, u = .slice A ks.length c) (hu' : ∃ A c, u' = .slice A ks.length c)
    (C : ∀ O O', Calls Try.prog 44 #[u, u'] ((w.alloc O).alloc O') fun e w' => e = .returned (.bool true) ∧ Below ((w.alloc O).alloc O').heap.size ((w.alloc O).alloc O') w') :
    Calls Try.prog 13 #[.agg #[.int .i64 o, .int .i64 n, u], .agg #[.int .i64 o, .int .i64 n, u']] w fun e w' => e = .returned (.bool true) ∧ Below w.heap.size w w' := by
  obtain ⟨A, c, rfl⟩ := hu
  obtain ⟨A', c', rfl⟩ := hu'
  have HB := Lib.hid fun O O' => ((Below.refl w.heap.size w).alloc (Nat.le_refl _) O).alloc (by simp) O'
  have HC := Lib.hid C
  clear C
  go_enter Try.func13, Try.ntmps13
  go_wp2_with fail
  refine (HC.out _ _).mono ?_
  rintro e w1 ⟨rfl, hB1⟩
  have hB2 := (HB.out _ _).trans (hB1.mono (HB.out _ _).size)
  go_wp2_with fail
  go_ret
  exact ⟨rfl, hB2⟩
set_option maxHeartbeats 800000 in
theorem eqExprS_same {w0 : World} {L U : Nat} {u : Value} {ks : List Ex} (h : Exs w0 L U u ks) : ∀ {w1 : World} {L' U' : Nat} {u' : Value}, Exs w1 L' U' u' ks → ∀ w : World, Same L U w0 w → Same L' U' w1 w → U ≤ w.heap.size → U' ≤ w.heap.size →
    Calls Try.prog 44 #[u, u'] w fun e w' => e = .returned (.bool true) ∧ Below w.heap.size w w' := by
  induction h with
  | mk A c V es r hk ih =>
    intro w1 L' U' u' h' w hS hS' hU hU'
    cases h' with
    | mk A2 c2 V2 _ r2 hk2 =>
    have hl := r.le
    have hc : c ≤ 9223372036854775807 := r.cap
    have hl2 := r2.le
    have hc2 : c2 ≤ 9223372036854775807 := r2.cap
    have HS := Lib.hid fun i (hi : i < es.length) => (hk i hi).open_
    have HS2 := Lib.hid fun i (hi : i < es.length) => (hk2 i hi).open_
    have IH := Lib.hid ih
    have HK2 := Lib.hid hk2
    clear ih hk hk2
    go_enter Try.func44, Try.ntmps44
    go_wp2_with fail
    go_loopw [5] (fun i wr => ∃ k : Nat, k ≤ es.length ∧ i = .int .i64 k ∧ Below w.heap.size w wr) (fun i _ => es.length - (intOf i).toNat)
    case atStart => exact ⟨0, by omega, rfl, Below.refl _ _⟩
    case round =>
      obtain ⟨k, hk, rfl, hB⟩ := hrel
      have hz := hB.size
      by_cases hlt : k < es.length
      · have hS1 : Same L U w0 wr := hS.trans (Same.of_below hB hU)
        have hS2 : Same L' U' w1 wr := hS'.trans (Same.of_below hB hU')
        obtain ⟨b, o, rfl, _, hb, c0, c1, c3⟩ := row_at (r.keep hS1) hlt
        obtain ⟨b', o', rfl, _, hb', d0, d1, d3⟩ := row_at (r2.keep hS2) hlt
        obtain ⟨A3, k3, hV, _, _⟩ := HS.out k hlt
        obtain ⟨A4, k4, hV2, _, _⟩ := HS2.out k hlt
        have CK := eqExpr_of (ks := (nthX es k).kids) (nthX es k).op (nthX es k).num wr.drew ⟨A3, k3, hV⟩ ⟨A4, k4, hV2⟩ (fun O O' => IH.out k hlt (HK2.out k hlt) _ (hS1.trans (Same.of_below (((Below.refl wr.heap.size wr).drew.alloc (by simp) O).alloc (by simp) O') (by omega))) (hS2.trans (Same.of_below (((Below.refl wr.heap.size wr).drew.alloc (by simp) O).alloc (by simp) O') (by omega))) (by simp; omega) (by simp; omega))
        rw [hV] at c3 CK
        rw [hV2] at d3 CK
        have CK := Lib.hid CK
        have k0 : (0 : Int) ≤ (k : Int) := by omega
        have k1 : (k : Int) < (es.length : Int) := by omega
        have g1 : b < wr.heap.size := by omega
        have g2 : b' < wr.heap.size := by omega
        have HB := Lib.hid hB
        clear hB hS1 hS2 hV hV2
        go_wp2_with fail
        go_region_held3 (fun w' => w'.cell? ⟨b, o + k * 3, none⟩ = some (.int .i64 (nthX es k).op) ∧ w'.cell? ⟨b, o + k * 3 + 1, none⟩ = some (.int .i64 (nthX es k).num) ∧ w'.cell? ⟨b, o + k * 3 + 2, none⟩ = some (.slice A3 (nthX es k).kids.length k3) ∧ w'.cell? ⟨b', o' + k * 3, none⟩ = some (.int .i64 (nthX es k).op) ∧ w'.cell? ⟨b', o' + k * 3 + 1, none⟩ = some (.int .i64 (nthX es k).num) ∧ w'.cell? ⟨b', o' + k * 3 + 2, none⟩ = some (.slice A4 (nthX es k).kids.length k4))
          (first | go_keep | (exact ⟨(hB1.cell (by simp; assumption)).trans (by simp; assumption), (hB1.cell (by simp; assumption)).trans (by simp; assumption), (hB1.cell (by simp; assumption)).trans (by simp; assumption), (hB1.cell (by simp; assumption)).trans (by simp; assumption), (hB1.cell (by simp; assumption)).trans (by simp; assumption), (hB1.cell (by simp; assumption)).trans (by simp; assumption)⟩))
          (first | (go_at_call 13; refine CK.out.mono ?_; rintro e w' ⟨rfl, hB1⟩))
        have hB2 := HB.out.trans (((Below.refl _ wr).drew.trans (hB1.mono (by simp))).mono hz)
        clear hB1
        go_wp2_with fail
        go_roundw
        case rel => exact ⟨k + 1, by omega, by go_num, hB2⟩
        case measure => simp [intOf]; omega
      · go_wp2_with fail
        go_ret
        exact ⟨rfl, hB⟩
theorem eqExpr_same {w : World} {L U L' U' : Nat} {u u' : Value} {ks : List Ex} (h : Exs w L U u ks) (h' : Exs w L' U' u' ks) (o n : Int) (hU : U ≤ w.heap.size) (hU' : U' ≤ w.heap.size) :
    Calls Try.prog 13 #[.agg #[.int .i64 o, .int .i64 n, u], .agg #[.int .i64 o, .int .i64 n, u']] w fun e w' => e = .returned (.bool true) ∧ Below w.heap.size w w' := by
  obtain ⟨A, c, e, _⟩ := h.open_
  obtain ⟨A', c', e', _⟩ := h'.open_
  exact eqExpr_of o n w ⟨A, c, e⟩ ⟨A', c', e'⟩ (fun O O' => eqExprS_same h h' _ (Same.of_below (((Below.refl w.heap.size w).alloc (Nat.le_refl _) O).alloc (by simp) O') hU) (Same.of_below (((Below.refl w.heap.size w).alloc (Nat.le_refl _) O).alloc (by simp) O') hU') (by simp; omega) (by simp; omega))
end Go.Proofs.Ytdooageiopnhaab
